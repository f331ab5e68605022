import PyProof.Rows.All
import Wide.All
import OpenK.AllK
import Wide.FinOn
import Lean
import PyProof.EqAt
import PyProof.EqKinds
import PyProof.TupleCall
import PySem.Challenge.RW_ringlayers_k03_whole_areas
set_option Elab.async false
set_option linter.all false
set_option maxRecDepth 100000
namespace L2
open PySem PySem.Spec PyProof.Rows

abbrev Key := Sum Int Str
def keyIs : Key → Value → Bool
  | .inl k, v => Value.isInt k v
  | .inr x, v => Value.isStrOf x v
def keyH (w : World) : Key → Int
  | .inl k => hashInt k
  | .inr x => hashStr w x
theorem keyIs_shape : ∀ {k : Key} {v : Value}, keyIs k v = true → (∃ i t, k = Sum.inl i ∧ v = Value.int i t) ∨ (∃ x t, k = Sum.inr x ∧ v = Value.str x t)
  | .inl i, v, h => by
    obtain ⟨t, e⟩ := Value.isInt_shape (k := i) (v := v) h
    exact .inl ⟨i, t, rfl, e⟩
  | .inr x, v, h => by
    obtain ⟨t, e⟩ := Value.isStrOf_shape (x := x) (v := v) h
    exact .inr ⟨x, t, rfl, e⟩
theorem keyIs_int (i : Int) (t : Tok) : keyIs (.inl i) (.int i t) = true := by simp [keyIs, Value.isInt]
theorem keyIs_str (x : Str) (t : Tok) : keyIs (.inr x) (.str x t) = true := by simp [keyIs, Value.isStrOf]
theorem key_ll (a b : Int) : decide ((Sum.inl a : Key) = Sum.inl b) = (a == b) := by
  by_cases e : a = b
  · subst e; simp
  · have h : ¬ (Sum.inl a : Key) = Sum.inl b := fun q => e (Sum.inl.inj q)
    rw [decide_eq_false h]
    exact (beq_eq_false_iff_ne.mpr e).symm
theorem key_rr (a b : Str) : decide ((Sum.inr a : Key) = Sum.inr b) = decide (a = b) := by
  by_cases e : a = b
  · subst e; simp
  · have h : ¬ (Sum.inr a : Key) = Sum.inr b := fun q => e (Sum.inr.inj q)
    rw [decide_eq_false h, decide_eq_false e]
theorem key_lr (a : Int) (b : Str) : decide ((Sum.inl a : Key) = Sum.inr b) = false := decide_eq_false (fun q => nomatch q)
theorem key_rl (a : Str) (b : Int) : decide ((Sum.inr a : Key) = Sum.inl b) = false := decide_eq_false (fun q => nomatch q)

def mixKind (prog : Program) (w : World) : PySem.KeyKind prog w Key where
  is := keyIs
  hash := keyH w
  inj := fun v a b ha hb => by
    rcases keyIs_shape ha with ⟨i, t, rfl, rfl⟩ | ⟨x, t, rfl, rfl⟩
    · rcases keyIs_shape hb with ⟨j, u, rfl, e⟩ | ⟨y, u, rfl, e⟩
      · injection e with e1 _; rw [e1]
      · exact nomatch e
    · rcases keyIs_shape hb with ⟨j, u, rfl, e⟩ | ⟨y, u, rfl, e⟩
      · exact nomatch e
      · injection e with e1 _; rw [e1]
  byValue := fun k v h => by
    rcases keyIs_shape h with ⟨i, t, rfl, rfl⟩ | ⟨x, t, rfl, rfl⟩ <;> rfl
  pyHash := fun hv h => by
    rcases keyIs_shape hv with ⟨i, t, rfl, rfl⟩ | ⟨x, t, rfl, rfl⟩
    · exact wpAny_pyHash_int h
    · exact wpAny_pyHash_str h
  eqBool := fun hu hv h => by
    rcases keyIs_shape hu with ⟨i, t, rfl, rfl⟩ | ⟨x, t, rfl, rfl⟩
    · rcases keyIs_shape hv with ⟨j, u, rfl, rfl⟩ | ⟨y, u, rfl, rfl⟩
      · rw [key_ll] at h; exact wpAny_eqBool_int h
      · rw [key_lr] at h; exact SeqAt.EqAt.int_str i t y u _ _ _ _ h
    · rcases keyIs_shape hv with ⟨j, u, rfl, rfl⟩ | ⟨y, u, rfl, rfl⟩
      · rw [key_rl] at h; exact SeqAt.EqAt.str_int x t j u _ _ _ _ h
      · rw [key_rr] at h; exact wpAny_eqBool_str h
  «strs» := fun k x t v h => by
    rcases keyIs_shape h with ⟨i, u, rfl, e⟩ | ⟨y, u, rfl, e⟩
    · exact nomatch e
    · injection e with e1 _
      subst e1
      cases v <;> rfl

theorem mixKind_int (prog : Program) (w : World) (i : Int) (t : Tok) : (mixKind prog w).is (.inl i) (.int i t) = true := keyIs_int i t
theorem mixKind_str (prog : Program) (w : World) (x : Str) (t : Tok) : (mixKind prog w).is (.inr x) (.str x t) = true := keyIs_str x t
end L2

namespace L2
open PySem PySem.Spec PyProof.Rows

inductive V where
  | non | bl (b : Bool) | int (i : Int) | str (x : Str) | byt (b : Array UInt8) | flt (b : UInt64) | ref (a : Addr) | ty (n : String)
  deriving DecidableEq

def RelV : V → Value → Prop
  | .non, u => u = Value.none
  | .bl b, u => u = Value.bool b
  | .int i, u => ∃ t, u = Value.int i t
  | .str x, u => ∃ t, u = Value.str x t
  | .byt b, u => ∃ t, u = Value.bytes b t
  | .flt b, u => ∃ t, u = Value.float b t
  | .ref a, u => u = Value.ref a
  | .ty n, u => u = Value.type n

abbrev Vals : List V → List Value → Prop := Paired RelV
theorem Vals.length {xs : List V} {us : List Value} (r : Vals xs us) : xs.length = us.length := Paired.length r
theorem Vals.get : ∀ {xs : List V} {us : List Value} {i : Nat} {x : V}, Vals xs us → xs[i]? = some x → ∃ u, us[i]? = some u ∧ RelV x u
  | _, _, _, _, .nil, e => by simp at e
  | _, _, 0, _, .cons r _, e => by simp at e; subst e; exact ⟨_, rfl, r⟩
  | _, _, i + 1, x, .cons _ t, e => by
    obtain ⟨u, h1, h2⟩ := Vals.get (i := i) (x := x) t (by simpa using e)
    exact ⟨u, by simpa using h1, h2⟩
theorem Vals.set {x : V} {u : Value} (r : RelV x u) : ∀ {xs : List V} {us : List Value} (i : Nat), Vals xs us → Vals (xs.set i x) (us.set i u)
  | _, _, _, .nil => .nil
  | _, _, 0, .cons _ t => .cons r t
  | _, _, i + 1, .cons q t => .cons q (Vals.set r i t)
theorem Vals.append : ∀ {xs ys : List V} {us ws : List Value}, Vals xs us → Vals ys ws → Vals (xs ++ ys) (us ++ ws)
  | _, _, _, _, .nil, s => s
  | _, _, _, _, .cons r t, s => .cons r (Vals.append t s)
theorem Vals.take : ∀ {xs : List V} {us : List Value} (n : Nat), Vals xs us → Vals (xs.take n) (us.take n)
  | _, _, 0, _ => .nil
  | _, _, _ + 1, .nil => .nil
  | _, _, n + 1, .cons r t => .cons r (Vals.take n t)
theorem Vals.drop : ∀ {xs : List V} {us : List Value} (n : Nat), Vals xs us → Vals (xs.drop n) (us.drop n)
  | _, _, 0, r => r
  | _, _, _ + 1, .nil => .nil
  | _, _, n + 1, .cons _ t => Vals.drop n t

def RelO : Option V → Option Value → Prop
  | some v, some u => RelV v u
  | none, none => True
  | _, _ => False
def KV {κ : Type} : List (κ × V) → List (κ × Value) → Prop := Paired fun (p : κ × V) (q : κ × Value) => p.1 = q.1 ∧ RelV p.2 q.2

def kV : Key → V
  | .inl i => .int i
  | .inr x => .str x

inductive HO where
  | lst (xs : List V)
  | tup (xs : List V)
  | dK (kvs : List (Key × V)) | dT (kvs : List (List Key × V))
  | set (S : Int → Bool) (n : Nat)
  | ins (C dx : Addr) (fs : List (Str × V))
  | own (x : Addr)
  | xd (fs : List (Str × V))
  | met (f x : Addr)
  | rng (lo hi : Int)
  | frz (o : Obj) (u : HO)
  | tbl (ps : Array Value)
  | ext (φ : Heap → Prop)

abbrev Hp := Addr → Option HO
def upd (H : Hp) (a : Addr) (o : HO) : Hp := fun b => if b = a then some o else H b
theorem upd_same {H : Hp} {a : Addr} {o : HO} : upd H a o a = some o := by unfold upd; rw [if_pos rfl]
theorem upd_ne {H : Hp} {a b : Addr} {o : HO} (h : b ≠ a) : upd H a o b = H b := by unfold upd; rw [if_neg h]
theorem upd_upd {H : Hp} {a : Addr} {o u : HO} : upd (upd H a o) a u = upd H a u := by
  funext b; unfold upd; split <;> rfl
theorem ne_of {H : Hp} {a b : Addr} {o u : HO} (h : H a = some o) (h' : H b = some u) (d : o ≠ u) : a ≠ b := by
  intro e; subst e; rw [h] at h'; exact d (Option.some.inj h')
theorem ne_of_none {H : Hp} {a b : Addr} {o : HO} (h : H a = some o) (h' : H b = none) : a ≠ b := by
  intro e; subst e; rw [h] at h'; cases h'

section
variable (P : Program) (w : World)
def ObjOk (H : Hp) (h : Heap) (a : Addr) : HO → Prop
  | .lst xs => xs.length ≤ sizeLine ∧ ∃ (its : List Value) (n : Nat), Vals xs its ∧ h.get? a = some { cls := .type "list", data := .seq its.toArray n }
  | .tup xs => xs.length ≤ sizeLine ∧ ∃ its : List Value, Vals xs its ∧ IsTup h a its.toArray
  | .dK kvs => kvs.length ≤ sizeLine ∧ (a == sysModules) = false ∧ ∃ vs, KV kvs vs ∧ h.DictOf (mixKind P w) a vs
  | .dT kvs => kvs.length ≤ sizeLine ∧ (a == sysModules) = false ∧ ∃ xs : List (List Key × Addr × Value),
      Paired (fun (p : List Key × V) (q : List Key × Addr × Value) => p.1 = q.1 ∧ H q.2.1 = some (.tup (p.1.map kV)) ∧ RelV p.2 q.2.2) kvs xs ∧
      ∃ o es ep, h.get? a = some o ∧ o.ExactDict ∧ o.data = .dict es ep ∧ es.toList = xs.map (entryOfKey (tupleKind (mixKind P w))) ∧ (xs.map (·.1)).Nodup
  | .set S n => h.SetOf (intKind P w) a S n
  | .ins C dx fs => H dx = some (.own a) ∧ fs.length ≤ 1000 ∧ dx ≠ a ∧ h.get? a = some (PySem.W.instObj C dx) ∧
      ∃ mA, h.Ns1 dx mA ∧ (∀ f, RelO (fs.lookup f) (mA f)) ∧ PySem.Within mA (fs.map (·.1))
  | .own _ => ∃ o, h.get? a = some o
  | .xd fs => ∃ mA, h.Ns1 a mA ∧ ∀ f, RelO (fs.lookup f) (mA f)
  | .rng lo hi => ∃ t u v, h.get? a = some { cls := .type "range", data := .fields #[.int lo t, .int hi u, .int 1 v] }
  | .frz o u => h.get? a = some o ∧ ObjOk H h a u
  | .tbl ps => h.get? a = some { cls := .none, data := .fields ps }
  | .met f x => h.get? a = some (PySem.W.methodObj (.ref f) (.ref x))
  | .ext φ => φ h ∧ (∃ o, h.get? a = some o) ∧ ∀ h1 h2 : Heap, φ h1 → (∀ o, h1.get? a = some o → h2.get? a = some o) → φ h2
def HOk (H : Hp) (h : Heap) : Prop := ∀ a o, H a = some o → ObjOk P w H h a o
end

section
variable {P : Program} {w : World} {H H' : Hp} {h h' : Heap} {a : Addr} {o : HO}
theorem ObjOk.lt (x : ObjOk P w H h a o) : a < h.objs.size := by
  cases o with
  | lst xs => obtain ⟨_, _, _, _, e⟩ := x; exact Heap.lt_size e
  | tup xs => obtain ⟨_, _, _, p⟩ := x; exact p.lt
  | dK kvs => obtain ⟨_, _, _, _, o, _, _, e, _⟩ := x; exact Heap.lt_size e
  | dT kvs => obtain ⟨_, _, _, _, o, _, _, e, _⟩ := x; exact Heap.lt_size e
  | set S n => obtain ⟨o, _, _, _, e, _⟩ := x; exact Heap.lt_size e
  | ins C dx fs => obtain ⟨_, _, _, e, _⟩ := x; exact Heap.lt_size e
  | own y => obtain ⟨_, e⟩ := x; exact Heap.lt_size e
  | xd fs => obtain ⟨_, ⟨_, _, _, e, _⟩, _⟩ := x; exact Heap.lt_size e
  | rng lo hi => obtain ⟨_, _, _, e⟩ := x; exact Heap.lt_size e
  | frz ob u => obtain ⟨e, _⟩ := x; exact Heap.lt_size e
  | tbl ps => exact Heap.lt_size (show h.get? a = some _ from x)
  | met f y => exact Heap.lt_size (show h.get? a = some _ from x)
  | ext φ => obtain ⟨_, ⟨_, e⟩, _⟩ := x; exact Heap.lt_size e
theorem Paired.mapP {α β : Type} {F G : α → β → Prop} : ∀ {l₁ : List α} {l₂ : List β}, Paired F l₁ l₂ → (∀ a b, F a b → G a b) → Paired G l₁ l₂
  | _, _, .nil, _ => .nil
  | _, _, .cons r t, f => .cons (f _ _ r) (Paired.mapP t f)
theorem ObjOk.stay (x : ObjOk P w H h a o) (k : ∀ b u, (b = a ∨ H b = some (.own a)) → h.get? b = some u → h'.get? b = some u)
    (ho : ∀ b, H b = some (.own a) → H' b = some (.own a)) (ht : ∀ b xs, H b = some (.tup xs) → H' b = some (.tup xs)) : ObjOk P w H' h' a o := by
  induction o with
  | lst xs => obtain ⟨z, its, n, r, e⟩ := x; exact ⟨z, its, n, r, k _ _ (.inl rfl) e⟩
  | tup xs => obtain ⟨z, its, r, ob, e, c⟩ := x; exact ⟨z, its, r, ob, k _ _ (.inl rfl) e, c⟩
  | dK kvs => obtain ⟨z, y, vs, r, ob, es, ep, e, c⟩ := x; exact ⟨z, y, vs, r, ob, es, ep, k _ _ (.inl rfl) e, c⟩
  | dT kvs =>
    obtain ⟨z, y, xs, r, ob, es, ep, e, c⟩ := x
    exact ⟨z, y, xs, Paired.mapP r fun p q z => ⟨z.1, ht _ _ z.2.1, z.2.2⟩, ob, es, ep, k _ _ (.inl rfl) e, c⟩
  | set S n => obtain ⟨ob, es, ep, t, e, c⟩ := x; exact ⟨ob, es, ep, t, k _ _ (.inl rfl) e, c⟩
  | ins C dx fs =>
    obtain ⟨d, z, ne, e, mA, ⟨od, es, ep, e2, c⟩, r⟩ := x
    exact ⟨ho _ d, z, ne, k _ _ (.inl rfl) e, mA, ⟨od, es, ep, k _ _ (.inr d) e2, c⟩, r⟩
  | own y => obtain ⟨ob, e⟩ := x; exact ⟨ob, k _ _ (.inl rfl) e⟩
  | xd fs => obtain ⟨mA, ⟨od, es, ep, e, c⟩, r⟩ := x; exact ⟨mA, ⟨od, es, ep, k _ _ (.inl rfl) e, c⟩, r⟩
  | rng lo hi => obtain ⟨t, u, v, e⟩ := x; exact ⟨t, u, v, k _ _ (.inl rfl) e⟩
  | frz ob u ih => obtain ⟨e, q⟩ := x; exact ⟨k _ _ (.inl rfl) e, ih q⟩
  | tbl ps =>
    have e : h.get? a = some { cls := .none, data := .fields ps } := x
    show h'.get? a = some { cls := .none, data := .fields ps }
    exact k a _ (.inl rfl) e
  | met f y =>
    have e : h.get? a = some (PySem.W.methodObj (.ref f) (.ref y)) := x
    show h'.get? a = some (PySem.W.methodObj (.ref f) (.ref y))
    exact k a _ (.inl rfl) e
  | ext φ => obtain ⟨p, ⟨o, e⟩, st⟩ := x; exact ⟨st _ _ p fun o q => k _ _ (.inl rfl) q, ⟨o, k _ _ (.inl rfl) e⟩, st⟩
theorem HOk.lt (x : HOk P w H h) (e : H a = some o) : a < h.objs.size := (x a o e).lt
theorem HOk.fresh (x : HOk P w H h) (e : h.objs.size ≤ a) : H a = none := by
  cases q : H a with
  | none => rfl
  | some u => exact absurd (Nat.lt_of_lt_of_le (x.lt q) e) (Nat.lt_irrefl _)
theorem HOk.kept (x : HOk P w H h) (k : ∀ b u, h.get? b = some u → h'.get? b = some u) : HOk P w H h' := fun a o e =>
  (x a o e).stay (fun b u _ q => k b u q) (fun _ q => q) fun _ _ q => q
theorem HOk.laid (x : HOk P w H h) (k : ∀ b u, h.get? b = some u → h'.get? b = some u) (hp : h.objs.size ≤ a) (new : ObjOk P w (upd H a o) h' a o) : HOk P w (upd H a o) h' := fun b u e => by
  have hn := x.fresh hp
  by_cases hb : b = a
  · subst hb; rw [upd_same] at e; cases e; exact new
  · rw [upd_ne hb] at e
    exact (x b u e).stay (fun c v _ q => k c v q) (fun c q => by rw [upd_ne (ne_of_none q hn)]; exact q) fun c xs q => by rw [upd_ne (ne_of_none q hn)]; exact q
end

def Rd (H : Hp) (a : Addr) (u : HO) : Prop := H a = some u ∨ ∃ o, H a = some (.frz o u)
theorem Rd.ok {P : Program} {w : World} {H : Hp} {h : Heap} {a : Addr} {u : HO} (r : Rd H a u) (x : HOk P w H h) : ObjOk P w H h a u := by
  rcases r with r | ⟨o, r⟩
  · exact x a u r
  · obtain ⟨_, q⟩ := x a _ r
    exact q
def Mut : Option HO → Prop
  | some (.lst _) => True
  | some (.dK _) => True
  | some (.dT _) => True
  | some (.set _ _) => True
  | some (.ins _ _ _) => True
  | some (.ext _) => True
  | _ => False
section
variable {P : Program} {w : World} {H : Hp} {h h' : Heap} {x e : Addr} {o' : HO}
theorem HOk.write (ok : HOk P w H h) (mu : Mut (H x)) (he : e = x ∨ H e = some (.own x)) (k : ∀ b u, b ≠ e → h.get? b = some u → h'.get? b = some u) (heo : ∃ u, h'.get? e = some u)
    (new : ObjOk P w (upd H x o') h' x o') : HOk P w (upd H x o') h' := fun b u q => by
  have nown : ∀ c y, H c = some (.own y) → c ≠ x := fun c y r z => by subst z; rw [r] at mu; exact mu
  have ntup : ∀ c xs, H c = some (.tup xs) → c ≠ x := fun c xs r z => by subst z; rw [r] at mu; exact mu
  by_cases hb : b = x
  · subst hb; rw [upd_same] at q; cases q; exact new
  · rw [upd_ne hb] at q
    by_cases hbe : b = e
    · have q' : H b = some (.own x) := by
        rcases he with z | z
        · exact absurd (hbe.trans z) hb
        · rw [hbe]; exact z
      rw [q] at q'; cases q'
      obtain ⟨v, hv⟩ := heo
      exact ⟨v, by rw [hbe]; exact hv⟩
    · refine (ok b u q).stay (fun c v hc r => k c v ?_ r) (fun c r => by rw [upd_ne (nown c b r)]; exact r) fun c xs r => by rw [upd_ne (ntup c xs r)]; exact r
      rcases hc with rfl | hc
      · exact hbe
      · rintro rfl
        rcases he with z | z
        · exact nown c b hc z
        · rw [hc] at z; cases z; exact hb rfl
end

structure Un (fs ex : List Addr) (H H' : Hp) (h h' : Heap) : Prop where
  keep : ∀ b o, h.get? b = some o → H b = none → b ∉ fs → b ∉ ex → h'.get? b = some o
  slot : ∀ b o, h.get? b = some o → H b = none → b ∈ fs → b ∉ ex → ∃ sl, h'.get? b = some { o with slots := sl }
  free : ∀ b o, h.get? b = some o → H b = none → b ∉ ex → H' b = none
  there : ∀ b o, h.get? b = some o → b ∉ ex → ∃ o', h'.get? b = some o'
  tups : ∀ b xs, H b = some (.tup xs) → H' b = some (.tup xs)
  frzs : ∀ b o u, H b = some (.frz o u) → H' b = some (.frz o u)
  tbls : ∀ b ps, H b = some (.tbl ps) → ∃ more, H' b = some (.tbl (ps ++ more))
section
variable {fs fs' ex ex' : List Addr} {H H1 H2 : Hp} {h h1 h2 h' : Heap} {a x e : Addr} {o : HO}
theorem Un.any (u : Un fs ex H H1 h h1) {b : Addr} {ob : Obj} (q : h.get? b = some ob) (n : H b = none) (hx : b ∉ ex) : ∃ sl, h1.get? b = some { ob with slots := sl } := by
  by_cases hb : b ∈ fs
  · exact u.slot b ob q n hb hx
  · exact ⟨ob.slots, u.keep b ob q n hb hx⟩
theorem Un.kept (k : ∀ b u, h.get? b = some u → h'.get? b = some u) : Un fs ex H H h h' :=
  ⟨fun b ob q _ _ _ => k b ob q, fun b ob q _ _ _ => ⟨ob.slots, k b ob q⟩, fun _ _ _ n _ => n, fun b ob q _ => ⟨ob, k b ob q⟩, fun _ _ q => q, fun _ _ _ q => q, fun _ ps q => ⟨#[], by rw [q]; simp⟩⟩
theorem Un.refl : Un fs ex H H h h := Un.kept fun _ _ q => q
theorem Un.laid (k : ∀ b u, h.get? b = some u → h'.get? b = some u) (hp : h.objs.size ≤ a) (hn : H a = none) : Un fs ex H (upd H a o) h h' where
  keep := fun b u q _ _ _ => k b u q
  slot := fun b u q _ _ _ => ⟨u.slots, k b u q⟩
  free := fun b u q n _ => by rw [upd_ne (Nat.ne_of_lt (Nat.lt_of_lt_of_le (Heap.lt_size q) hp))]; exact n
  there := fun b u q _ => ⟨u, k b u q⟩
  tups := fun b xs q => by rw [upd_ne (ne_of_none q hn)]; exact q
  frzs := fun b u xs q => by rw [upd_ne (ne_of_none q hn)]; exact q
  tbls := fun b ps q => ⟨#[], by rw [upd_ne (ne_of_none q hn), q]; simp⟩
theorem Un.write (mu : Mut (H x)) (he : e = x ∨ H e = some (.own x)) (k : ∀ b u, b ≠ e → h.get? b = some u → h'.get? b = some u) (heo : ∃ u, h'.get? e = some u) : Un fs ex H (upd H x o) h h' := by
  have hx : ∀ b, H b = none → b ≠ x := fun b n z => by subst z; rw [n] at mu; exact mu
  have hb : ∀ b, H b = none → b ≠ e := fun b n z => by
    subst z
    rcases he with r | r
    · exact hx b n r
    · rw [n] at r; cases r
  have hm : ∀ b u, H b = some u → ¬ Mut (some u) → b ≠ x := fun b u q nm z => by subst z; rw [q] at mu; exact nm mu
  refine ⟨fun b u q n _ _ => k b u (hb b n) q, fun b u q n _ _ => ⟨u.slots, k b u (hb b n) q⟩, fun b u q n _ => by rw [upd_ne (hx b n)]; exact n, fun b u q _ => ?_,
    fun b xs q => by rw [upd_ne (hm b _ q fun z => z)]; exact q, fun b u xs q => by rw [upd_ne (hm b _ q fun z => z)]; exact q, fun b ps q => ⟨#[], by rw [upd_ne (hm b _ q fun z => z), q]; simp⟩⟩
  by_cases hbe : b = e
  · subst hbe; exact heo
  · exact ⟨u, k b u hbe q⟩
end

def trk (h : Heap) (H : Hp) : List Addr := (List.range h.objs.size).filter fun a => (H a).isSome
def hidT (h : Heap) (H : Hp) : Heap := PySem.W.hideAll h (trk h H)
theorem hidT_size (h : Heap) (H : Hp) : (hidT h H).objs.size = h.objs.size := PySem.W.hideAll_size _ _
theorem hidT_get {h : Heap} {H : Hp} {b : Addr} {o : Obj} (e : h.get? b = some o) (n : H b = none) : (hidT h H).get? b = some o :=
  PySem.W.hideAll_get _ e fun hm => by
    have q : (H b).isSome = true := (List.mem_filter.mp hm).2
    rw [n] at q; simp at q
theorem of_hidT {h : Heap} {H : Hp} {b : Addr} {o : Obj} (e : (hidT h H).get? b = some o) : h.get? b = some o ∧ H b = none := by
  have e' : h.get? b = some o := PySem.W.of_hideAll (trk h H) e
  refine ⟨e', ?_⟩
  cases q : H b with
  | none => rfl
  | some x =>
    have hm : b ∈ trk h H := List.mem_filter.mpr ⟨List.mem_range.mpr (Heap.lt_size e'), by simp [q]⟩
    have z : (hidT h H).get? b = none := PySem.W.hideAll_none (trk h H) hm
    rw [z] at e; cases e

end L2

namespace L2
open PySem PySem.Spec PyProof.Rows

structure Mod (K : PySem.W.Frag) (mg : Str → Option Value) (base : Heap) : Prop where
  kin : K.In base
  glob : base.Ns mainGlobals mg
  blt : ∃ mb, base.Ns builtinsNs mb ∧ ∀ x : Str, x ≠ "__name__" → mb x = bootBuiltins x
  nolimit : base.NoLimit

/-- the context: a def's body (or a comprehension's block) running. base: fixed through the whole law; s₀, H₀: the entry; outer: the frames whose slots others may change (a def's callers); stack: all frames that run;
   ex: iterators that were made ahead of the entry and are walked here (a comprehension's); fn: the names whose cells were made at the entry (a def: all; a comprehension's block: its own); calm: not within an except suite; pn: pins that every state bears; xe: what is wanted of an exception that leaves the code -/
structure Cx where
  prog : Program
  w : World
  K : PySem.W.Frag
  mg : Str → Option Value
  base : Heap
  A : Around
  N : List Str
  s₀ : Shared
  H₀ : Hp
  env : Env
  outer : List Env
  stack : List Env
  ex : List Addr
  fn : Str → Bool
  calm : Bool
  pn : List (Addr × Obj)
  xe : Value → Shared → Prop
def frs (l : List Env) : List Addr := l.filterMap (·.frame)
abbrev Cx.fs (X : Cx) : List Addr := frs X.outer

def Vis (sc : Scope) (x : Str) : Prop := sc.names.lookup x = some .local ∨ sc.names.lookup x = some .cell ∨ sc.names.lookup x = some .free
def Loc (sc : Scope) (x : Str) : Prop := sc.names.lookup x = some .local ∨ sc.names.lookup x = some .cell
def Look (env : Env) (h : Heap) (m : Str → Option Value) (x : Str) (u : Value) : Prop :=
  (env.kindOf x = some .local ∧ m x = some u) ∨ ((env.kindOf x = some .cell ∨ env.kindOf x = some .free) ∧ ∃ c, env.cells.lookup x = some c ∧ h.IsCell c (some u))

structure Cx.Ok (X : Cx) : Prop where
  mod : Mod X.K X.mg X.base
  kind : X.env.scope.kind = .function
  glob : X.env.globals = mainGlobals
  blt : X.env.builtins = builtinsNs
  above : X.s₀.heap.objs.size ≤ X.env.locals
  inj : ∀ x y c, X.env.cells.lookup x = some c → X.env.cells.lookup y = some c → x = y
  has : ∀ x, (X.env.kindOf x = some .cell ∨ X.env.kindOf x = some .free) → ∃ c, X.env.cells.lookup x = some c
  cab : ∀ x c, X.fn x = true → X.env.cells.lookup x = some c → X.s₀.heap.objs.size ≤ c
  hd : X.calm = true → X.A.handled = none
  frames : X.A.frames = some X.stack
  stk : X.stack = X.outer ∨ (X.stack = X.env :: X.outer ∧ X.env.frame = some X.env.locals)
  exf : ∀ b ∈ X.ex, b ≠ X.env.locals ∧ ∀ x c, X.env.cells.lookup x = some c → c ≠ b
  bs : ∀ b o, X.base.get? b = some o → X.s₀.heap.get? b = some o ∧ X.H₀ b = none
  bsz : X.base.objs.size ≤ X.s₀.heap.objs.size
  noex : ∀ b o, X.base.get? b = some o → b ∉ X.ex
  exfs : ∀ b ∈ X.ex, b ∉ X.fs
  funs : X.s₀.heap.FunFrames X.base X.outer
  frf : ∀ b ∈ X.fs, X.H₀ b = none

structure Inv (X : Cx) (pins : List (Addr × Obj)) (σ : List (Option V)) (H : Hp) (s : Shared) : Prop where
  ok : X.Ok
  os : s.os = X.s₀.os
  bare : AllBare s.gens
  base : Un X.fs X.ex X.H₀ H X.s₀.heap s.heap
  loc : ∃ m, s.heap.Ns X.env.locals m ∧ ∀ (i : Nat) (x : Str) (v : V), X.N[i]? = some x → σ[i]? = some (some v) → Vis X.env.scope x → ∃ u, RelV v u ∧ Look X.env s.heap m x u
  cell : ∀ x c, X.env.cells.lookup x = some c → ∃ v, s.heap.IsCell c v
  free : H X.env.locals = none
  freeC : ∀ x c, X.env.cells.lookup x = some c → H c = none
  pin : ∀ p ∈ X.pn ++ pins, s.heap.get? p.1 = some p.2 ∧ H p.1 = none ∧ p.1 ≠ X.env.locals ∧ p.1 ∉ X.fs ∧ ∀ v, p.2.data ≠ .cell v
  hok : HOk X.prog X.w H s.heap
  len : σ.length = X.N.length

section
variable {X : Cx} {pins : List (Addr × Obj)} {σ : List (Option V)} {H H' : Hp} {s : Shared} {h' : Heap}

theorem Cx.Ok.nofr (ok : X.Ok) {b : Addr} {o : Obj} (e : X.base.get? b = some o) : b ∉ X.fs := fun hb => by
  have := (ok.funs.mem hb).1
  rw [e] at this; cases this
theorem Inv.bs (I : Inv X pins σ H s) : ∀ b o, X.base.get? b = some o → s.heap.get? b = some o ∧ H b = none := fun b o e =>
  ⟨I.base.keep b o (I.ok.bs b o e).1 (I.ok.bs b o e).2 (I.ok.nofr e) (I.ok.noex b o e), I.base.free b o (I.ok.bs b o e).1 (I.ok.bs b o e).2 (I.ok.noex b o e)⟩
theorem Inv.bk (I : Inv X pins σ H s) : ∀ b o, X.base.get? b = some o → s.heap.get? b = some o := fun b o e => (I.bs b o e).1
theorem Inv.mod (I : Inv X pins σ H s) : Mod X.K X.mg X.base := I.ok.mod
theorem Inv.kIn (I : Inv X pins σ H s) : X.K.In s.heap := I.ok.mod.kin.keeps I.bk
theorem Inv.lt (I : Inv X pins σ H s) : X.env.locals < s.heap.objs.size := let ⟨_, hn, _⟩ := I.loc; hn.lt
theorem Inv.sz (I : Inv X pins σ H s) : X.s₀.heap.objs.size ≤ s.heap.objs.size := Nat.le_trans I.ok.above (Nat.le_of_lt I.lt)
theorem Inv.nofs (I : Inv X pins σ H s) {a : Addr} (h : s.heap.objs.size ≤ a) : a ∉ X.fs := fun hb => by
  obtain ⟨_, o, ho, _⟩ := I.ok.funs.mem hb
  exact absurd (Nat.lt_of_lt_of_le (Heap.lt_size ho) (Nat.le_trans I.sz h)) (Nat.lt_irrefl _)
theorem Inv.cne (I : Inv X pins σ H s) : ∀ x c, X.env.cells.lookup x = some c → c ≠ X.env.locals := fun x c e z => by
  obtain ⟨v, o, ho, hd⟩ := I.cell x c e
  obtain ⟨m, ⟨o', es, ep, ho', hd', _⟩, _⟩ := I.loc
  rw [z, ho'] at ho; cases ho; rw [hd'] at hd; cases hd
theorem Inv.funs (I : Inv X pins σ H s) : s.heap.FunFrames X.base X.outer := by
  have all : ∀ (l : List Env), (∀ b ∈ frs l, b ∈ X.fs) → X.s₀.heap.FunFrames X.base l → s.heap.FunFrames X.base l := by
    intro l
    induction l with
    | nil => intro _ _; trivial
    | cons env r ih =>
      intro hs hl
      obtain ⟨hk, ⟨L, o, hf, hn, ho, hd⟩, hr⟩ := hl
      have hL : L ∈ X.fs := hs L (by unfold frs; rw [List.filterMap_cons, hf]; exact List.mem_cons_self)
      obtain ⟨sl, e⟩ := I.base.slot L o ho (I.ok.frf L hL) hL fun z => I.ok.exfs L z hL
      exact ⟨hk, ⟨L, _, hf, hn, e, hd⟩, ih (fun b hb => hs b (by unfold frs; rw [List.filterMap_cons, hf]; exact List.mem_cons_of_mem _ hb)) hr⟩
  exact all X.outer (fun _ hb => hb) I.ok.funs

theorem Inv.stack (I : Inv X pins σ H s) : s.heap.FunFrames X.base X.stack := by
  rcases I.ok.stk with e | ⟨e, hf⟩
  · rw [e]; exact I.funs
  · rw [e]
    obtain ⟨m, hn, _⟩ := I.loc
    refine .cons (by rw [I.ok.kind]; decide) hf hn ?_ I.funs
    exact Heap.get?_none_of_le (Nat.le_trans I.ok.bsz I.ok.above)
theorem Inv.stkSub (I : Inv X pins σ H s) : ∀ b ∈ frs X.stack, b ∈ X.env.locals :: X.fs := fun b hb => by
  rcases I.ok.stk with e | ⟨e, hf⟩
  · rw [e] at hb; exact List.mem_cons_of_mem _ hb
  · rw [e] at hb
    unfold frs at hb
    rw [List.filterMap_cons, hf] at hb
    exact hb
theorem Inv.stkFree (I : Inv X pins σ H s) : ∀ b ∈ frs X.stack, H b = none := fun b hb => by
  rcases List.mem_cons.mp (I.stkSub b hb) with e | hb
  · rw [e]; exact I.free
  · obtain ⟨_, o, ho, _⟩ := I.ok.funs.mem hb
    exact I.base.free b o ho (I.ok.frf b hb) fun z => I.ok.exfs b z hb

theorem Inv.step {g' : Array GenState} {t' : Nat} {d' : Drawn} {ch : List Addr} (I : Inv X pins σ H s)
    (hch : ∀ b ∈ ch, (b ∈ X.ex ∨ X.s₀.heap.objs.size ≤ b) ∧ b ≠ X.env.locals ∧ (∀ x c, X.env.cells.lookup x = some c → c ≠ b) ∧ ∀ p ∈ X.pn ++ pins, p.1 ≠ b)
    (keep : ∀ b o, b ≠ X.env.locals → b ∉ X.fs → b ∉ ch → s.heap.get? b = some o → H b = none → h'.get? b = some o)
    (slot : ∀ b o, b ≠ X.env.locals → b ∈ X.fs → b ∉ ch → s.heap.get? b = some o → H b = none → ∃ sl, h'.get? b = some { o with slots := sl }) (free : ∀ b o, b ∉ ch → s.heap.get? b = some o → H b = none → H' b = none)
    (there : ∀ b o, b ∉ ch → s.heap.get? b = some o → ∃ o', h'.get? b = some o')
    (tups : ∀ b xs, H b = some (.tup xs) → H' b = some (.tup xs)) (frzs : ∀ b o u, H b = some (.frz o u) → H' b = some (.frz o u)) (tbls : ∀ b ps, H b = some (.tbl ps) → ∃ more, H' b = some (.tbl (ps ++ more)))
    (ns : ∀ m, s.heap.Ns X.env.locals m → h'.Ns X.env.locals m) (hok : HOk X.prog X.w H' h') (hg : AllBare g') :
    Inv X pins σ H' { s with heap := h', gens := g', drawn := d', toks := t' } := by
  have neL : ∀ b o, X.s₀.heap.get? b = some o → b ≠ X.env.locals := fun b o e => Nat.ne_of_lt (Nat.lt_of_lt_of_le (Heap.lt_size e) I.ok.above)
  have neC : ∀ b o, X.s₀.heap.get? b = some o → b ∉ X.ex → b ∉ ch := fun b o e hx hb => by
    rcases (hch b hb).1 with z | z
    · exact hx z
    · exact absurd (Nat.lt_of_lt_of_le (Heap.lt_size e) z) (Nat.lt_irrefl _)
  have cellK : ∀ x c, X.env.cells.lookup x = some c → ∀ v, s.heap.IsCell c v → h'.IsCell c v := fun x c e v ⟨o, ho, hd⟩ => by
    have nch : c ∉ ch := fun z => (hch c z).2.2.1 x c e rfl
    by_cases hc : c ∈ X.fs
    · obtain ⟨sl, q⟩ := slot c o (I.cne x c e) hc nch ho (I.freeC x c e)
      exact ⟨_, q, hd⟩
    · exact ⟨o, keep c o (I.cne x c e) hc nch ho (I.freeC x c e), hd⟩
  refine ⟨I.ok, I.os, hg, ⟨fun b o e n hb hx => ?_, fun b o e n hb hx => ?_, fun b o e n hx => ?_, fun b o e hx => ?_, fun b xs e => tups b xs (I.base.tups b xs e), fun b o xs e => frzs b o xs (I.base.frzs b o xs e), fun b ps e => ?_⟩, ?_, fun x c e => ?_, ?_, fun x c e => ?_, fun p hp => ?_, hok, I.len⟩
  · exact keep b o (neL b o e) hb (neC b o e hx) (I.base.keep b o e n hb hx) (I.base.free b o e n hx)
  · obtain ⟨sl, e1⟩ := I.base.slot b o e n hb hx
    obtain ⟨sl', e2⟩ := slot b _ (neL b o e) hb (neC b o e hx) e1 (I.base.free b o e n hx)
    exact ⟨sl', e2⟩
  · obtain ⟨o', e1⟩ := I.base.there b o e hx
    exact free b o' (neC b o e hx) e1 (I.base.free b o e n hx)
  · obtain ⟨o', e1⟩ := I.base.there b o e hx
    exact there b o' (neC b o e hx) e1
  · obtain ⟨m1, e1⟩ := I.base.tbls b ps e
    obtain ⟨m2, e2⟩ := tbls b _ e1
    exact ⟨m1 ++ m2, by rw [e2, Array.append_assoc]⟩
  · obtain ⟨m, hn, hl⟩ := I.loc
    refine ⟨m, ns m hn, fun i x v e1 e2 e3 => ?_⟩
    obtain ⟨u, r, l⟩ := hl i x v e1 e2 e3
    refine ⟨u, r, ?_⟩
    rcases l with l | ⟨k, c, e, z⟩
    · exact .inl l
    · exact .inr ⟨k, c, e, cellK x c e _ z⟩
  · obtain ⟨v, z⟩ := I.cell x c e
    exact ⟨v, cellK x c e v z⟩
  · obtain ⟨m, ⟨o, _, _, ho, _⟩, _⟩ := I.loc
    exact free _ o (fun z => (hch _ z).2.1 rfl) ho I.free
  · obtain ⟨v, o, ho, hd⟩ := I.cell x c e
    exact free c o (fun z => (hch c z).2.2.1 x c e rfl) ho (I.freeC x c e)
  · obtain ⟨e, n, ne, nf, d⟩ := I.pin p hp
    have nch : p.1 ∉ ch := fun z => (hch p.1 z).2.2.2 p hp rfl
    exact ⟨keep p.1 p.2 ne nf nch e n, free p.1 p.2 nch e n, ne, nf, d⟩
theorem Inv.un {t' : Nat} (I : Inv X pins σ H s) (u : Un X.fs [] H H' s.heap h') (hok : HOk X.prog X.w H' h') : Inv X pins σ H' { s with heap := h', toks := t' } := by
  obtain ⟨m, ⟨o, es, ep, ho, r⟩, _⟩ := id I.loc
  obtain ⟨sl, hL⟩ := u.any ho I.free (by simp)
  exact I.step (g' := s.gens) (d' := s.drawn) (ch := []) (fun _ z => nomatch z) (fun b o _ hb _ e n => u.keep b o e n hb (by simp)) (fun b o _ hb _ e n => u.slot b o e n hb (by simp)) (fun b o _ e n => u.free b o e n (by simp)) (fun b o _ e => u.there b o e (by simp)) u.tups u.frzs u.tbls (fun m' hm => by
    obtain ⟨o', es', ep', ho', r'⟩ := hm
    rw [ho] at ho'; cases ho'
    exact ⟨_, es', ep', hL, r'⟩) hok I.bare
theorem Inv.call {g' : Array GenState} {t' : Nat} {d' : Drawn} {ch : List Addr} (I : Inv X pins σ H s) (u : Un (frs X.stack) ch H H' s.heap h') (hok : HOk X.prog X.w H' h') (hg : AllBare g')
    (hch : ∀ b ∈ ch, (b ∈ X.ex ∨ X.s₀.heap.objs.size ≤ b) ∧ b ≠ X.env.locals ∧ (∀ x c, X.env.cells.lookup x = some c → c ≠ b) ∧ ∀ p ∈ X.pn ++ pins, p.1 ≠ b) :
    Inv X pins σ H' { s with heap := h', gens := g', drawn := d', toks := t' } := by
  obtain ⟨m, ⟨o, es, ep, ho, r⟩, _⟩ := id I.loc
  obtain ⟨sl, hL⟩ := u.any ho I.free fun z => (hch _ z).2.1 rfl
  exact I.step (ch := ch) hch (fun b o hL hb hc e n => u.keep b o e n (fun z => (List.mem_cons.mp (I.stkSub b z)).elim hL hb) hc) (fun b o _ _ hc e n => u.any e n hc) (fun b o hc e n => u.free b o e n hc) (fun b o hc e => u.there b o e hc) u.tups u.frzs u.tbls (fun m' hm => by
    obtain ⟨o', es', ep', ho', r'⟩ := hm
    rw [ho] at ho'; cases ho'
    exact ⟨_, es', ep', hL, r'⟩) hok hg
theorem Inv.turned {t' : Nat} {it : Addr} (I : Inv X pins σ H s) (k : ∀ b o, b ≠ it → s.heap.get? b = some o → h'.get? b = some o) (hn : H it = none) (hL : it ≠ X.env.locals)
    (h1 : it ∈ X.ex ∨ X.s₀.heap.objs.size ≤ it) (h2 : ∀ x c, X.env.cells.lookup x = some c → c ≠ it) (h3 : ∀ p ∈ X.pn ++ pins, p.1 ≠ it) : Inv X pins σ H { s with heap := h', toks := t' } := by
  have nit : ∀ b u, H b = some u → b ≠ it := fun b u e z => by rw [z, hn] at e; cases e
  refine I.step (g' := s.gens) (d' := s.drawn) (ch := [it]) (fun b hb => ?_) (fun b o _ _ hc e _ => k b o (fun z => hc (by simp [z])) e) (fun b o _ _ hc e _ => ⟨o.slots, k b o (fun z => hc (by simp [z])) e⟩) (fun _ _ _ _ n => n)
    (fun b o hc e => ⟨o, k b o (fun z => hc (by simp [z])) e⟩) (fun _ _ e => e) (fun _ _ _ e => e) (fun b ps e => ⟨#[], by rw [e]; simp⟩) (fun m hm => ?_) (fun b u e => ?_) I.bare
  · have e : b = it := by simpa using hb
    subst e
    exact ⟨h1, hL, h2, h3⟩
  · obtain ⟨o, es, ep, ho, r⟩ := hm
    exact ⟨o, es, ep, k _ o (Ne.symm hL) ho, r⟩
  · refine (I.hok b u e).stay (fun c v hc q => k c v ?_ q) (fun _ q => q) fun _ _ q => q
    rcases hc with z | z
    · rw [z]; exact nit b u e
    · exact nit c _ z
theorem Inv.tok (I : Inv X pins σ H s) (t : Nat) : Inv X pins σ H { s with toks := t } := I.un (h' := s.heap) (t' := t) Un.refl I.hok
theorem Inv.kept {t' : Nat} (I : Inv X pins σ H s) (k : ∀ b u, s.heap.get? b = some u → h'.get? b = some u) : Inv X pins σ H { s with heap := h', toks := t' } := I.un (Un.kept k) (I.hok.kept k)
theorem Inv.laid {a : Addr} {o : HO} {t' : Nat} (I : Inv X pins σ H s) (k : ∀ b u, s.heap.get? b = some u → h'.get? b = some u) (hp : s.heap.objs.size ≤ a) (new : ObjOk X.prog X.w (upd H a o) h' a o) :
    Inv X pins σ (upd H a o) { s with heap := h', toks := t' } := I.un (Un.laid k hp (I.hok.fresh hp)) (I.hok.laid k hp new)
theorem Inv.write {x e : Addr} {o : HO} {t' : Nat} (I : Inv X pins σ H s) (mu : Mut (H x)) (he : e = x ∨ H e = some (.own x)) (k : ∀ b u, b ≠ e → s.heap.get? b = some u → h'.get? b = some u) (heo : ∃ u, h'.get? e = some u)
    (new : ObjOk X.prog X.w (upd H x o) h' x o) : Inv X pins σ (upd H x o) { s with heap := h', toks := t' } := I.un (Un.write mu he k heo) (I.hok.write mu he k heo new)
theorem Inv.pins_of {pins' : List (Addr × Obj)} (I : Inv X pins σ H s) (h : ∀ p ∈ pins', s.heap.get? p.1 = some p.2 ∧ H p.1 = none ∧ p.1 ≠ X.env.locals ∧ p.1 ∉ X.fs ∧ ∀ v, p.2.data ≠ .cell v) : Inv X pins' σ H s :=
  ⟨I.ok, I.os, I.bare, I.base, I.loc, I.cell, I.free, I.freeC, fun p hp => (List.mem_append.mp hp).elim (fun z => I.pin p (List.mem_append_left _ z)) (h p), I.hok, I.len⟩

theorem nodup_ix {N : List Str} (hN : N.Nodup) {i j : Nat} {x : Str} (a : N[i]? = some x) (b : N[j]? = some x) : i = j := by
  obtain ⟨h1, e1⟩ := List.getElem?_eq_some_iff.mp a
  obtain ⟨h2, e2⟩ := List.getElem?_eq_some_iff.mp b
  exact (List.getElem_inj hN).mp (e1.trans e2.symm)

theorem store_ok2 {M : Model} {A : Around} {E : Value → Shared → Prop} {i : Nat} {x : Str} {v : V} {u : Value} {Q : Unit → Shared → Prop} (I : Inv X pins σ H s) (hN : X.N.Nodup) (hi : X.N[i]? = some x) (hx : Loc X.env.scope x) (r : RelV v u)
    (h : ∀ s', Inv X pins (σ.set i (some v)) H s' → (∃ a, Heap.SameBut a s.heap s'.heap ∧ (a = X.env.locals ∨ X.env.cells.lookup x = some a)) → Q () s') (hf : X.fn x = true ∨ X.env.scope.names.lookup x = some .local := by first | exact .inl rfl | exact .inr rfl | assumption) : wpAny M A (storeName X.env x u) Q E s := by
  obtain ⟨m, hn, hl⟩ := id I.loc
  have hcls : (X.env.scope.kind == .class || (X.env.scope.kind == .module && X.env.locals != X.env.globals)) = false := by rw [I.ok.kind]; rfl
  have hiσ : i < σ.length := by rw [I.len]; exact (List.getElem?_eq_some_iff.mp hi).1
  have cne := I.cne
  have tracked : ∀ {a : Addr} {h' : Heap}, (∃ o, s.heap.get? a = some o ∧ H a = none) → Heap.SameBut a s.heap h' → HOk X.prog X.w H h' := fun {a h'} ha hs b ob e => by
    obtain ⟨_, _, hfree⟩ := ha
    refine (I.hok b ob e).stay (fun c w' hc q => (hs.2 c ?_).trans q) (fun _ q => q) fun _ _ q => q
    rintro rfl
    rcases hc with rfl | hc
    · rw [hfree] at e; cases e
    · rw [hfree] at hc; cases hc
  rcases hx with hk | hk
  · refine wpAny_storeName_local hk hn (fun h' hn' hs => ?_) hcls
    obtain ⟨oL, _, _, hoL, _⟩ := id hn
    refine h _ ⟨I.ok, I.os, I.bare, ⟨fun b o e n hb hx => ?_, fun b o e n hb hx => ?_, I.base.free, fun b o e hx => ?_, I.base.tups, I.base.frzs, I.base.tbls⟩, ⟨_, hn', fun j y v' e1 e2 e3 => ?_⟩, fun y c e => ?_, I.free, I.freeC, fun p hp => ?_, tracked ⟨oL, hoL, I.free⟩ hs, by simpa using I.len⟩ ⟨_, hs, .inl rfl⟩
    · exact (hs.2 b (Nat.ne_of_lt (Nat.lt_of_lt_of_le (Heap.lt_size e) I.ok.above))).trans (I.base.keep b o e n hb hx)
    · obtain ⟨sl, e1⟩ := I.base.slot b o e n hb hx
      exact ⟨sl, (hs.2 b (Nat.ne_of_lt (Nat.lt_of_lt_of_le (Heap.lt_size e) I.ok.above))).trans e1⟩
    · obtain ⟨o', e1⟩ := I.base.there b o e hx
      exact ⟨o', (hs.2 b (Nat.ne_of_lt (Nat.lt_of_lt_of_le (Heap.lt_size e) I.ok.above))).trans e1⟩
    · by_cases hj : j = i
      · subst hj
        rw [hi] at e1; cases e1
        rw [List.getElem?_set_self hiσ] at e2
        cases e2
        exact ⟨u, r, .inl ⟨hk, by simp⟩⟩
      · rw [List.getElem?_set_ne (Ne.symm hj)] at e2
        obtain ⟨u', r', q⟩ := hl j y v' e1 e2 e3
        refine ⟨u', r', ?_⟩
        rcases q with ⟨k, e⟩ | ⟨k, c, e, z⟩
        · refine .inl ⟨k, ?_⟩
          have : y ≠ x := fun e => hj (nodup_ix hN e1 (e ▸ hi))
          simp [this, e]
        · exact .inr ⟨k, c, e, z.sameBut hs (cne y c e)⟩
    · obtain ⟨w', z⟩ := I.cell y c e
      exact ⟨w', z.sameBut hs (cne y c e)⟩
    · obtain ⟨e, n, ne, nf, d⟩ := I.pin p hp
      exact ⟨(hs.2 p.1 ne).trans e, n, ne, nf, d⟩
  · have hfn : X.fn x = true := by
      rcases hf with z | z
      · exact z
      · rw [z] at hk; cases hk
    obtain ⟨c, hc⟩ := I.ok.has x (.inl hk)
    obtain ⟨w', z⟩ := I.cell x c hc
    refine wpAny_storeName_cell I.ok.kind hk hc z (fun h' hc' hs => ?_)
    obtain ⟨oc, hoc, hocd⟩ := id z
    refine h { s with heap := h' } ⟨I.ok, I.os, I.bare, ⟨fun b o e n hb hx => ?_, fun b o e n hb hx => ?_, I.base.free, fun b o e hx => ?_, I.base.tups, I.base.frzs, I.base.tbls⟩, ⟨m, hn.sameBut hs (Ne.symm (cne x c hc)), fun j y v' e1 e2 e3 => ?_⟩, fun y c' e => ?_, I.free, I.freeC, fun p hp => ?_, tracked ⟨oc, hoc, I.freeC x c hc⟩ hs, by simpa using I.len⟩ ⟨c, hs, .inr hc⟩
    · exact (hs.2 b (Nat.ne_of_lt (Nat.lt_of_lt_of_le (Heap.lt_size e) (I.ok.cab x c hfn hc)))).trans (I.base.keep b o e n hb hx)
    · obtain ⟨sl, e1⟩ := I.base.slot b o e n hb hx
      exact ⟨sl, (hs.2 b (Nat.ne_of_lt (Nat.lt_of_lt_of_le (Heap.lt_size e) (I.ok.cab x c hfn hc)))).trans e1⟩
    · obtain ⟨o', e1⟩ := I.base.there b o e hx
      exact ⟨o', (hs.2 b (Nat.ne_of_lt (Nat.lt_of_lt_of_le (Heap.lt_size e) (I.ok.cab x c hfn hc)))).trans e1⟩
    · by_cases hj : j = i
      · subst hj
        rw [hi] at e1; cases e1
        rw [List.getElem?_set_self hiσ] at e2
        cases e2
        exact ⟨u, r, .inr ⟨.inl hk, c, hc, hc'⟩⟩
      · rw [List.getElem?_set_ne (Ne.symm hj)] at e2
        obtain ⟨u', r', q⟩ := hl j y v' e1 e2 e3
        refine ⟨u', r', ?_⟩
        rcases q with q | ⟨k, c', e, z'⟩
        · exact .inl q
        · refine .inr ⟨k, c', e, z'.sameBut hs ?_⟩
          rintro rfl
          exact hj (nodup_ix hN e1 (I.ok.inj _ _ _ e hc ▸ hi))
    · by_cases hcc : c' = c
      · subst hcc; exact ⟨_, hc'⟩
      · obtain ⟨w2, z2⟩ := I.cell y c' e
        exact ⟨w2, z2.sameBut hs hcc⟩
    · obtain ⟨e, n, ne, nf, d⟩ := I.pin p hp
      refine ⟨(hs.2 p.1 ?_).trans e, n, ne, nf, d⟩
      intro q
      rw [q, hoc] at e
      have q' : oc = p.2 := Option.some.inj e
      exact d w' (by rw [← q']; exact hocd)
theorem store_ok {M : Model} {A : Around} {E : Value → Shared → Prop} {i : Nat} {x : Str} {v : V} {u : Value} {Q : Unit → Shared → Prop} (I : Inv X pins σ H s) (hN : X.N.Nodup) (hi : X.N[i]? = some x) (hx : Loc X.env.scope x) (r : RelV v u)
    (h : ∀ s', Inv X pins (σ.set i (some v)) H s' → Q () s') (hf : X.fn x = true ∨ X.env.scope.names.lookup x = some .local := by first | exact .inl rfl | exact .inr rfl | assumption) : wpAny M A (storeName X.env x u) Q E s :=
  store_ok2 I hN hi hx r (fun s' I' _ => h s' I') hf
theorem Inv.call' {s' : Shared} {ch : List Addr} (I : Inv X pins σ H s) (ho : s'.os = s.os) (u : Un (frs X.stack) ch H H' s.heap s'.heap) (hok : HOk X.prog X.w H' s'.heap) (hg : AllBare s'.gens)
    (hch : ∀ b ∈ ch, (b ∈ X.ex ∨ X.s₀.heap.objs.size ≤ b) ∧ b ≠ X.env.locals ∧ (∀ x c, X.env.cells.lookup x = some c → c ≠ b) ∧ ∀ p ∈ X.pn ++ pins, p.1 ≠ b) : Inv X pins σ H' s' := by
  obtain ⟨h', g', d', t', o'⟩ := s'
  have e : o' = s.os := ho
  subst e
  exact I.call (g' := g') (t' := t') (d' := d') u hok hg hch
end

abbrev XK := Value → Option Addr → Hp → Prop
abbrev St := List (Option V)
abbrev VK := V → Hp → Prop
abbrev TE := St → Hp → VK → Prop
abbrev TT := St → Hp → (Bool → Hp → Prop) → Prop
abbrev TA := St → Hp → (List V → Hp → Prop) → Prop
structure Ends where
  nx : St → Hp → Prop
  rt : VK
  bk : St → Hp → Prop := fun _ _ => False
  ct : St → Hp → Prop := fun _ _ => False
abbrev TS := Ends → St → Hp → Prop

def EP (X : Cx) (pins : List (Addr × Obj)) (σ : St) (Q : VK) (u : Value) (s' : Shared) : Prop := ∃ v H', Inv X pins σ H' s' ∧ RelV v u ∧ Q v H'
def TP (X : Cx) (pins : List (Addr × Obj)) (σ : St) (Q : Bool → Hp → Prop) (b : Bool) (s' : Shared) : Prop := ∃ H', Inv X pins σ H' s' ∧ Q b H'
def AP (X : Cx) (pins : List (Addr × Obj)) (σ : St) (Q : List V → Hp → Prop) (us : List Value) (s' : Shared) : Prop := ∃ vs H', Inv X pins σ H' s' ∧ Vals vs us ∧ Q vs H'
def SP (X : Cx) (pins : List (Addr × Obj)) (D : Ends) (f : Flow) (s' : Shared) : Prop :=
  match f with
  | .next => ∃ σ' H', Inv X pins σ' H' s' ∧ D.nx σ' H'
  | .brk => ∃ σ' H', Inv X pins σ' H' s' ∧ D.bk σ' H'
  | .cont => ∃ σ' H', Inv X pins σ' H' s' ∧ D.ct σ' H'
  | .ret u => ∃ v σ' H', Inv X pins σ' H' s' ∧ RelV v u ∧ D.rt v H'

def PE (X : Cx) (e : Expr) (t : TE) : Prop :=
  ∀ (pins : List (Addr × Obj)) (s : Shared) (σ : St) (H : Hp) (Q : VK), Inv X pins σ H s → t σ H Q → wpAny (model X.prog X.w) X.A (eval e X.env) (EP X pins σ Q) X.xe s
def PT (X : Cx) (e : Expr) (t : TT) : Prop :=
  ∀ (pins : List (Addr × Obj)) (s : Shared) (σ : St) (H : Hp) (Q : Bool → Hp → Prop), Inv X pins σ H s → t σ H Q → wpAny (model X.prog X.w) X.A (isTrue e X.env (eval e X.env)) (TP X pins σ Q) X.xe s
def PW (X : Cx) (e : Expr) (t : TT) : Prop :=
  ∀ (whole : Sem Value) (pins : List (Addr × Obj)) (s : Shared) (σ : St) (H : Hp) (Q : Bool → Hp → Prop), Inv X pins σ H s → t σ H Q → wpAny (model X.prog X.w) X.A (isTrue e X.env whole) (TP X pins σ Q) X.xe s
theorem PW.pt {X : Cx} {e : Expr} {t : TT} (h : PW X e t) : PT X e t := h _
def PA (X : Cx) (es : List Expr) (t : TA) : Prop :=
  ∀ (pos : Pos) (pins : List (Addr × Obj)) (s : Shared) (σ : St) (H : Hp) (Q : List V → Hp → Prop), Inv X pins σ H s → t σ H Q → wpAny (model X.prog X.w) X.A (spliced (backTo pos (starEach es X.env))) (AP X pins σ Q) X.xe s
def PS (X : Cx) (st : Stmt) (t : TS) : Prop :=
  ∀ (pins : List (Addr × Obj)) (s : Shared) (σ : St) (H : Hp) (D : Ends), Inv X pins σ H s → t D σ H → wpAny (model X.prog X.w) X.A (exec st X.env) (SP X pins D) X.xe s
def PSs (X : Cx) (st : List Stmt) (t : TS) : Prop :=
  ∀ (pins : List (Addr × Obj)) (s : Shared) (σ : St) (H : Hp) (D : Ends), Inv X pins σ H s → t D σ H → wpAny (model X.prog X.w) X.A (execs st X.env) (SP X pins D) X.xe s
theorem thn {α : Type} {t : Sem α} {Q Q' : α → Shared → Prop} {M : Model} {A : Around} {E : Value → Shared → Prop} {s : Shared} (h : wpAny M A t Q E s) (hQ : ∀ a s, Q a s → Q' a s) : wpAny M A t Q' E s := wpAny_mono h hQ fun _ _ x => x
end L2

namespace L2
open PySem PySem.Spec PyProof.Rows
section
variable {X : Cx}

theorem bin {a b : Expr} {ta tb : TE} (ha : PE X a ta) (hb : PE X b tb) {pins : List (Addr × Obj)} {s : Shared} {σ : St} {H : Hp} {R : V → V → Hp → Prop} (I : Inv X pins σ H s) (h : ta σ H fun x H1 => tb σ H1 fun y H2 => R x y H2)
    {α : Type} {Q : α → Shared → Prop} {f : Value → Value → Sem α}
    (hf : ∀ v u s2 x y H2, Inv X pins σ H2 s2 → RelV x v → RelV y u → R x y H2 → wpAny (model X.prog X.w) X.A (f v u) Q X.xe s2) :
    wpAny (model X.prog X.w) X.A (eval a X.env) (fun v s₁ => wpAny (model X.prog X.w) X.A (eval b X.env) (fun u s₂ => wpAny (model X.prog X.w) X.A (f v u) Q X.xe s₂) X.xe s₁) X.xe s := by
  refine thn (ha pins s σ H _ I h) fun v s1 ⟨x, H1, I1, r1, q1⟩ => ?_
  refine thn (hb pins s1 σ H1 _ I1 q1) fun u s2 ⟨y, H2, I2, r2, q2⟩ => ?_
  exact hf v u s2 x y H2 I2 r1 r2 q2

def tVar (i : Nat) : TE := fun σ H Q => ∃ v, σ[i]? = some (some v) ∧ Q v H
def tC (v : V) : TE := fun _ H Q => Q v H
theorem pe_var {i : Nat} {x : Str} {pos : Pos} (hN : X.N[i]? = some x) (hv : Vis X.env.scope x) (hd : (x == ("__debug__" : Str)) = false := by decide) (hcd : (x == ("__classdict__" : Str)) = false := by decide) : PE X (.Name x pos) (tVar i) := by
  intro pins s σ H Q I h
  obtain ⟨v, e, h⟩ := h
  obtain ⟨m, hn, hl⟩ := I.loc
  obtain ⟨u, r, l⟩ := hl i x v hN e hv
  have fin : EP X pins σ Q u s := ⟨v, H, I, r, h⟩
  rcases l with ⟨hk, hm⟩ | ⟨hk, c, hc, hcell⟩
  · exact wpAny_Name (wpAny_loadName_local I.ok.kind hk hn hm fin) hd
  · rcases hk with hk | hk
    · exact wpAny_Name (wpAny_loadName_cell I.ok.kind hk hc hcell fin) hd
    · exact wpAny_Name (wpAny_loadName_free I.ok.kind hk hc hcell fin hcd) hd
theorem pe_int {i j pos} : PE X (.Constant (.int i) j pos) (tC (.int i)) := fun _ _ _ H _ I h => wpAny_Constant_int ⟨.int i, H, I.tok _, ⟨_, rfl⟩, h⟩
theorem pe_bl {b j pos} : PE X (.Constant (.bool b) j pos) (tC (.bl b)) := fun _ _ _ H _ I h => Constant_bool ⟨.bl b, H, I, rfl, h⟩

def Gl (X : Cx) (x : Str) : Prop := X.env.kindOf x = some .globalImplicit
theorem ld_glob {E : Value → Shared → Prop} {pins : List (Addr × Obj)} {s : Shared} {σ : St} {H : Hp} {x : Str} {u : Value} {pos : Pos} {Q : Value → Shared → Prop} (I : Inv X pins σ H s) (hg : Gl X x) (hm : X.mg x = some u) (h : Q u s)
    (hd : (x == ("__debug__" : Str)) = false := by decide) : wpAny (model X.prog X.w) X.A (eval (.Name x pos) X.env) Q E s :=
  Calls.Name_function_global I.ok.kind hg (Calls.loadGlobal_global (by rw [I.ok.glob]; exact I.mod.glob.keeps I.bk) hm h) hd
theorem ld_blt {E : Value → Shared → Prop} {pins : List (Addr × Obj)} {s : Shared} {σ : St} {H : Hp} {x : Str} {u : Value} {pos : Pos} {Q : Value → Shared → Prop} (I : Inv X pins σ H s) (hg : Gl X x) (hm : X.mg x = none) (hv : bootBuiltins x = some u) (h : Q u s)
    (hn : x ≠ "__name__" := by decide) (hd : (x == ("__debug__" : Str)) = false := by decide) : wpAny (model X.prog X.w) X.A (eval (.Name x pos) X.env) Q E s := by
  obtain ⟨mb, h1, h2⟩ := I.mod.blt
  exact Calls.Name_function_global I.ok.kind hg (Calls.loadGlobal_builtin (by rw [I.ok.glob]; exact I.mod.glob.keeps I.bk) hm (by rw [I.ok.blt]; exact h1.keeps I.bk) ((h2 x hn).trans hv) h) hd
theorem pe_glob {x : Str} {v : V} {u : Value} {pos : Pos} (hg : Gl X x) (hm : X.mg x = some u) (r : RelV v u) (hd : (x == ("__debug__" : Str)) = false := by decide) : PE X (.Name x pos) (tC v) :=
  fun _ _ _ H _ I h => ld_glob I hg hm ⟨v, H, I, r, h⟩ hd
theorem pe_bltn {x : Str} {v : V} {u : Value} {pos : Pos} (hg : Gl X x) (hm : X.mg x = none) (hv : bootBuiltins x = some u) (r : RelV v u) (hn : x ≠ "__name__" := by decide) (hd : (x == ("__debug__" : Str)) = false := by decide) : PE X (.Name x pos) (tC v) :=
  fun _ _ _ H _ I h => ld_blt I hg hm hv ⟨v, H, I, r, h⟩ hn hd

variable {a b : Expr} {ta tb : TE} {pos : Pos}


variable {tA tB' : TT} {rest : List Expr}
def tOr (t u : TT) : TT := fun σ H Q => t σ H fun c H1 => if c = true then Q true H1 else u σ H1 Q
def tNot (t : TT) : TT := fun σ H Q => t σ H fun c H1 => Q (!c) H1
theorem pw_and1 (ha : PT X a tA) : PW X (.BoolOp .And [a] pos) tA := by
  intro wh pins s σ H Q I h
  refine isTrue_and (thn (ha pins s σ H Q I h) fun c s1 e => ?_)
  cases c with
  | true => exact isTrue_and_nil e
  | false => exact e
theorem pw_or1 (ha : PT X a tA) : PW X (.BoolOp .Or [a] pos) tA := by
  intro wh pins s σ H Q I h
  refine isTrue_or (thn (ha pins s σ H Q I h) fun c s1 e => ?_)
  cases c with
  | false => exact isTrue_or_nil e
  | true => exact e
theorem pw_or (ha : PT X a tA) (hb : PW X (.BoolOp .Or (b :: rest) pos) tB') : PW X (.BoolOp .Or (a :: b :: rest) pos) (tOr tA tB') := by
  intro wh pins s σ H Q I h
  refine isTrue_or (thn (ha pins s σ H _ I h) fun c s1 ⟨H1, I1, q1⟩ => ?_)
  cases c with
  | true => exact ⟨H1, I1, q1⟩
  | false => exact hb wh pins s1 σ H1 Q I1 q1
theorem pt_not (ha : PT X a tA) : PT X (.UnaryOp .Not a pos) (tNot tA) := by
  intro pins s σ H Q I h
  exact isTrue_not (ha pins s σ H (fun c H1 => Q (!c) H1) I h)
def tAndV (ta tb : TE) : TE := fun σ H Q => ta σ H fun x H1 => ∃ c, x = .bl c ∧ if c = true then tb σ H1 Q else Q (.bl false) H1
def tNotV (ta : TE) : TE := fun σ H Q => ta σ H fun x H1 => ∃ c, x = .bl c ∧ Q (.bl (!c)) H1
theorem pe_one {op} {t : TE} (h : PE X a t) : PE X (.BoolOp op [a] pos) t := fun pins s σ H Q I hw => BoolOp_one (h pins s σ H Q I hw)
theorem pe_and (ha : PE X a ta) (hb : PE X (.BoolOp .And (b :: rest) pos) tb) : PE X (.BoolOp .And (a :: b :: rest) pos) (tAndV ta tb) := by
  intro pins s σ H Q I h
  refine BoolOp_and (thn (ha pins s σ H _ I h) fun v s1 ⟨x, H1, I1, r1, q1⟩ => ?_)
  obtain ⟨c, rfl, q1⟩ := q1
  cases r1
  refine wpAny_truthy_bool ?_
  cases c with
  | true => exact hb pins s1 σ H1 Q I1 q1
  | false => exact ⟨.bl false, H1, I1, rfl, q1⟩
theorem pe_not (ha : PE X a ta) : PE X (.UnaryOp .Not a pos) (tNotV ta) := by
  intro pins s σ H Q I h
  refine UnaryOp_ (thn (ha pins s σ H _ I h) fun v s1 ⟨x, H1, I1, r1, q1⟩ => ?_)
  obtain ⟨c, rfl, q1⟩ := q1
  cases r1
  exact not_of (wpAny_truthy_bool ⟨.bl (!c), H1, I1, rfl, q1⟩)
end
end L2

namespace L2
open PySem PySem.Spec PyProof.Rows

def SqL (K : PySem.W.Frag) (H : Hp) (a : Addr) (xs : List V) : Prop :=
  Rd H a (.lst xs) ∨
    ∃ (o : Obj) (its : Array Value) (n : Nat), K.lookup a = some o ∧ o.cls = .type "list" ∧ o.dict = none ∧ o.data = .seq its n ∧ its.size ≤ sizeLine ∧ Vals xs its.toList
def SqT (K : PySem.W.Frag) (H : Hp) (a : Addr) (xs : List V) : Prop :=
  Rd H a (.tup xs) ∨
    ∃ (o : Obj) (its : Array Value) (n : Nat), K.lookup a = some o ∧ o.cls = .type "tuple" ∧ o.data = .seq its n ∧ its.size ≤ sizeLine ∧ Vals xs its.toList
def absV : Value → Option V
  | .none => some .non
  | .bool b => some (.bl b)
  | .int i _ => some (.int i)
  | .str x _ => some (.str x)
  | .bytes b _ => some (.byt b)
  | .float b _ => some (.flt b)
  | .ref a => some (.ref a)
  | .type n => some (.ty n)
  | _ => none
theorem RelV.abs {x : V} {u : Value} (r : RelV x u) : absV u = some x := by
  cases x with
  | non => cases r; rfl
  | bl _ => cases r; rfl
  | int _ => obtain ⟨t, rfl⟩ := r; rfl
  | str _ => obtain ⟨t, rfl⟩ := r; rfl
  | byt _ => obtain ⟨t, rfl⟩ := r; rfl
  | flt _ => obtain ⟨t, rfl⟩ := r; rfl
  | ref _ => cases r; rfl
  | ty _ => cases r; rfl
theorem RelV.inj {x y : V} {u : Value} (r : RelV x u) (q : RelV y u) : x = y := Option.some.inj (r.abs.symm.trans q.abs)
theorem Vals.inj : ∀ {xs ys : List V} {us : List Value}, Vals xs us → Vals ys us → xs = ys
  | _, _, _, .nil, .nil => rfl
  | _, _, _, .cons r t, .cons r' t' => by rw [r.inj r', Vals.inj t t']
section
variable {X : Cx} {pins : List (Addr × Obj)} {σ : St} {H : Hp} {s : Shared} {a : Addr} {xs ys : List V}
theorem SqL.of {K : PySem.W.Frag} (h : H a = some (.lst xs)) : SqL K H a xs := .inl (.inl h)
theorem SqT.of {K : PySem.W.Frag} (h : H a = some (.tup xs)) : SqT K H a xs := .inl (.inl h)
theorem Inv.list (I : Inv X pins σ H s) (h : SqL X.K H a xs) : ∃ its : List Value, Vals xs its ∧ PlainL s.heap a its.toArray ∧ xs.length ≤ sizeLine := by
  rcases h with h | ⟨o, its, n, hk, hc, hd, hs, hz, r⟩
  · obtain ⟨z, its, n, r, e⟩ := h.ok I.hok
    exact ⟨its, r, ⟨_, n, e, rfl, rfl, rfl⟩, z⟩
  · refine ⟨its.toList, r, ⟨o, n, I.kIn a o hk, hc, hd, by simpa using hs⟩, ?_⟩
    have e := r.length
    simp only [Array.length_toList] at e
    omega
theorem Inv.tuple (I : Inv X pins σ H s) (h : SqT X.K H a xs) : ∃ its : List Value, Vals xs its ∧ IsTup s.heap a its.toArray ∧ xs.length ≤ sizeLine := by
  rcases h with h | ⟨o, its, n, hk, hc, hs, hz, r⟩
  · obtain ⟨z, its, r, p⟩ := h.ok I.hok
    exact ⟨its, r, p, z⟩
  · refine ⟨its.toList, r, ⟨o, I.kIn a o hk, hc, n, by simpa using hs⟩, ?_⟩
    have e := r.length
    simp only [Array.length_toList] at e
    omega
theorem Inv.list_inj (I : Inv X pins σ H s) (h : SqL X.K H a xs) (h' : SqL X.K H a ys) : xs = ys := by
  obtain ⟨its, r, ⟨o, n, e, _, _, d⟩, _⟩ := I.list h
  obtain ⟨its', r', ⟨o', n', e', _, _, d'⟩, _⟩ := I.list h'
  rw [e] at e'; cases e'
  rw [d] at d'
  injection d' with d1 _
  have : its = its' := by simpa using congrArg Array.toList d1
  subst this
  exact r.inj r'
theorem Inv.tuple_inj (I : Inv X pins σ H s) (h : SqT X.K H a xs) (h' : SqT X.K H a ys) : xs = ys := by
  obtain ⟨its, r, ⟨o, e, _, n, d⟩, _⟩ := I.tuple h
  obtain ⟨its', r', ⟨o', e', _, n', d'⟩, _⟩ := I.tuple h'
  rw [e] at e'; cases e'
  rw [d] at d'
  injection d' with d1 _
  have : its = its' := by simpa using congrArg Array.toList d1
  subst this
  exact r.inj r'
end

abbrev Cx.wish (X : Cx) (E : Value → Shared → Prop) : Cx := { X with xe := E }
abbrev Cx.nox (X : Cx) : Cx := X.wish fun _ _ => False
theorem Cx.Ok.wish {X : Cx} (ok : X.Ok) (E : Value → Shared → Prop) : (X.wish E).Ok :=
  ⟨ok.mod, ok.kind, ok.glob, ok.blt, ok.above, ok.inj, ok.has, ok.cab, ok.hd, ok.frames, ok.stk, ok.exf, ok.bs, ok.bsz, ok.noex, ok.exfs, ok.funs, ok.frf⟩
theorem Cx.Ok.unwish {X : Cx} {E : Value → Shared → Prop} (ok : (X.wish E).Ok) : X.Ok :=
  ⟨ok.mod, ok.kind, ok.glob, ok.blt, ok.above, ok.inj, ok.has, ok.cab, ok.hd, ok.frames, ok.stk, ok.exf, ok.bs, ok.bsz, ok.noex, ok.exfs, ok.funs, ok.frf⟩
section
variable {X : Cx} {pins : List (Addr × Obj)} {σ : St} {H : Hp} {s : Shared} {E : Value → Shared → Prop}
theorem Inv.wish (I : Inv X pins σ H s) (E : Value → Shared → Prop) : Inv (X.wish E) pins σ H s := ⟨I.ok.wish E, I.os, I.bare, I.base, I.loc, I.cell, I.free, I.freeC, I.pin, I.hok, I.len⟩
theorem Inv.unwish (I : Inv (X.wish E) pins σ H s) : Inv X pins σ H s := ⟨I.ok.unwish, I.os, I.bare, I.base, I.loc, I.cell, I.free, I.freeC, I.pin, I.hok, I.len⟩
theorem SP.unwish {D : Ends} {f : Flow} {s' : Shared} (h : SP (X.wish E) pins D f s') : SP X pins D f s' := by
  cases f with
  | next => obtain ⟨σ', H', I, q⟩ := h; exact ⟨σ', H', I.unwish, q⟩
  | brk => obtain ⟨σ', H', I, q⟩ := h; exact ⟨σ', H', I.unwish, q⟩
  | cont => obtain ⟨σ', H', I, q⟩ := h; exact ⟨σ', H', I.unwish, q⟩
  | ret u => obtain ⟨v, σ', H', I, r, q⟩ := h; exact ⟨v, σ', H', I.unwish, r, q⟩
theorem PSs.nox {st : List Stmt} {t : TS} (h : PSs X.nox st t) : PSs X st t := fun pins s σ H D I hw =>
  wpAny_mono (h pins s σ H D (I.wish _) hw) (fun _ _ q => q.unwish) fun _ _ z => False.elim z
end

section
variable {X : Cx} {st : Stmt} {rest : List Stmt} {t u : TS} {e : Expr} {te : TE} {pos : Pos}
def tNext : TS := fun D σ H => D.nx σ H
def tSeq (t u : TS) : TS := fun D σ H => t { D with nx := u D } σ H
theorem pss_nil : PSs X [] tNext := fun _ _ σ H _ I h => wpAny_execs_nil ⟨σ, H, I, h⟩
theorem pss_cons (h1 : PS X st t) (h2 : PSs X rest u) : PSs X (st :: rest) (tSeq t u) := by
  intro pins s σ H D I h
  refine wpAny_execs_cons (thn (h1 pins s σ H { D with nx := u D } I h) fun f s1 q => ?_)
  cases f with
  | next =>
    obtain ⟨σ', H', I', q⟩ := q
    exact h2 pins s1 σ' H' D I' q
  | ret v => exact q
  | brk => exact q
  | cont => exact q
theorem pss_one (h1 : PS X st t) : PSs X [st] t := by
  intro pins s σ H D I h
  refine wpAny_execs_cons (thn (h1 pins s σ H D I h) fun f s1 q => ?_)
  cases f with
  | next => exact wpAny_execs_nil q
  | ret v => exact q
  | brk => exact q
  | cont => exact q
theorem Inv.quiet {pins : List (Addr × Obj)} {σ : St} {H : Hp} {s : Shared} (I : Inv X pins σ H s) : interactive X.env = false := by simp [interactive, I.ok.kind]
def tDrop (te : TE) : TS := fun D σ H => te σ H fun _ H1 => D.nx σ H1
theorem ps_expr (he : PE X e te) (hs : swapsWith e none pos.line X.env = pure false := by rfl) : PS X (.Expr e pos) (tDrop te) := by
  intro pins s σ H D I h
  exact wpAny_Expr_any (thn (he pins s σ H _ I h) fun v s1 ⟨x, H1, I1, r1, q1⟩ => ⟨σ, H1, I1, q1⟩) I.quiet hs
def tRet (te : TE) : TS := fun D σ H => te σ H D.rt
theorem ps_ret (he : PE X e te) : PS X (.Return (some e) pos) (tRet te) := by
  intro pins s σ H D I h
  exact wpAny_Return_some (thn (he pins s σ H _ I h) fun v s1 ⟨x, H1, I1, r1, q1⟩ => ⟨x, σ, H1, I1, r1, q1⟩)
def tIfS (c : TT) (t u : TS) : TS := fun D σ H => c σ H fun b H1 => if b = true then t D σ H1 else u D σ H1
theorem ps_if {c : Expr} {a b : List Stmt} {tc : TT} (hc : PT X c tc) (ha : PSs X a t) (hb : PSs X b u) : PS X (.If c a b pos) (tIfS tc t u) := by
  intro pins s σ H D I h
  refine wpAny_If (thn (hc pins s σ H _ I h) fun d s1 ⟨H1, I1, q1⟩ => ?_)
  cases d with
  | true => exact ha pins s1 σ H1 D I1 q1
  | false => exact hb pins s1 σ H1 D I1 q1
end

abbrev TG := V → St → Hp → (St → Hp → Prop) → Prop
abbrev TGs := List V → St → Hp → (St → Hp → Prop) → Prop
def PG (X : Cx) (target : Expr) (t : TG) : Prop :=
  ∀ (pins : List (Addr × Obj)) (s : Shared) (σ : St) (H : Hp) (v : V) (u : Value) (Q : St → Hp → Prop), Inv X pins σ H s → RelV v u → t v σ H Q →
    wpAny (model X.prog X.w) X.A (assign target X.env u) (fun _ s' => ∃ σ' H', Inv X pins σ' H' s' ∧ Q σ' H') X.xe s
def PGs (X : Cx) (ts : List Expr) (t : TGs) : Prop :=
  ∀ (pins : List (Addr × Obj)) (s : Shared) (σ : St) (H : Hp) (vs : List V) (us : List Value) (Q : St → Hp → Prop), Inv X pins σ H s → Vals vs us → t vs σ H Q →
    wpAny (model X.prog X.w) X.A (assignInOrder ((assignEach ts X.env).map (·.2)) us) (fun _ s' => ∃ σ' H', Inv X pins σ' H' s' ∧ Q σ' H') X.xe s
abbrev TSet := V → V → V → Hp → (Hp → Prop) → Prop
def PSet (X : Cx) (t : TSet) : Prop :=
  ∀ (pins : List (Addr × Obj)) (s : Shared) (σ : St) (H : Hp) (o i v : V) (ov iv u : Value) (Q : Hp → Prop), Inv X pins σ H s → RelV o ov → RelV i iv → RelV v u → t o i v H Q →
    wpAny (model X.prog X.w) X.A (setItem ov iv u) (fun _ s' => ∃ H', Inv X pins σ H' s' ∧ Q H') X.xe s
abbrev TIp := V → V → Hp → VK → Prop
def PIp (X : Cx) (op : Operator) (t : TIp) : Prop :=
  ∀ (pins : List (Addr × Obj)) (s : Shared) (σ : St) (H : Hp) (x y : V) (v u : Value) (Q : VK), Inv X pins σ H s → RelV x v → RelV y u → t x y H Q →
    wpAny (model X.prog X.w) X.A (inplaceOp op v u) (EP X pins σ Q) X.xe s
section
variable {X : Cx} {pos : Pos}
def gName (i : Nat) : TG := fun v σ H Q => Q (σ.set i (some v)) H
theorem pg_name {i : Nat} {x : Str} (hN : X.N.Nodup) (hi : X.N[i]? = some x) (hx : Loc X.env.scope x) (hf : X.fn x = true ∨ X.env.scope.names.lookup x = some .local := by first | exact .inl rfl | exact .inr rfl | assumption) : PG X (.Name x pos) (gName i) := by
  intro pins s σ H v u Q I r h
  exact wpAny_assign_Name (store_ok I hN hi hx r (fun s' I' => ⟨_, H, I', h⟩) hf)
def gNil : TGs := fun vs σ H Q => vs = [] ∧ Q σ H
def gCons (t : TG) (u : TGs) : TGs := fun vs σ H Q => ∃ v r, vs = v :: r ∧ t v σ H fun σ' H' => u r σ' H' Q
theorem pgs_nil : PGs X [] gNil := by
  intro pins s σ H vs us Q I r h
  obtain ⟨e, h⟩ := h
  subst e
  cases r
  exact assignInOrder_nil ⟨σ, H, I, h⟩
theorem pgs_cons {e : Expr} {es : List Expr} {t : TG} {u : TGs} (h1 : PG X e t) (h2 : PGs X es u)
    (hs : (assignEach (e :: es) X.env).map (·.2) = assign e X.env :: (assignEach es X.env).map (·.2) := by rfl) : PGs X (e :: es) (gCons t u) := by
  intro pins s σ H vs us Q I r h
  obtain ⟨v, vr, e1, h⟩ := h
  subst e1
  cases r with
  | cons r rr =>
    rw [hs]
    refine assignInOrder_cons (thn (h1 pins s σ H _ _ _ I r h) fun _ s1 ⟨σ1, H1, I1, q1⟩ => ?_)
    exact h2 pins s1 σ1 H1 _ _ Q I1 rr q1
def gTup (K : PySem.W.Frag) (n : Nat) (t : TGs) : TG := fun v σ H Q => ∃ a xs, v = .ref a ∧ SqT K H a xs ∧ xs.length = n ∧ t xs σ H Q
theorem pg_tup {es : List Expr} {k : Nat} {t : TGs} {n : Nat} (hc : X.calm = true) (h : PGs X es t)
    (hn : (assignEach es X.env).length = n := by rfl) (hst : (assignEach es X.env).findIdx? (·.1) = none := by rfl) : PG X (.Tuple es k pos) (gTup X.K n t) := by
  intro pins s σ H v u Q I r hw
  obtain ⟨a, xs, e1, hq, hl, hw⟩ := hw
  subst e1
  cases r
  obtain ⟨its, rv, ht, hz⟩ := I.tuple hq
  refine assign_Tuple_tuple (I.ok.hd hc) ht (by simp [hn, ← hl, rv.length]) hst fun h' hx => ?_
  have I1 : Inv X pins σ H { s with heap := h' } := I.kept (t' := s.toks) fun b o e => hx b o (Nat.ne_of_lt (Heap.lt_size e)) e
  exact h pins _ σ H xs _ Q I1 (by simpa using rv) hw
def gSub (to ti : TE) (t : TSet) : TG := fun v σ H Q => to σ H fun o H1 => ti σ H1 fun i H2 => t o i v H2 fun H3 => Q σ H3
theorem pg_sub {o i : Expr} {to ti : TE} {t : TSet} (ho : PE X o to) (hi : PE X i ti) (hs : PSet X t)
    (ha : ∀ v, assign (.Subscript o i pos) X.env v = (do
      let ov ← holding [v] (eval o X.env)
      let iv ← holding [v, ov] (eval i X.env)
      standAt pos
      holding [v, ov, iv] (setItem ov iv v)
      release [v, ov, iv] []) := by intro _; rfl) : PG X (.Subscript o i pos) (gSub to ti t) := by
  intro pins s σ H v u Q I r h
  rw [ha]
  refine wpAny_bind (wpAny_holding (thn (ho pins s σ H _ I h) fun ov s1 ⟨x, H1, I1, r1, q1⟩ => ?_))
  refine wpAny_bind (wpAny_holding (thn (hi pins s1 σ H1 _ I1 q1) fun iv s2 ⟨y, H2, I2, r2, q2⟩ => ?_))
  refine wpAny_bind (wpAny_standAt (wpAny_bind (wpAny_holding (thn (hs pins s2 σ H2 x y v ov iv u _ I2 r1 r2 r q2) fun _ s3 ⟨H3, I3, q3⟩ => ?_))))
  exact wpAny_release ⟨σ, H3, I3, q3⟩
def tAsg (te : TE) (g : TG) : TS := fun D σ H => te σ H fun x H1 => g x σ H1 D.nx
theorem ps_asg {tg e : Expr} {te : TE} {g : TG} (he : PE X e te) (hg : PG X tg g) (hs : swapsWithSole [tg] e pos.line X.env = pure false := by rfl) (hw : swappedStores [tg] e X.env = pure none := by rfl)
    (h1 : (assignEach [tg] X.env).map (·.2) = [assign tg X.env] := by rfl) : PS X (.Assign [tg] e pos) (tAsg te g) := by
  intro pins s σ H D I h
  refine wpAny_Assign_stores (thn (he pins s σ H _ I h) fun v s1 ⟨x, H1, I1, r1, q1⟩ => ?_) hs hw
  rw [h1]
  exact thn (hg pins s1 σ H1 x v _ I1 r1 q1) fun _ s2 q => q
theorem ps_set {i : Nat} {x : Str} {e : Expr} {te : TE} {pos' : Pos} (hN : X.N.Nodup) (hi : X.N[i]? = some x) (hx : Loc X.env.scope x) (he : PE X e te) (hs : swapsWith e (some (.Name x pos')) pos.line X.env = pure false := by rfl) (hf : X.fn x = true ∨ X.env.scope.names.lookup x = some .local := by first | exact .inl rfl | exact .inr rfl | assumption) :
    PS X (.Assign [.Name x pos'] e pos) (tAsg te (gName i)) := by
  intro pins s σ H D I h
  refine wpAny_Assign_Name (thn (he pins s σ H _ I h) fun v s1 ⟨y, H1, I1, r1, q1⟩ => ?_) hs
  exact store_ok I1 hN hi hx r1 (fun s2 I2 => ⟨_, H1, I2, q1⟩) hf
def tAugS (to ti te : TE) (tget : V → V → Hp → VK → Prop) (tip : TIp) (tset : TSet) : TS := fun D σ H => to σ H fun o H1 => ti σ H1 fun i H2 => tget o i H2 fun x H3 => te σ H3 fun y H4 => tip x y H4 fun z H5 => tset o i z H5 fun H6 => D.nx σ H6
def PGet (X : Cx) (t : V → V → Hp → VK → Prop) : Prop :=
  ∀ (pins : List (Addr × Obj)) (s : Shared) (σ : St) (H : Hp) (o i : V) (ov iv : Value) (Q : VK), Inv X pins σ H s → RelV o ov → RelV i iv → t o i H Q →
    wpAny (model X.prog X.w) X.A (getItem ov iv) (EP X pins σ Q) X.xe s
theorem ps_augS {o i e : Expr} {to ti te : TE} {tget : V → V → Hp → VK → Prop} {tip : TIp} {tset : TSet} {op : Operator} {tpos : Pos} (ho : PE X o to) (hi : PE X i ti) (hg : PGet X tget) (he : PE X e te) (hp : PIp X op tip) (hs : PSet X tset)
    (ha : ∀ ov iv new, augStore i ov iv new = (do holding [new, ov, iv] (setItem ov iv new); release [new, ov, iv] []; pure .next) := by intros; rfl) : PS X (.AugAssign (.Subscript o i tpos) op e pos) (tAugS to ti te tget tip tset) := by
  intro pins s σ H D I h
  refine wpAny_AugAssign_SubscriptAny (thn (ho pins s σ H _ I h) fun ov s1 ⟨x1, H1, I1, r1, q1⟩ => ?_) ha
  refine thn (hi pins s1 σ H1 _ I1 q1) fun iv s2 ⟨x2, H2, I2, r2, q2⟩ => ?_
  refine thn (hg pins s2 σ H2 x1 x2 ov iv _ I2 r1 r2 q2) fun old s3 ⟨x3, H3, I3, r3, q3⟩ => ?_
  refine thn (he pins s3 σ H3 _ I3 q3) fun v s4 ⟨x4, H4, I4, r4, q4⟩ => ?_
  refine thn (hp pins s4 σ H4 x3 x4 old v _ I4 r3 r4 q4) fun new s5 ⟨x5, H5, I5, r5, q5⟩ => ?_
  exact thn (hs pins s5 σ H5 x1 x2 x5 ov iv new _ I5 r1 r2 r5 q5) fun _ s6 ⟨H6, I6, q6⟩ => ⟨σ, H6, I6, q6⟩
def ipI (f : Int → Int → Int) : TIp := fun x y H Q => ∃ i j, x = .int i ∧ y = .int j ∧ Q (.int (f i j)) H
theorem ip_add : PIp X .Add (ipI fun i j => i + j) := by
  intro pins s σ H x y v u Q I r1 r2 h
  obtain ⟨i, j, e1, e2, q⟩ := h
  subst e1; subst e2
  obtain ⟨t, rfl⟩ := r1
  obtain ⟨t', rfl⟩ := r2
  exact iadd_int ⟨.int _, H, I.tok _, ⟨_, rfl⟩, q⟩
end

section
variable {X : Cx} {pos : Pos}
end

structure It where
  go : Nat → Hp → Prop
  yld : Nat → Hp → V → Hp → Prop
  stop : Nat → Hp → Prop
def FpOk (X : Cx) (pins : List (Addr × Obj)) (H : Hp) (b : Addr) : Prop :=
  H b = none ∧ b ≠ X.env.locals ∧ b ∉ X.fs ∧ (b ∈ X.ex ∨ X.s₀.heap.objs.size ≤ b) ∧ (∀ x c, X.env.cells.lookup x = some c → c ≠ b) ∧ ∀ p ∈ X.pn ++ pins, p.1 ≠ b
theorem Inv.fpOk {X : Cx} {pins : List (Addr × Obj)} {σ : St} {H H' : Hp} {s : Shared} {b : Addr} (I : Inv X pins σ H s) (hb : s.heap.objs.size ≤ b) (hn : H' b = none) : FpOk X pins H' b := by
  refine ⟨hn, Nat.ne_of_gt (Nat.lt_of_lt_of_le I.lt hb), I.nofs hb, .inr (Nat.le_trans I.sz hb), fun x c e z => ?_, fun p hp z => ?_⟩
  · obtain ⟨v, q⟩ := I.cell x c e
    exact absurd (Nat.lt_of_lt_of_le q.lt (by rw [z]; exact hb)) (Nat.lt_irrefl _)
  · exact absurd (Nat.lt_of_lt_of_le (Heap.lt_size (I.pin p hp).1) (by rw [z]; exact hb)) (Nat.lt_irrefl _)
structure Turn (P : Program) (w : World) (K : PySem.W.Frag) (tg : Expr) (J : It) (fp : List Addr) (it : Addr) (tn : Nat → Heap → Prop) : Prop where
  mem : it ∈ fp
  obj : ∀ i h, tn i h → ∀ b ∈ fp, ∃ o, h.get? b = some o ∧ ∀ v, o.data ≠ .cell v
  keep : ∀ i h h', tn i h → (∀ b ∈ fp, ∀ o, h.get? b = some o → h'.get? b = some o) → tn i h'
  item : ∀ (X : Cx), X.prog = P → X.w = w → X.K = K → X.calm = true → ∀ (i : Nat) (pins : List (Addr × Obj)) (s : Shared) (σ : St) (H : Hp) (E : Value → Shared → Prop), Inv X pins σ H s → (∀ b ∈ fp, FpOk X pins H b) → tn i s.heap → J.go i H →
    wpAny (model P w) X.A (pyNext (.ref it)) (fun r s1 => ∃ u, r = some u ∧
      wpAny (model P w) X.A (letOwnedTupleGo tg (.ref it) u) (fun _ s2 => ∃ x H', Inv X pins σ H' s2 ∧ RelV x u ∧ J.yld i H x H' ∧ tn (i + 1) s2.heap ∧ ∀ b ∈ fp, H' b = none) E s1) E s
  done : ∀ (X : Cx), X.prog = P → X.w = w → X.K = K → X.calm = true → ∀ (i : Nat) (pins : List (Addr × Obj)) (s : Shared) (σ : St) (H : Hp) (E : Value → Shared → Prop), Inv X pins σ H s → (∀ b ∈ fp, FpOk X pins H b) → tn i s.heap → J.stop i H →
    wpAny (model P w) X.A (pyNext (.ref it)) (fun r s1 => r = none ∧ Inv X pins σ H s1) E s
  self : ∀ (A : Around) (i : Nat) (s : Shared) (Q : Value → Shared → Prop) (E : Value → Shared → Prop), tn i s.heap → Q (.ref it) s → wpAny (model P w) A (pyIter (.ref it)) Q E s
abbrev TI := St → Hp → (It → Hp → Prop) → Prop
def PIE (X : Cx) (pins : List (Addr × Obj)) (σ : St) (tg : Expr) (R : It → Hp → Prop) (itv : Value) (s2 : Shared) : Prop :=
  ∃ (it : Addr) (fp : List Addr) (tn : Nat → Heap → Prop) (J : It) (H' : Hp), itv = .ref it ∧ Inv X pins σ H' s2 ∧ Turn X.prog X.w X.K tg J fp it tn ∧ tn 0 s2.heap ∧ (∀ b ∈ fp, FpOk X pins H' b) ∧ R J H'
def PI (X : Cx) (tg iter : Expr) (wi : TI) : Prop :=
  ∀ (pins : List (Addr × Obj)) (s : Shared) (σ : St) (H : Hp) (R : It → Hp → Prop), Inv X pins σ H s → wi σ H R →
    wpAny (model X.prog X.w) X.A (eval iter X.env) (fun v s1 => wpAny (model X.prog X.w) X.A (pyIter v) (PIE X pins σ tg R) X.xe s1) X.xe s

theorem go_of {M : Model} {A : Around} {E : Value → Shared → Prop} {s : Shared} {tg : Expr} {it : Addr} {u : Value} {o : Obj} {n : String} {vs : Array Value} {Q : Unit → Shared → Prop} (ho : s.heap.get? it = some o) (hc : o.cls = .type n) (hd : o.data = .fields vs)
    (hn : ["enumerate", "zip", "dict_itemiterator", "dict_reverseitemiterator", "odict_iterator", "itertools.zip_longest", "itertools.pairwise"].contains n = false) (hQ : Q () s) : wpAny M A (letOwnedTupleGo tg (.ref it) u) Q E s := by
  unfold letOwnedTupleGo
  cases tg <;> first
    | exact wpAny_pure hQ
    | (cases u <;> first
        | exact wpAny_pure hQ
        | (refine wpAny_bind (wpAny_load ho ?_)
           rw [hc, hd]
           show wpAny M A (if (["enumerate", "zip", "dict_itemiterator", "dict_reverseitemiterator", "odict_iterator", "itertools.zip_longest", "itertools.pairwise"].contains n && vs[0]? == some (rawInt _)) = true then _ else _) Q E s
           rw [if_neg (by intro h; rw [hn, Bool.false_and] at h; cases h)]
           exact wpAny_pure hQ))

def Itl (K : PySem.W.Frag) (a : Addr) : It :=
  ⟨fun i H => ∃ xs x, SqL K H a xs ∧ xs[i]? = some x, fun i H x H' => H' = H ∧ ∀ xs, SqL K H a xs → xs[i]? = some x, fun i H => ∃ xs, SqL K H a xs ∧ xs.length ≤ i⟩
def Itt (K : PySem.W.Frag) (a : Addr) : It :=
  ⟨fun i H => ∃ xs x, SqT K H a xs ∧ xs[i]? = some x, fun i H x H' => H' = H ∧ ∀ xs, SqT K H a xs → xs[i]? = some x, fun i H => ∃ xs, SqT K H a xs ∧ xs.length ≤ i⟩
def Itr (lo : Int) (n : Nat) : It := ⟨fun i _ => i < n, fun i H x H' => H' = H ∧ x = .int (lo + i), fun i _ => n ≤ i⟩
theorem turn_list {P : Program} {w : World} {K : PySem.W.Frag} {tg : Expr} (a it : Addr) : Turn P w K tg (Itl K a) [it] it (fun i h => h.IsListIter it a i) where
  mem := by simp
  obj := fun i h st b hb => by
    have e : b = it := by simpa using hb
    subst e
    obtain ⟨o, e, c, d⟩ := st
    exact ⟨o, e, fun v z => by rw [d] at z; cases z⟩
  keep := fun i h h' st k => st.at fun o e => k it (by simp) o e
  item := by
    intro X hP hw hK hc i pins s σ H E I hf st hg
    subst hP hw hK
    obtain ⟨xs, x, hq, hx⟩ := hg
    obtain ⟨its, rv, p, hz⟩ := I.list hq
    obtain ⟨u, hu, ru⟩ := rv.get hx
    obtain ⟨f0, f1, f2, f3, f4, f5⟩ := hf it (by simp)
    refine wpAny_pyNext_list_item st p.isList (x := u) (by simpa using hu) fun h' st' sb => ?_
    have I1 : Inv X pins σ H { s with heap := h' } := I.turned (t' := s.toks) (fun b o hb e => (sb.2 b hb).trans e) f0 f1 f3 f4 f5
    obtain ⟨o, e, c, d⟩ := id st'
    exact ⟨u, rfl, go_of (s := { s with heap := h' }) e c d (by decide) ⟨x, H, I1, ru, ⟨rfl, fun ys hy => by rw [I.list_inj hy hq]; exact hx⟩, st', fun b hb => (hf b hb).1⟩⟩
  done := by
    intro X hP hw hK hc i pins s σ H E I hf st hg
    subst hP hw hK
    obtain ⟨xs, hq, hx⟩ := hg
    obtain ⟨its, rv, p, hz⟩ := I.list hq
    obtain ⟨f0, f1, f2, f3, f4, f5⟩ := hf it (by simp)
    have hl := rv.length
    exact wpAny_pyNext_list_end (I.ok.hd hc) st p.isList (by simp; omega) fun h' eb => ⟨rfl, I.turned (t' := s.toks) (fun b o hb e => eb b o hb e) f0 f1 f3 f4 f5⟩
  self := fun _ _ _ _ _ st h => wpAny_pyIter_listiter st h
theorem turn_tuple {P : Program} {w : World} {K : PySem.W.Frag} {tg : Expr} (a it : Addr) : Turn P w K tg (Itt K a) [it] it (fun i h => h.IsTupleIter it a i) where
  mem := by simp
  obj := fun i h st b hb => by
    have e : b = it := by simpa using hb
    subst e
    obtain ⟨o, e, c, d⟩ := st
    exact ⟨o, e, fun v z => by rw [d] at z; cases z⟩
  keep := fun i h h' st k => st.at fun o e => k it (by simp) o e
  item := by
    intro X hP hw hK hc i pins s σ H E I hf st hg
    subst hP hw hK
    obtain ⟨xs, x, hq, hx⟩ := hg
    obtain ⟨its, rv, p, hz⟩ := I.tuple hq
    obtain ⟨u, hu, ru⟩ := rv.get hx
    obtain ⟨f0, f1, f2, f3, f4, f5⟩ := hf it (by simp)
    refine wpAny_pyNext_tuple_item st (show s.heap.IsTuple a its.toArray from p) (x := u) (by simpa using hu) fun h' st' sb => ?_
    have I1 : Inv X pins σ H { s with heap := h' } := I.turned (t' := s.toks) (fun b o hb e => (sb.2 b hb).trans e) f0 f1 f3 f4 f5
    obtain ⟨o, e, c, d⟩ := id st'
    exact ⟨u, rfl, go_of (s := { s with heap := h' }) e c d (by decide) ⟨x, H, I1, ru, ⟨rfl, fun ys hy => by rw [I.tuple_inj hy hq]; exact hx⟩, st', fun b hb => (hf b hb).1⟩⟩
  done := by
    intro X hP hw hK hc i pins s σ H E I hf st hg
    subst hP hw hK
    obtain ⟨xs, hq, hx⟩ := hg
    obtain ⟨its, rv, p, hz⟩ := I.tuple hq
    obtain ⟨f0, f1, f2, f3, f4, f5⟩ := hf it (by simp)
    have hl := rv.length
    exact wpAny_pyNext_tuple_end (I.ok.hd hc) st (show s.heap.IsTuple a its.toArray from p) (by simp; omega) fun h' eb => ⟨rfl, I.turned (t' := s.toks) (fun b o hb e => eb b o hb e) f0 f1 f3 f4 f5⟩
  self := fun _ _ _ _ _ st h => wpAny_pyIter_tupleiter st h
theorem turn_range {P : Program} {w : World} {K : PySem.W.Frag} {tg : Expr} (it : Addr) (lo : Int) (n : Nat) : Turn P w K tg (Itr lo n) [it] it (fun i h => IsRangeIter h it (lo + (i : Nat) * 1) ((n : Int) - (i : Nat)) 1) where
  mem := by simp
  obj := fun i h st b hb => by
    have e : b = it := by simpa using hb
    subst e
    exact ⟨_, st, fun v z => by
      have z' : Data.fields _ = Data.cell v := z
      cases z'⟩
  keep := fun i h h' st k => k it (by simp) _ st
  item := by
    intro X hP hw hK hc i pins s σ H E I hf st hg
    subst hP hw hK
    obtain ⟨f0, f1, f2, f3, f4, f5⟩ := hf it (by simp)
    have W := Walks.range (prog := X.prog) (w := X.w) (I.ok.hd hc) it lo 1 n
    refine W.item i s _ _ hg st fun v h' tk hv st' kk => ?_
    obtain ⟨t, rfl⟩ := hv
    have I1 : Inv X pins σ H { s with heap := h', toks := tk } := I.turned (fun b o hb e => kk b o (by simpa using hb) e) f0 f1 f3 f4 f5
    refine ⟨_, rfl, go_of (s := { s with heap := h', toks := tk }) (n := "range_iterator") st' rfl rfl (by decide) ⟨.int (lo + i), H, I1, ⟨t, ?_⟩, ⟨rfl, rfl⟩, st', fun b hb => (hf b hb).1⟩⟩
    rw [Int.mul_one]
  done := by
    intro X hP hw hK hc i pins s σ H E I hf st hg
    subst hP hw hK
    obtain ⟨f0, f1, f2, f3, f4, f5⟩ := hf it (by simp)
    exact wpAny_pyNext_range_end (I.ok.hd hc) st (by have : n ≤ i := hg; omega) fun h' eb => ⟨rfl, I.turned (t' := s.toks) (fun b o hb e => eb b o hb e) f0 f1 f3 f4 f5⟩
  self := fun _ _ _ _ _ st h => wpAny_pyIter_rangeiter st h
end L2

namespace L2
open PySem PySem.Spec PyProof.Rows
section
variable {X : Cx} {tg : Expr}
def iList (K : PySem.W.Frag) (tl : TE) : TI := fun σ H R => tl σ H fun x H1 => ∃ a, x = .ref a ∧ (∃ xs, SqL K H1 a xs) ∧ R (Itl K a) H1
def iTup (K : PySem.W.Frag) (tl : TE) : TI := fun σ H R => tl σ H fun x H1 => ∃ a, x = .ref a ∧ (∃ xs, SqT K H1 a xs) ∧ R (Itt K a) H1
theorem pi_list {l : Expr} {tl : TE} (hl : PE X l tl) : PI X tg l (iList X.K tl) := by
  intro pins s σ H R I h
  refine thn (hl pins s σ H _ I h) fun v s1 ⟨x, H1, I1, r1, q1⟩ => ?_
  obtain ⟨a, e, ⟨xs, hq⟩, q⟩ := q1
  subst e
  cases r1
  obtain ⟨its, rv, p, hz⟩ := I1.list hq
  refine wpAny_pyIter_list p.isList ?_
  refine ⟨s1.heap.objs.size, [s1.heap.objs.size], _, _, H1, rfl, I1.kept (t' := s1.toks) fun b o e => Heap.get?_push_of_some _ e, turn_list a _, ⟨_, Heap.get?_push_size _ rfl, rfl, rfl⟩, fun b hb => ?_, q⟩
  have e : b = s1.heap.objs.size := by simpa using hb
  subst e
  exact I1.fpOk (Nat.le_refl _) (I1.hok.fresh (Nat.le_refl _))
theorem pi_tup {l : Expr} {tl : TE} (hl : PE X l tl) : PI X tg l (iTup X.K tl) := by
  intro pins s σ H R I h
  refine thn (hl pins s σ H _ I h) fun v s1 ⟨x, H1, I1, r1, q1⟩ => ?_
  obtain ⟨a, e, ⟨xs, hq⟩, q⟩ := q1
  subst e
  cases r1
  obtain ⟨its, rv, p, hz⟩ := I1.tuple hq
  refine wpAny_pyIter_tuple (show s1.heap.IsTuple a its.toArray from p) ?_
  refine ⟨s1.heap.objs.size, [s1.heap.objs.size], _, _, H1, rfl, I1.kept (t' := s1.toks) fun b o e => Heap.get?_push_of_some _ e, turn_tuple a _, ⟨_, Heap.get?_push_size _ rfl, rfl, rfl⟩, fun b hb => ?_, q⟩
  have e : b = s1.heap.objs.size := by simpa using hb
  subst e
  exact I1.fpOk (Nat.le_refl _) (I1.hok.fresh (Nat.le_refl _))
theorem range_it {pins : List (Addr × Obj)} {σ : St} {H : Hp} {s : Shared} {R : It → Hp → Prop} {E : Value → Shared → Prop} {lo hi : Int} {t u v : Tok} {tk : Nat} (I : Inv X pins σ H s) (h1 : -(2 ^ 62) ≤ lo) (h2 : lo < 2 ^ 62) (h3 : -(2 ^ 62) ≤ hi) (h4 : hi < 2 ^ 62)
    (q : R (Itr lo (hi - lo).toNat) H) : wpAny (model X.prog X.w) X.A (pyIter (.ref s.heap.objs.size)) (PIE X pins σ tg R) E { s with heap := s.heap.push { cls := .type "range", data := .fields #[.int lo t, .int hi u, .int 1 v] }, toks := tk } := by
  refine wpAny_pyIter_range (IsRange.new ..) (small_one h1 h2 h3 h4) ?_
  have I1 : Inv X pins σ H { s with heap := s.heap.push { cls := .type "range", data := .fields #[.int lo t, .int hi u, .int 1 v] }, toks := tk } := I.kept fun b o e => Heap.get?_push_of_some _ e
  refine ⟨(s.heap.push { cls := .type "range", data := .fields #[.int lo t, .int hi u, .int 1 v] }).objs.size, [(s.heap.push { cls := .type "range", data := .fields #[.int lo t, .int hi u, .int 1 v] }).objs.size], _, _, H, rfl,
    I1.kept (t' := tk) fun b o e => Heap.get?_push_of_some _ e, turn_range _ lo (hi - lo).toNat, ?_, fun b hb => ?_, q⟩
  · have e1 : lo + ((0 : Nat) : Int) * 1 = lo := by simp
    have e2 : (((hi - lo).toNat : Nat) : Int) - ((0 : Nat) : Int) = Builtin.Range.rangeSize lo hi 1 := by rw [rangeSize_one]; split <;> omega
    show IsRangeIter _ _ (lo + ((0 : Nat) : Int) * 1) ((((hi - lo).toNat : Nat) : Int) - ((0 : Nat) : Int)) 1
    rw [e1, e2]
    exact Heap.get?_push_size _ rfl
  · have e : b = (s.heap.push { cls := .type "range", data := .fields #[.int lo t, .int hi u, .int 1 v] }).objs.size := by simpa using hb
    subst e
    exact I1.fpOk (Nat.le_refl _) (I1.hok.fresh (Nat.le_refl _))
def iRng1 (ta : TA) : TI := fun σ H R => ta σ H fun vs H1 => ∃ j : Int, vs = [.int j] ∧ -(2 ^ 62) ≤ j ∧ j < 2 ^ 62 ∧ R (Itr 0 j.toNat) H1
def iRng2 (ta : TA) : TI := fun σ H R => ta σ H fun vs H1 => ∃ i j : Int, vs = [.int i, .int j] ∧ (-(2 ^ 62) ≤ i ∧ i < 2 ^ 62 ∧ -(2 ^ 62) ≤ j ∧ j < 2 ^ 62) ∧ R (Itr i (j - i).toNat) H1
theorem pi_range1 {a : Expr} {ta : TA} {p pos : Pos} (hg : Gl X "range") (hm : X.mg "range" = none) (ha : PA X [a] ta) (hs : starEach [a] X.env = [(false, eval a X.env)] := by rfl) : PI X tg (.Call (.Name "range" p) [a] [] pos) (iRng1 ta) := by
  intro pins s σ H R I h
  refine Call_ (ld_blt I hg hm boot_range (PyProof.Rows.callWith_type1 (thn (ha pos pins s σ H _ I h) fun us s1 ⟨vs, H1, I1, r1, q1⟩ => ?_) hs rfl))
  obtain ⟨j, e, q1, q2, q⟩ := q1
  subst e
  cases r1 with
  | cons r rr =>
    cases rr
    obtain ⟨t, rfl⟩ := r
    exact call_range_1 (range_it I1 (by omega) (by omega) q1 q2 (by simpa using q))
theorem pi_range2 {a b : Expr} {ta : TA} {p pos : Pos} (hg : Gl X "range") (hm : X.mg "range" = none) (ha : PA X [a, b] ta) (hs : starEach [a, b] X.env = [(false, eval a X.env), (false, eval b X.env)] := by rfl) (hs2 : starEach [b] X.env = [(false, eval b X.env)] := by rfl) :
    PI X tg (.Call (.Name "range" p) [a, b] [] pos) (iRng2 ta) := by
  intro pins s σ H R I h
  refine Call_ (ld_blt I hg hm boot_range (PyProof.Rows.callWith_type1 (thn (ha pos pins s σ H _ I h) fun us s1 ⟨vs, H1, I1, r1, q1⟩ => ?_) (by rw [hs, hs2]) (by rw [hs2]; rfl)))
  obtain ⟨i, j, e, ⟨q1, q2, q3, q4⟩, q⟩ := q1
  subst e
  cases r1 with
  | cons r rr =>
    cases rr with
    | cons r' rr =>
      cases rr
      obtain ⟨t, rfl⟩ := r
      obtain ⟨t', rfl⟩ := r'
      exact call_range_2 (range_it I1 q1 q2 q3 q4 q)

def tFor (wi : TI) (g : TG) (tb : TS) : TS := fun D σ H => wi σ H fun J H1 => ∃ W : Nat → Nat → St → Hp → Prop, (∃ m, W 0 m σ H1) ∧ ∀ i m σ H, W i m σ H →
  (J.stop i H ∧ D.nx σ H) ∨ (J.go i H ∧ ∃ N : St → Hp → Prop, (∀ σ' H', N σ' H' → ∃ m', m' < m ∧ W (i + 1) m' σ' H') ∧ ∀ x H', J.yld i H x H' → g x σ H' fun σ2 H2 => tb { D with nx := N, ct := N, bk := D.nx } σ2 H2)
def pinsAt (fp : List Addr) (h : Heap) : List (Addr × Obj) := fp.filterMap fun b => (h.get? b).map fun o => (b, o)
theorem mem_pinsAt {fp : List Addr} {h : Heap} {b : Addr} {o : Obj} (hb : b ∈ fp) (e : h.get? b = some o) : (b, o) ∈ pinsAt fp h := List.mem_filterMap.mpr ⟨b, hb, by rw [e]; rfl⟩
theorem of_pinsAt {fp : List Addr} {h : Heap} {p : Addr × Obj} (hp : p ∈ pinsAt fp h) : p.1 ∈ fp ∧ h.get? p.1 = some p.2 := by
  obtain ⟨b, hb, e⟩ := List.mem_filterMap.mp hp
  cases q : h.get? b with
  | none => rw [q] at e; cases e
  | some o =>
    rw [q] at e
    have e' : (b, o) = p := Option.some.inj e
    subst e'
    exact ⟨hb, q⟩
theorem Inv.pinned {pins : List (Addr × Obj)} {σ : St} {H : Hp} {s : Shared} {fp : List Addr} (I : Inv X pins σ H s) (hf : ∀ b ∈ fp, FpOk X pins H b) (ho : ∀ b ∈ fp, ∃ o, s.heap.get? b = some o ∧ ∀ v, o.data ≠ .cell v) : Inv X (pins ++ pinsAt fp s.heap) σ H s :=
  I.pins_of fun p hp => (List.mem_append.mp hp).elim (fun z => I.pin p (List.mem_append_right _ z)) fun z => by
    obtain ⟨hb, e⟩ := of_pinsAt z
    obtain ⟨f0, f1, f2, _⟩ := hf p.1 hb
    obtain ⟨o, e', d⟩ := ho p.1 hb
    rw [e] at e'; cases e'
    exact ⟨e, f0, f1, f2, d⟩
theorem Inv.unpinned {pins pl : List (Addr × Obj)} {σ : St} {H : Hp} {s : Shared} (I : Inv X (pins ++ pl) σ H s) : Inv X pins σ H s := I.pins_of fun p hp => I.pin p (List.mem_append_right _ (List.mem_append_left _ hp))
theorem ps_for {iter : Expr} {body : List Stmt} {wi : TI} {g : TG} {tb : TS} {pos : Pos} (hp : PassesOwn (model X.prog X.w) X.A X.env X.xe) (hc : X.calm = true) (hi : PI X tg iter wi) (hg : PG X tg g) (hb : PSs X body tb)
    (hs : ∀ x, foldedSetIterable iter X.env x = pure x := by intro _; rfl) : PS X (.For tg iter body [] pos) (tFor wi g tb) := by
  intro pins s σ H D I h
  refine wpAny_For (thn (hi pins s σ H _ I h) fun v s1 h1 => thn h1 fun itv s2 h2 => ?_) hs
  obtain ⟨it, fp, tn, J, H2, e, I2, T, st2, f2, W, ⟨m0, w0⟩, turn⟩ := h2
  subst e
  -- what stays true of the iterator's objects through the loop
  have stat : ∀ {H' : Hp}, (∀ b ∈ fp, H' b = none) → ∀ b ∈ fp, FpOk X pins H' b := fun hn b hb => ⟨hn b hb, (f2 b hb).2⟩
  refine codeAny_forLoop_any (fun n s' => ∃ i σ' H', Inv X pins σ' H' s' ∧ tn i s'.heap ∧ (∀ b ∈ fp, H' b = none) ∧ W i n σ' H') ?_ m0 ⟨0, σ, H2, I2, st2, fun b hb => (f2 b hb).1, w0⟩
  rintro n s3 ⟨i, σ3, H3, I3, st3, fr3, w3⟩
  rcases turn i n σ3 H3 w3 with ⟨stop, qn⟩ | ⟨go, N, hN, step⟩
  · refine wpAny_passesOwn hp (thn (T.done X rfl rfl rfl hc i pins s3 σ3 H3 X.xe I3 (stat fr3) st3 stop) fun r s4 ⟨hr, I4⟩ => ?_)
    subst hr
    exact wpAny_execs_nil ⟨σ3, H3, I4, qn⟩
  · refine wpAny_passesOwn hp (thn (T.item X rfl rfl rfl hc i pins s3 σ3 H3 X.xe I3 (stat fr3) st3 go) fun r s4 ⟨u, hr, h4⟩ => ?_)
    subst hr
    refine wpAny_passesOwn hp (thn h4 fun _ s5 ⟨x, H5, I5, r5, y5, st5, fr5⟩ => ?_)
    have I5' := I5.pinned (stat fr5) (T.obj _ _ st5)
    refine wpAny_passesOwn hp (thn (hg _ s5 σ3 H5 x u _ I5' r5 (step x H5 y5)) fun _ s6 ⟨σ6, H6, I6, q6⟩ => ?_)
    refine wpAny_passesOwn hp (thn (hb _ s6 σ6 H6 _ I6 q6) fun f s7 q7 => ?_)
    have again : ∀ {σ7 : St} {H7 : Hp}, Inv X (pins ++ pinsAt fp s5.heap) σ7 H7 s7 → N σ7 H7 → ∃ m, m < n ∧ ∃ i σ' H', Inv X pins σ' H' s7 ∧ tn i s7.heap ∧ (∀ b ∈ fp, H' b = none) ∧ W i m σ' H' := fun {σ7 H7} I7 n7 => by
      obtain ⟨m', hm, w7⟩ := hN σ7 H7 n7
      refine ⟨m', hm, i + 1, σ7, H7, I7.unpinned, T.keep _ _ _ st5 fun b hb o e => (I7.pin (b, o) (List.mem_append_right _ (List.mem_append_right _ (mem_pinsAt hb e)))).1, fun b hb => ?_, w7⟩
      obtain ⟨o, e, d⟩ := T.obj _ _ st5 b hb
      exact (I7.pin (b, o) (List.mem_append_right _ (List.mem_append_right _ (mem_pinsAt hb e)))).2.1
    cases f with
    | next => obtain ⟨σ7, H7, I7, n7⟩ := q7; exact again I7 n7
    | cont => obtain ⟨σ7, H7, I7, n7⟩ := q7; exact again I7 n7
    | brk => obtain ⟨σ7, H7, I7, q7⟩ := q7; exact ⟨σ7, H7, I7.unpinned, q7⟩
    | ret v => obtain ⟨x7, σ7, H7, I7, r7, q7⟩ := q7; exact ⟨x7, σ7, H7, I7.unpinned, r7, q7⟩
end

theorem for_list {K : PySem.W.Frag} {a : Addr} {xs : List V} {g : TG} {tb : TS} {D : Ends} {σ : St} {H : Hp} (Pv : Nat → St → Hp → Prop) (h0 : Pv 0 σ H) (hl : ∀ i σ H, i ≤ xs.length → Pv i σ H → SqL K H a xs)
    (hs : ∀ i x σ H, xs[i]? = some x → Pv i σ H → g x σ H fun σ2 H2 => tb { D with nx := Pv (i + 1), ct := Pv (i + 1), bk := D.nx } σ2 H2) (hd : ∀ σ H, Pv xs.length σ H → D.nx σ H) :
    ∃ W : Nat → Nat → St → Hp → Prop, (∃ m, W 0 m σ H) ∧ ∀ i m σ H, W i m σ H →
      ((Itl K a).stop i H ∧ D.nx σ H) ∨ ((Itl K a).go i H ∧ ∃ N : St → Hp → Prop, (∀ σ' H', N σ' H' → ∃ m', m' < m ∧ W (i + 1) m' σ' H') ∧ ∀ x H', (Itl K a).yld i H x H' → g x σ H' fun σ2 H2 => tb { D with nx := N, ct := N, bk := D.nx } σ2 H2) := by
  refine ⟨fun i m σ H => m = xs.length - i ∧ i ≤ xs.length ∧ Pv i σ H, ⟨xs.length, by simp, Nat.zero_le _, h0⟩, ?_⟩
  rintro i m σ H ⟨rfl, hi, p⟩
  have q := hl i σ H hi p
  by_cases hlt : i < xs.length
  · refine .inr ⟨⟨xs, xs[i], q, by simp [hlt]⟩, Pv (i + 1), fun σ' H' p' => ⟨xs.length - (i + 1), by omega, rfl, hlt, p'⟩, fun x H' y => ?_⟩
    obtain ⟨e, y⟩ := y
    subst e
    exact hs i x σ _ (y xs q) p
  · have e : i = xs.length := by omega
    subst e
    exact .inl ⟨⟨xs, q, Nat.le_refl _⟩, hd σ H p⟩
end L2

namespace L2
open PySem PySem.Spec PyProof.Rows

abbrev R2 := V → V → Hp → VK → Prop
def OpR (X : Cx) (f : Value → Value → Sem Value) (r : R2) : Prop :=
  ∀ (pins : List (Addr × Obj)) (s : Shared) (σ : St) (H : Hp) (x y : V) (v u : Value) (Q : VK), Inv X pins σ H s → RelV x v → RelV y u → r x y H Q →
    wpAny (model X.prog X.w) X.A (f v u) (EP X pins σ Q) X.xe s
def UnR (X : Cx) (f : Value → Sem Value) (r : V → Hp → VK → Prop) : Prop :=
  ∀ (pins : List (Addr × Obj)) (s : Shared) (σ : St) (H : Hp) (x : V) (v : Value) (Q : VK), Inv X pins σ H s → RelV x v → r x H Q →
    wpAny (model X.prog X.w) X.A (f v) (EP X pins σ Q) X.xe s
def CallR (X : Cx) (f : Value) (r : List V → Hp → VK → Prop) : Prop :=
  ∀ (pins : List (Addr × Obj)) (s : Shared) (σ : St) (H : Hp) (xs : List V) (us : List Value) (Q : VK), Inv X pins σ H s → Vals xs us → r xs H Q →
    wpAny (model X.prog X.w) X.A (call f us) (EP X pins σ Q) X.xe s
def TruR (X : Cx) (r : V → Hp → (Bool → Hp → Prop) → Prop) : Prop :=
  ∀ (pins : List (Addr × Obj)) (s : Shared) (σ : St) (H : Hp) (x : V) (v : Value) (Q : Bool → Hp → Prop), Inv X pins σ H s → RelV x v → r x H Q →
    wpAny (model X.prog X.w) X.A (truthy v) (TP X pins σ Q) X.xe s

def tOp (r : R2) (ta tb : TE) : TE := fun σ H Q => ta σ H fun x H1 => tb σ H1 fun y H2 => r x y H2 Q
def tUn (r : V → Hp → VK → Prop) (ta : TE) : TE := fun σ H Q => ta σ H fun x H1 => r x H1 Q
def rI (C : Int → Int → Prop) (g : Int → Int → V) : R2 := fun x y H Q => ∃ i j, x = .int i ∧ y = .int j ∧ C i j ∧ Q (g i j) H
def rI0 (g : Int → Int → V) : R2 := fun x y H Q => ∃ i j, x = .int i ∧ y = .int j ∧ Q (g i j) H
def rU (g : Int → V) : V → Hp → VK → Prop := fun x H Q => ∃ i, x = .int i ∧ Q (g i) H

section
variable {X : Cx} {a b c : Expr} {ta tb tc : TE} {pos : Pos}

theorem binT (ha : PE X a ta) (hb : PE X b tb) {pins : List (Addr × Obj)} {s : Shared} {σ : St} {H : Hp} {R : V → V → Hp → Prop} (I : Inv X pins σ H s)
    (h : ta σ H fun x H1 => tb σ H1 fun y H2 => R x y H2) {Q : Value → Shared → Prop} {f : Value → Value → Sem Value}
    (hf : ∀ v u s2 x y H2, Inv X pins σ H2 s2 → RelV x v → RelV y u → R x y H2 → wpAny (model X.prog X.w) X.A (f v u) Q X.xe s2) :
    wpAny (model X.prog X.w) X.A (eval a X.env) (fun v s₁ => wpAny (model X.prog X.w) X.A (eval b X.env) (fun u s₂ => wpAny (model X.prog X.w) X.A (f v u) Q X.xe s₂) X.xe s₁) X.xe s := by
  refine thn (ha pins s σ H _ I h) fun v s1 ⟨x, H1, I1, r1, q1⟩ => ?_
  refine thn (hb pins s1 σ H1 _ I1 q1) fun u s2 ⟨y, H2, I2, r2, q2⟩ => ?_
  exact hf v u s2 x y H2 I2 r1 r2 q2

theorem pe_op {op : Operator} {r : R2} (ho : OpR X (binaryOp op) r) (ha : PE X a ta) (hb : PE X b tb) : PE X (.BinOp a op b pos) (tOp r ta tb) := by
  intro pins s σ H Q I h
  exact wpAny_BinOp (binT ha hb I h fun v u s2 x y H2 I2 rx ry q => ho pins s2 σ H2 x y v u Q I2 rx ry q)
theorem pe_un {op : UnaryOp} {r : V → Hp → VK → Prop} (ho : UnR X (unaryOp op) r) (ha : PE X a ta) : PE X (.UnaryOp op a pos) (tUn r ta) := by
  intro pins s σ H Q I h
  exact UnaryOp_ (thn (ha pins s σ H _ I h) fun v s1 ⟨x, H1, I1, r1, q1⟩ => ho pins s1 σ H1 x v Q I1 r1 q1)

theorem opI {f : Value → Value → Sem Value} {C : Int → Int → Prop} {g : Int → Int → Int}
    (rule : ∀ (i j : Int) (t u : Tok) (s : Shared) (Q : Value → Shared → Prop) (E : Value → Shared → Prop), C i j → Q (.int (g i j) s.toks) { s with toks := s.toks + 1 } → wpAny (model X.prog X.w) X.A (f (.int i t) (.int j u)) Q E s) :
    OpR X f (rI C fun i j => .int (g i j)) := by
  intro pins s σ H x y v u Q I rx ry h
  obtain ⟨i, j, rfl, rfl, hc, q⟩ := h
  obtain ⟨t, rfl⟩ := rx
  obtain ⟨t', rfl⟩ := ry
  exact rule i j t t' s _ _ hc ⟨.int (g i j), H, I.tok _, ⟨_, rfl⟩, q⟩
theorem opI0 {f : Value → Value → Sem Value} {g : Int → Int → Int}
    (rule : ∀ (i j : Int) (t u : Tok) (s : Shared) (Q : Value → Shared → Prop) (E : Value → Shared → Prop), Q (.int (g i j) s.toks) { s with toks := s.toks + 1 } → wpAny (model X.prog X.w) X.A (f (.int i t) (.int j u)) Q E s) :
    OpR X f (rI0 fun i j => .int (g i j)) := by
  intro pins s σ H x y v u Q I rx ry h
  obtain ⟨i, j, rfl, rfl, q⟩ := h
  obtain ⟨t, rfl⟩ := rx
  obtain ⟨t', rfl⟩ := ry
  exact rule i j t t' s _ _ ⟨.int (g i j), H, I.tok _, ⟨_, rfl⟩, q⟩
theorem opB0 {f : Value → Value → Sem Value} {g : Int → Int → Bool}
    (rule : ∀ (i j : Int) (t u : Tok) (s : Shared) (Q : Value → Shared → Prop) (E : Value → Shared → Prop), Q (.bool (g i j)) s → wpAny (model X.prog X.w) X.A (f (.int i t) (.int j u)) Q E s) :
    OpR X f (rI0 fun i j => .bl (g i j)) := by
  intro pins s σ H x y v u Q I rx ry h
  obtain ⟨i, j, rfl, rfl, q⟩ := h
  obtain ⟨t, rfl⟩ := rx
  obtain ⟨t', rfl⟩ := ry
  exact rule i j t t' s _ _ ⟨.bl (g i j), H, I, rfl, q⟩

def CPow (i j : Int) : Prop := 0 ≤ j ∧ j ≤ 1000000 ∧ i.natAbs < 2 ^ 64
def CMul (i j : Int) : Prop := (-(2 ^ 64) < i ∧ i < 2 ^ 64) ∨ (-(2 ^ 64) < j ∧ j < 2 ^ 64)
theorem CMul.ok {i j : Int} (h : CMul i j) : IntMulOk i j := by
  rcases h with ⟨h1, h2⟩ | ⟨h1, h2⟩
  · exact .of_left (intBits_le_64 h1 h2)
  · exact .of_right (intBits_le_64 h1 h2)
theorem two_pow_nn (k : Nat) : (0 : Int) ≤ 2 ^ k := by
  rw [two_pow_cast]
  exact Int.natCast_nonneg _

theorem op_add : OpR X (binaryOp .Add) (rI0 fun i j => .int (i + j)) := opI0 fun _ _ _ _ _ _ _ q => add_int q
theorem op_sub : OpR X (binaryOp .Sub) (rI0 fun i j => .int (i - j)) := opI0 fun _ _ _ _ _ _ _ q => sub_int q
theorem op_mul : OpR X (binaryOp .Mult) (rI CMul fun i j => .int (i * j)) := opI fun _ _ _ _ _ _ _ hc q => mul_int q hc.ok
theorem op_mod : OpR X (binaryOp .Mod) (rI (fun _ j => 0 < j) fun i j => .int (i % j)) := opI fun i j _ _ _ _ _ hc q => by
  have h1 : (0 : Int) < j := hc
  exact mod_int' (by omega) (by rw [Int.fmod_eq_emod_of_nonneg i (by omega)]; exact q)
theorem op_shl : OpR X (binaryOp .LShift) (rI CPow fun i j => .int (i * 2 ^ j.toNat)) := opI fun _ _ _ _ _ _ _ hc q => lshift_int_small hc.1 hc.2.1 hc.2.2 q
theorem op_shr : OpR X (binaryOp .RShift) (rI (fun _ j => 0 ≤ j) fun i j => .int (i / 2 ^ j.toNat)) := opI fun i j _ _ _ _ _ hc q =>
  rshift_int hc (by rw [Int.fdiv_eq_ediv_of_nonneg i (two_pow_nn _)]; exact q)
theorem op_and : OpR X (binaryOp .BitAnd) (rI0 fun i j => .int (Builtin.bitAnd i j)) := opI0 fun _ _ _ _ _ _ _ q => and_int q


theorem unI {f : Value → Sem Value} {g : Int → Int}
    (rule : ∀ (i : Int) (t : Tok) (s : Shared) (Q : Value → Shared → Prop) (E : Value → Shared → Prop), Q (.int (g i) s.toks) { s with toks := s.toks + 1 } → wpAny (model X.prog X.w) X.A (f (.int i t)) Q E s) :
    UnR X f (rU fun i => .int (g i)) := by
  intro pins s σ H x v Q I rx h
  obtain ⟨i, rfl, q⟩ := h
  obtain ⟨t, rfl⟩ := rx
  exact rule i t s _ _ ⟨.int (g i), H, I.tok _, ⟨_, rfl⟩, q⟩
theorem un_neg : UnR X (unaryOp .USub) (rU fun i => .int (-i)) := unI fun _ _ _ _ _ q => neg_int q

end



section
variable {X : Cx} {a b c : Expr} {ta tb tc : TE} {pos : Pos}
theorem fin_bl {pins : List (Addr × Obj)} {σ : St} {H : Hp} {s : Shared} {Q : VK} {k k' : Bool} (I : Inv X pins σ H s) (q : Q (.bl k) H) (e : k = k') : EP X pins σ Q (.bool k') s := by
  subst e
  exact ⟨.bl k, H, I, rfl, q⟩

theorem op_lt : OpR X (compareOp .Lt) (rI0 fun i j => .bl (decide (i < j))) := opB0 fun _ _ _ _ _ _ _ q => lt_int q
theorem op_ge : OpR X (compareOp .GtE) (rI0 fun i j => .bl (decide (j ≤ i))) := opB0 fun _ _ _ _ _ _ _ q => ge_int q
theorem op_in_str : OpR X (compareOp .In) (fun x y H Q => ∃ i j, x = .str i ∧ y = .str j ∧ Q (.bl (!(Builtin.Str.occurrences j i 0 j.length 1).isEmpty)) H) := by
  intro pins s σ H x y v u Q I rx ry h
  obtain ⟨i, j, rfl, rfl, q⟩ := h
  obtain ⟨t, rfl⟩ := rx
  obtain ⟨t', rfl⟩ := ry
  exact in_str (fin_bl I q rfl)



theorem OpR.or {f : Value → Value → Sem Value} {r r' : R2} (h : OpR X f r) (h' : OpR X f r') : OpR X f (fun x y H Q => r x y H Q ∨ r' x y H Q) := by
  intro pins s σ H x y v u Q I rx ry q
  rcases q with q | q
  · exact h pins s σ H x y v u Q I rx ry q
  · exact h' pins s σ H x y v u Q I rx ry q

theorem nomark (b : Expr) {op : CmpOp} (h : op ≠ .In := by decide) (h2 : op ≠ .NotIn := by decide) : behindInMarks op b = false := by
  have e1 : (op == CmpOp.In) = false := by cases op <;> first | rfl | exact absurd rfl h
  have e2 : (op == CmpOp.NotIn) = false := by cases op <;> first | rfl | exact absurd rfl h2
  cases b <;> simp [behindInMarks, e1, e2]
theorem pe_cmpR {op : CmpOp} {r : R2} (ho : OpR X (compareOp op) r) (ha : PE X a ta) (hb : PE X b tb) (hm : behindInMarks op b = false) : PE X (.Compare a [op] [b] pos) (tOp r ta tb) := by
  intro pins s σ H Q I h
  exact wpAny_Compare1 (binT ha hb I h fun v u s2 x y H2 I2 rx ry q => ho pins s2 σ H2 x y v u Q I2 rx ry q) hm
def tTest (t : TE) : TT := fun σ H Q => t σ H fun x H' => ∃ k, x = .bl k ∧ Q k H'
theorem pt_cmpR {op : CmpOp} {r : R2} (ho : OpR X (compareOp op) r) (ha : PE X a ta) (hb : PE X b tb) (hm : behindInMarks op b = false) : PT X (.Compare a [op] [b] pos) (tTest (tOp r ta tb)) := by
  intro pins s σ H Q I h
  refine wpAny_isTrue_Compare1 (thn (ha pins s σ H _ I h) fun v s1 ⟨x, H1, I1, r1, q1⟩ => thn (hb pins s1 σ H1 _ I1 q1) fun u s2 ⟨y, H2, I2, r2, q2⟩ =>
    thn (ho pins s2 σ H2 x y v u _ I2 r1 r2 q2) fun c s3 ⟨z, H3, I3, r3, k, e, q3⟩ => ?_) hm
  subst e
  cases r3
  exact wpAny_truthy_bool ⟨H3, I3, q3⟩

def TruV (K : PySem.W.Frag) (x : V) (H : Hp) (k : Bool) : Prop :=
  match x with
  | .non => k = false
  | .bl b => k = b
  | .int i => k = (i != 0)
  | .str y => y.length ≤ sizeLine ∧ k = ((y.length : Int) != 0)
  | .byt y => y.size ≤ sizeLine ∧ k = ((y.size : Int) != 0)
  | .ref p => (∃ xs, SqL K H p xs ∧ k = !xs.isEmpty) ∨ (∃ xs, SqT K H p xs ∧ k = !xs.isEmpty) ∨ ∃ kvs, H p = some (.dK kvs) ∧ k = !kvs.isEmpty
  | _ => False
theorem isEmpty_kv {κ : Type} {kvs : List (κ × V)} {vs : List (κ × Value)} (r : KV kvs vs) : (!vs.isEmpty) = !kvs.isEmpty := by
  cases r <;> rfl
theorem isEmpty_of {xs : List V} {its : List Value} (r : Vals xs its) : (!its.toArray.isEmpty) = !xs.isEmpty := by
  cases r <;> simp
theorem line63 : (sizeLine : Nat) < 2 ^ 63 := by rw [sizeLine_eq]; decide
theorem tru_ok : TruR X (fun x H Q => ∃ k, TruV X.K x H k ∧ Q k H) := by
  intro pins s σ H x v Q I rx h
  obtain ⟨k, e, q⟩ := h
  have hl := line63
  have hs : sizeLine = 16777216 := sizeLine_eq
  cases x with
  | non =>
    cases rx
    have e' : k = false := e
    subst e'
    exact truthy_none ⟨H, I, q⟩
  | bl b =>
    cases rx
    have e' : k = b := e
    subst e'
    exact wpAny_truthy_bool ⟨H, I, q⟩
  | int i =>
    obtain ⟨t, rfl⟩ := rx
    have e' : k = (i != 0) := e
    subst e'
    exact PySem.P.truthy_int ⟨H, I, q⟩
  | str y =>
    obtain ⟨t, rfl⟩ := rx
    obtain ⟨hy, e'⟩ : y.length ≤ sizeLine ∧ k = ((y.length : Int) != 0) := e
    subst e'
    exact PySem.P.truthy_str (by omega) ⟨H, I.tok _, q⟩
  | byt y =>
    obtain ⟨t, rfl⟩ := rx
    obtain ⟨hy, e'⟩ : y.size ≤ sizeLine ∧ k = ((y.size : Int) != 0) := e
    subst e'
    exact PySem.W.truthy_bytes (by omega) ⟨H, I.tok _, q⟩
  | ref p =>
    cases rx
    have e' : (∃ xs, SqL X.K H p xs ∧ k = !xs.isEmpty) ∨ (∃ xs, SqT X.K H p xs ∧ k = !xs.isEmpty) ∨ ∃ kvs, H p = some (.dK kvs) ∧ k = !kvs.isEmpty := e
    rcases e' with ⟨xs, hx, e'⟩ | ⟨xs, hx, e'⟩ | ⟨kvs, hx, e'⟩
    · subst e'
      obtain ⟨its, r, pl, hz⟩ := I.list hx
      have hlen := r.length
      exact wpAny_truthy_list pl.isList (by simp only [List.size_toArray]; omega) ⟨H, I.tok _, by rw [isEmpty_of r]; exact q⟩
    · subst e'
      obtain ⟨its, r, pl, hz⟩ := I.tuple hx
      have hlen := r.length
      exact truthy_tuple pl (by simp only [List.size_toArray]; omega) ⟨H, I.tok _, by rw [isEmpty_of r]; exact q⟩
    · subst e'
      obtain ⟨hz, hS, vs, r, m⟩ : kvs.length ≤ sizeLine ∧ (p == sysModules) = false ∧ ∃ vs, KV kvs vs ∧ s.heap.DictOf (mixKind X.prog X.w) p vs := I.hok p _ hx
      have hlen : kvs.length = vs.length := Paired.length r
      exact wpAny_truthy_dict hS m (by omega) ⟨H, I.tok _, by rw [isEmpty_kv r]; exact q⟩
  | _ => exact (show False from e).elim
theorem pt_truth (ha : PE X a ta) (he : ∀ whole, isTrue a X.env whole = (do let v ← whole; standAt a.pos; holding [v] (truthy v))) :
    PT X a (fun σ H Q => ta σ H fun x H' => ∃ k, TruV X.K x H' k ∧ Q k H') := by
  intro pins s σ H Q I h
  exact isTrue_plain (thn (ha pins s σ H _ I h) fun v s1 ⟨x, H1, I1, r1, q1⟩ => tru_ok pins s1 σ H1 x v Q I1 r1 q1) (he _)

theorem op_add_str : OpR X (binaryOp .Add) (fun x y H Q => ∃ i j, x = .str i ∧ y = .str j ∧ i.length + j.length ≤ sizeLine ∧ Q (.str (i ++ j)) H) := by
  intro pins s σ H x y v u Q I rx ry h
  obtain ⟨i, j, rfl, rfl, hz, q⟩ := h
  obtain ⟨t, rfl⟩ := rx
  obtain ⟨t', rfl⟩ := ry
  exact add_str (fun t' tk => ⟨.str (i ++ j), H, I.tok _, ⟨_, rfl⟩, q⟩) hz


theorem vals1 {x : V} {us : List Value} (r : Vals [x] us) : ∃ u, us = [u] ∧ RelV x u := by
  cases r with
  | cons r1 r2 => cases r2; exact ⟨_, rfl, r1⟩
theorem vals2 {x y : V} {us : List Value} (r : Vals [x, y] us) : ∃ u w', us = [u, w'] ∧ RelV x u ∧ RelV y w' := by
  cases r with
  | cons r1 r2 =>
    cases r2 with
    | cons r3 r4 => cases r4; exact ⟨_, _, rfl, r1, r3⟩
theorem call_max2 (hc : X.calm = true) : CallR X (.builtin "max") (fun xs H Q => ∃ i j, xs = [.int i, .int j] ∧ Q (.int (if j > i then j else i)) H) := by
  intro pins s σ H xs us Q I r h
  obtain ⟨i, j, rfl, q⟩ := h
  obtain ⟨u, w', rfl, ⟨t, rfl⟩, ⟨t', rfl⟩⟩ := vals2 r
  refine max_two_ints (I.ok.hd hc) fun h' tk k => ⟨_, H, I.kept k, ?_, q⟩
  by_cases hj : j > i
  · rw [if_pos hj, if_pos hj]; exact ⟨_, rfl⟩
  · rw [if_neg hj, if_neg hj]; exact ⟨_, rfl⟩
theorem call_min2 (hc : X.calm = true) : CallR X (.builtin "min") (fun xs H Q => ∃ i j, xs = [.int i, .int j] ∧ Q (.int (if j < i then j else i)) H) := by
  intro pins s σ H xs us Q I r h
  obtain ⟨i, j, rfl, q⟩ := h
  obtain ⟨u, w', rfl, ⟨t, rfl⟩, ⟨t', rfl⟩⟩ := vals2 r
  refine min_two_ints (I.ok.hd hc) fun h' tk k => ⟨_, H, I.kept k, ?_, q⟩
  by_cases hj : j < i
  · rw [if_pos hj, if_pos hj]; exact ⟨_, rfl⟩
  · rw [if_neg hj, if_neg hj]; exact ⟨_, rfl⟩
end
end L2

namespace L2
open PySem PySem.Spec PyProof.Rows

structure ObjM (h : Heap) (x dx C : Addr) (mA : Str → Option Value) : Prop where
  obj : h.get? x = some (PySem.W.instObj C dx)
  ns : h.Ns1 dx mA
  ne : dx ≠ x



section
variable {prog : Program} {w : World} {A : Around} {E : Value → Shared → Prop} {s : Shared} {K : PySem.W.Frag} {x dx C f : Addr} {mA : Str → Option Value} {name : Str} {v : Value}





end



section
variable {P : Program} {w : World} {H H' : Hp} {h h' : Heap} {a C dx : Addr} {fs fs' : List (Str × V)}
end

structure Cls (K : PySem.W.Frag) (C : Addr) : Prop where
  pg : PySem.W.plainGet K C Str.empty = true
  hd : PySem.W.hasDictIn K C = true
  po : PySem.W.plainOver K C = true
  sa : PySem.W.findIn K (.ref C) "__setattr__" = some (some (.builtin "object.__setattr__"))
structure Con (K : PySem.W.Frag) (C : Addr) (f : Str) (v : V) (u : Value) : Prop where
  at_ : PySem.W.findIn K (.ref C) f = some (some u)
  rel : RelV v u
  get : PySem.W.specialIn K u "__get__" = some none
  cp : PySem.W.copiedNames.contains f = false
structure Meth (K : PySem.W.Frag) (C : Addr) (m : Str) (f : Addr) : Prop where
  at_ : PySem.W.findIn K (.ref C) m = some (some (.ref f))
  fn : PySem.W.isFn K (.ref f) = true
  kp : PySem.W.keepIn K (.ref f) = true

section
variable {X : Cx} {pins : List (Addr × Obj)} {σ : St} {H : Hp} {s : Shared} {a C dx : Addr} {fs : List (Str × V)} {f : Str} {v : V} {A : Around} {E : Value → Shared → Prop}






end


section
variable {X : Cx} {o e value : Expr} {f : Str} {pos pos' tpos : Pos} {ta tv : TE}

end

section
variable {X : Cx} {pins : List (Addr × Obj)} {σ : St} {H : Hp} {s : Shared} {A : Around} {E : Value → Shared → Prop} {Q : Value → Shared → Prop} {c : Value} {b : Bool}
inductive TyOf (K : PySem.W.Frag) (H : Hp) : V → Value → Prop where
  | non : TyOf K H .non (.type "NoneType")
  | bl (x : Bool) : TyOf K H (.bl x) (.type "bool")
  | int (i : Int) : TyOf K H (.int i) (.type "int")
  | str (x : Str) : TyOf K H (.str x) (.type "str")
  | flt (x : UInt64) : TyOf K H (.flt x) (.type "float")
  | lst {a : Addr} {xs : List V} (e : H a = some (.lst xs)) : TyOf K H (.ref a) (.type "list")
  | frz {a : Addr} {o : Obj} {xs : List V} (e : H a = some (.frz o (.lst xs))) : TyOf K H (.ref a) (.type "list")
  | tup {a : Addr} {xs : List V} (e : H a = some (.tup xs)) : TyOf K H (.ref a) (.type "tuple")
  | dK {a : Addr} {kvs : List (Key × V)} (e : H a = some (.dK kvs)) : TyOf K H (.ref a) (.type "dict")
  | dT {a : Addr} {kvs : List (List Key × V)} (e : H a = some (.dT kvs)) : TyOf K H (.ref a) (.type "dict")
  | ins {a C dx : Addr} {fs : List (Str × V)} (e : H a = some (.ins C dx fs)) (cl : Cls K C) (ha : PySem.W.findIn K (.ref C) "__class__" = some (some (.builtin "object.__class__")))
      (hn : PySem.W.specialIn K (.builtin "object.__class__") "__get__" = some (some (.builtin "getset_descriptor.__get__"))) (htk : PySem.W.takesIn K (.builtin "object.__class__") = some true)
      (hm : PySem.W.mroIn K C (.type "object") = some true) : TyOf K H (.ref a) (.ref C)
end
end L2

namespace L2
open PySem PySem.Spec PyProof.Rows

structure Room (k : Nat) (A : Around) : Prop where
  hd : A.handled = none
  dp : A.depth + 3 * k + 5 < recursionLimit
  un : A.units + 16 * k + 200 < cLine
theorem Room.mono {j k : Nat} {A : Around} (r : Room k A) (h : j ≤ k) : Room j A := ⟨r.hd, by have := r.dp; omega, by have := r.un; omega⟩
theorem Room.deeper {k : Nat} {A : Around} (r : Room (k + 1) A) (env : Env) : Room k (A.deeper env) :=
  ⟨r.hd, by have := r.dp; show A.depth + 1 + 3 * k + 5 < _; omega, by have := r.un; show A.units + 3 + 16 * k + 200 < _; omega⟩
theorem Room.depth {k : Nat} {A : Around} (r : Room k A) : A.depth < recursionLimit := by have := r.dp; omega
theorem Room.units {k : Nat} {A : Around} (r : Room k A) : A.units + 64 < cLine := by have := r.un; omega

def tNil : TA := fun _ H Q => Q [] H
def tCons (ta : TE) (tr : TA) : TA := fun σ H Q => ta σ H fun x H1 => tr σ H1 fun xs H2 => Q (x :: xs) H2
section
variable {X : Cx} {e : Expr} {es : List Expr} {te : TE} {t : TA} {pos : Pos}
theorem pa_nil : PA X [] tNil := fun _ _ _ _ H Q I h => Calls.spliced_nil ⟨[], H, I, .nil, h⟩
theorem pa_cons (ha : PE X e te) (hr : PA X es t) (hs : starEach (e :: es) X.env = (false, eval e X.env) :: starEach es X.env := by rfl) : PA X (e :: es) (tCons te t) := by
  intro pos pins s σ H Q I h
  rw [hs]
  show wpAny _ _ (spliced ((false, eval e X.env) :: backTo pos (starEach es X.env))) _ _ s
  refine Calls.spliced_cons (thn (ha pins s σ H _ I h) fun u s1 ⟨x, H1, I1, r1, q1⟩ => ?_)
  exact thn (hr pos pins s1 σ H1 _ I1 q1) fun us s2 ⟨xs, H2, I2, r2, q2⟩ => ⟨x :: xs, H2, I2, .cons r1 r2, q2⟩

def tTup (t : TA) : TE := fun σ H Q => t σ H fun xs H1 => xs.length ≤ sizeLine ∧ ∀ p, H1 p = none → Q (.ref p) (upd H1 p (.tup xs))
def tLst (t : TA) : TE := fun σ H Q => t σ H fun xs H1 => xs.length ≤ sizeLine ∧ ∀ p, H1 p = none → Q (.ref p) (upd H1 p (.lst xs))
theorem pe_tup {x1} (h : PA X es t) : PE X (.Tuple es x1 pos) (tTup t) := by
  intro pins s σ H Q I hq
  refine wpAny_Tuple_spliced (thn (h pos pins s σ H _ I hq) fun us s1 ⟨xs, H1, I1, r, z, q⟩ => ⟨by rw [← r.length]; exact z, ?_⟩)
  have hf : H1 s1.heap.objs.size = none := I1.hok.fresh (Nat.le_refl _)
  refine ⟨.ref s1.heap.objs.size, upd H1 s1.heap.objs.size (.tup xs), I1.laid (t' := s1.toks) (fun b u e => Heap.get?_push_of_some _ e) (Nat.le_refl _) ?_, rfl, q _ hf⟩
  exact ⟨z, us, r, ⟨_, Heap.get?_push_size _ rfl, rfl, _, rfl⟩⟩
theorem pe_lst (h : PA X es t) : PE X (.List es pos) (tLst t) := by
  intro pins s σ H Q I hq
  refine wpAny_List_spliced (thn (h pos pins s σ H _ I hq) fun us s1 ⟨xs, H1, I1, r, z, q⟩ => ⟨by rw [← r.length]; exact z, ?_⟩)
  have hf : H1 s1.heap.objs.size = none := I1.hok.fresh (Nat.le_refl _)
  refine ⟨.ref s1.heap.objs.size, upd H1 s1.heap.objs.size (.lst xs), I1.laid (t' := s1.toks) (fun b u e => Heap.get?_push_of_some _ e) (Nat.le_refl _) ?_, rfl, q _ hf⟩
  exact ⟨z, us, 0, r, Heap.get?_push_size _ rfl⟩
end

abbrev Sp := List V → Hp → VK → XK → Prop
abbrev CXT := List Env → Hp → Shared → XK → Value → Shared → Prop

structure Env0 (P : Program) (w : World) (K : PySem.W.Frag) (mg : Str → Option Value) (base : Heap) (A : Around) (outer : List Env) (s : Shared) (H : Hp) : Prop where
  frames : A.frames = some outer
  mod : Mod K mg base
  bs : ∀ b o, base.get? b = some o → s.heap.get? b = some o ∧ H b = none
  bsz : base.objs.size ≤ s.heap.objs.size
  funs : s.heap.FunFrames base outer
  frf : ∀ b ∈ frs outer, H b = none
  hok : HOk P w H s.heap
  bare : AllBare s.gens
def CE (outer : List Env) (P : Program) (w : World) (H : Hp) (s : Shared) (Q : VK) (u : Value) (s' : Shared) : Prop :=
  ∃ v H', s'.os = s.os ∧ AllBare s'.gens ∧ Un (frs outer) [] H H' s.heap s'.heap ∧ HOk P w H' s'.heap ∧ RelV v u ∧ Q v H'
def CR (CX : CXT) (outer : List Env) (P : Program) (w : World) (H : Hp) (s : Shared) (Q : VK) (E : XK) (r : Result) (s' : Shared) : Prop :=
  match r with
  | .ok (.ret u) => CE outer P w H s Q u s'
  | .ok _ => False
  | .error e => CX outer H s E e s'
structure FnOk (P : Program) (w : World) (K : PySem.W.Frag) (mg : Str → Option Value) (base : Heap) (CX : CXT) (k : Nat) (f : Addr) (fd : FuncData) (ps : List Str) (sp : Sp) : Prop where
  len : ∀ vs H Q E, sp vs H Q E → vs.length = ps.length
  run : ∀ (A : Around) (outer : List Env) (s : Shared) (H : Hp) (args : Args) (us : List Value) (vs : List V) (Q : VK) (E : XK), Room k A → Env0 P w K mg base A outer s H → BindsTo s fd args (ps.zip us) → Vals vs us → sp vs H Q E →
    codeAny (model P w) A (.call (.ref f) args) (CR CX outer P w H s Q E) s


section
variable {X : Cx} {pins : List (Addr × Obj)} {σ : St} {H : Hp} {s s' : Shared}
theorem Inv.env0 (I : Inv X pins σ H s) : Env0 X.prog X.w X.K X.mg X.base X.A X.stack s H :=
  ⟨I.ok.frames, I.ok.mod, I.bs, Nat.le_trans I.ok.bsz I.sz, I.stack, I.stkFree, I.hok, I.bare⟩
theorem Inv.after {Q : VK} {u : Value} (I : Inv X pins σ H s) (h : CE X.stack X.prog X.w H s Q u s') : EP X pins σ Q u s' := by
  obtain ⟨v, H', os, bare, un, hok, r, q⟩ := h
  obtain ⟨hh, g, d, t, os'⟩ := s'
  obtain rfl : os' = s.os := os
  exact ⟨v, H', I.call (h' := hh) (g' := g) (d' := d) (t' := t) (ch := []) un hok bare (fun b z => absurd z (by simp)), r, q⟩
end

def tCall (sp : Sp) (dvs : List V) (E : XK) (t : TA) : TE := fun σ H Q => t σ H fun vs H1 => sp (vs ++ dvs) H1 Q E

def Binds (K : PySem.W.Frag) (fd : FuncData) (ps : List Str) (ds : List Value) : Prop :=
  ∀ (s : Shared) (us : List Value), K.In s.heap → (us ++ ds).length = ps.length → BindsTo s fd ⟨us, []⟩ (ps.zip (us ++ ds))
theorem Binds.all {K : PySem.W.Frag} {fd : FuncData} {ps : List Str} (h : ∀ us : List Value, us.length = ps.length → bindArgs fd ⟨us, []⟩ = pure (ps.zip us)) : Binds K fd ps [] := fun s us _ hl => by
  rw [List.append_nil] at hl ⊢
  exact .of_eq (h us hl)

def Passes (CX : CXT) (X : Cx) (E : XK) : Prop := ∀ (pins : List (Addr × Obj)) (σ : St) (H : Hp) (s : Shared) (e : Value) (s' : Shared), Inv X pins σ H s → CX X.stack H s E e s' → X.xe e s'

section
variable {X : Cx} {CX : CXT} {k : Nat} {f C : Addr} {fd : FuncData} {ps : List Str} {sp : Sp} {dvs : List V} {ds : List Value} {E : XK} {x m : Str} {p pos apos : Pos} {e o : Expr} {es : List Expr} {ta : TE} {t : TA}

theorem run_fn {pins : List (Addr × Obj)} {σ : St} {H : Hp} {s : Shared} {Q : VK} {us : List Value} {vs : List V} (F : FnOk X.prog X.w X.K X.mg X.base CX k f fd ps sp) (hr : Room k X.A) (hb : Binds X.K fd ps ds) (hd : Vals dvs ds) (hx : Passes CX X E)
    (I : Inv X pins σ H s) (r : Vals vs us) (h : sp (vs ++ dvs) H Q E) : wpAny (model X.prog X.w) X.A (call (.ref f) us) (EP X pins σ Q) X.xe s := by
  have r2 : Vals (vs ++ dvs) (us ++ ds) := r.append hd
  have hl : (us ++ ds).length = ps.length := by rw [← r2.length]; exact F.len _ _ _ _ h
  refine wpAny_call (codeAny_mono (F.run X.A X.stack s H ⟨us, []⟩ (us ++ ds) (vs ++ dvs) Q E hr I.env0 (hb s us I.kIn hl) r2 h) fun r s' hq => ?_)
  cases r with
  | error e => exact hx pins σ H s e s' I hq
  | ok fl =>
    cases fl with
    | ret u => exact I.after hq
    | next => exact False.elim hq
    | brk => exact False.elim hq
    | cont => exact False.elim hq

theorem pe_call (F : FnOk X.prog X.w X.K X.mg X.base CX k f fd ps sp) (hr : Room k X.A) (hg : Gl X x) (hm : X.mg x = some (.ref f)) (hk : PySem.W.keepIn X.K (.ref f) = true) (hb : Binds X.K fd ps ds) (hd : Vals dvs ds) (hx : Passes CX X E)
    (ha : PA X (e :: es) t) (hdb : (x == ("__debug__" : Str)) = false := by decide) (he : starEach (e :: es) X.env = (false, eval e X.env) :: starEach es X.env := by rfl) (hpl : (backTo pos (starEach es X.env)).any (·.1) = false := by rfl) :
    PE X (.Call (.Name x p) (e :: es) [] pos) (tCall sp dvs E t) := by
  intro pins s σ H Q I h
  refine wpAny_Call_Name_kw (ld_glob I hg hm ?_ hdb)
  refine PySem.W.callWith_K (h₀ := X.base) I.ok.mod.kin hk (thn (ha pos pins s σ H _ I h) fun us s1 ⟨vs, H1, I1, r, q⟩ => ⟨I1.kIn, ?_⟩) he hpl
  exact run_fn F hr hb hd hx I1 r q


structure Mk (K : PySem.W.Frag) (C f : Addr) : Prop where
  makes : PySem.W.makesIn K C = true
  init : PySem.W.findIn K (.ref C) "__init__" = some (some (.ref f))
  fn : PySem.W.isFn K (.ref f) = true
  kp : PySem.W.keepIn K (.ref C) = true

end

section
variable {X : Cx} {CX : CXT} {k : Nat} {f C : Addr} {fd : FuncData} {ps ks : List Str} {sp : Sp} {E : XK} {x m : Str} {p pos apos kpos : Pos} {e o : Expr} {es : List Expr} {kws : List Keyword} {te ta : TE} {t tk : TA} {nm : Option Str}

structure KBinds (K : PySem.W.Frag) (fd : FuncData) (ps ks : List Str) (g : List Value → List Value → List Value) (gV : List V → List V → List V) : Prop where
  to : ∀ (s : Shared) (us ws : List Value), K.In s.heap → (g us ws).length = ps.length → BindsTo s fd ⟨us, ks.zip ws⟩ (ps.zip (g us ws))
  rel : ∀ {vs : List V} {us : List Value} {zs : List V} {ws : List Value}, Vals vs us → Vals zs ws → Vals (gV vs zs) (g us ws)
variable {g : List Value → List Value → List Value} {gV : List V → List V → List V}
end

structure FnScope (N P : List Str) (sc : Scope) : Prop where
  kind : sc.kind = .function
  co : sc.isCoroutine = false
  gen : sc.isGenerator = false
  nd : N.Nodup
  pre : N.take P.length = P
  par : ∀ x ∈ P, sc.names.lookup x = some .local ∨ sc.names.lookup x = some .cell
  nofree : ∀ y ∈ sc.names, y.2 ≠ .free

theorem bindL_out {kindOf : Str → Option NameKind} {x : Str} : ∀ {binds : List (Str × Value)} {m : Str → Option Value}, (∀ v, (x, v) ∉ binds) → bindL kindOf binds m x = m x
  | [], _, _ => rfl
  | (n, v) :: r, m, h => by
    unfold bindL
    rw [bindL_out fun w hw => h w (List.mem_cons_of_mem _ hw)]
    split
    · have : x ≠ n := by rintro rfl; exact h v List.mem_cons_self
      simp [this]
    · rfl
theorem bindC_out {kindOf : Str → Option NameKind} {x : Str} : ∀ {binds : List (Str × Value)} {m : Str → Option Value}, (∀ v, (x, v) ∉ binds) → bindC kindOf binds m x = m x
  | [], _, _ => rfl
  | (n, v) :: r, m, h => by
    unfold bindC
    rw [bindC_out fun w hw => h w (List.mem_cons_of_mem _ hw)]
    split
    · rfl
    · have : x ≠ n := by rintro rfl; exact h v List.mem_cons_self
      simp [this]
theorem bindL_get {kindOf : Str → Option NameKind} {x : Str} {v : Value} : ∀ {P : List Str} {vs : List Value} {i : Nat} {m : Str → Option Value}, P.Nodup → P[i]? = some x → vs[i]? = some v → kindOf x = some .local →
    bindL kindOf (P.zip vs) m x = some v
  | [], _, _, _, _, h, _, _ => by simp at h
  | _ :: _, [], _, _, _, _, h, _ => by simp at h
  | p :: P, w :: vs, 0, m, nd, h1, h2, hk => by
    simp at h1 h2; subst h1; subst h2
    show bindL kindOf ((p, w) :: P.zip vs) m p = _
    unfold bindL
    rw [bindL_out fun v hv => (List.nodup_cons.mp nd).1 (List.of_mem_zip hv).1, if_pos hk]
    simp
  | p :: P, w :: vs, i + 1, m, nd, h1, h2, hk => by
    show bindL kindOf ((p, w) :: P.zip vs) m x = _
    unfold bindL
    exact bindL_get (i := i) (List.nodup_cons.mp nd).2 (by simpa using h1) (by simpa using h2) hk
theorem bindC_get {kindOf : Str → Option NameKind} {x : Str} {v : Value} : ∀ {P : List Str} {vs : List Value} {i : Nat} {m : Str → Option Value}, P.Nodup → P[i]? = some x → vs[i]? = some v → kindOf x ≠ some .local →
    bindC kindOf (P.zip vs) m x = some v
  | [], _, _, _, _, h, _, _ => by simp at h
  | _ :: _, [], _, _, _, _, h, _ => by simp at h
  | p :: P, w :: vs, 0, m, nd, h1, h2, hk => by
    simp at h1 h2; subst h1; subst h2
    show bindC kindOf ((p, w) :: P.zip vs) m p = _
    unfold bindC
    rw [bindC_out fun v hv => (List.nodup_cons.mp nd).1 (List.of_mem_zip hv).1, if_neg hk]
    simp
  | p :: P, w :: vs, i + 1, m, nd, h1, h2, hk => by
    show bindC kindOf ((p, w) :: P.zip vs) m x = _
    unfold bindC
    exact bindC_get (i := i) (List.nodup_cons.mp nd).2 (by simpa using h1) (by simpa using h2) hk

def start (N : List Str) (vs : List V) : St := vs.map some ++ List.replicate (N.length - vs.length) none

def cxOf (CX : CXT) (P : Program) (w : World) (K : PySem.W.Frag) (mg : Str → Option Value) (base : Heap) (N : List Str) (qual : Str) (scope : Scope) (f : Addr) (cd : Value) (A : Around) (outer : List Env) (s : Shared) (H : Hp) (E : XK) : Cx where
  prog := P
  w := w
  K := K
  mg := mg
  base := base
  A := A.deeper (envOfC qual scope s.heap.objs.size f cd)
  N := N
  s₀ := s
  H₀ := H
  env := envOfC qual scope s.heap.objs.size f cd
  outer := outer
  stack := envOfC qual scope s.heap.objs.size f cd :: outer
  ex := []
  calm := true
  fn := fun _ => true
  pn := []
  xe := fun e s' => wpAny (model P w) (A.deeper (envOfC qual scope s.heap.objs.size f cd)) (leaving (envOfC qual scope s.heap.objs.size f cd) e) (fun _ s'' => CX outer H s E e s'') (fun e' s'' => CX outer H s E e' s'') s'

theorem cell_has {sc : Scope} {n : Nat} {x : Str} (h : sc.names.lookup x = some .cell) : ∃ c, (cellsFrom n sc.names []).lookup x = some c := by
  have q := PySem.W.cellsFrom_some sc.names n [] (.inl h)
  exact Option.isSome_iff_exists.mp q

theorem inv_start {CX : CXT} {P : Program} {w : World} {K : PySem.W.Frag} {mg : Str → Option Value} {base : Heap} {N ps : List Str} {qual : Str} {scope : Scope} {f : Addr} {cd : Value} {A : Around} {outer : List Env} {s s1 : Shared} {H : Hp} {E : XK} {us : List Value} {vs : List V}
    (S : FnScope N ps scope) (hd : A.handled = none) (e0 : Env0 P w K mg base A outer s H) (hl : vs.length = ps.length) (r : Vals vs us)
    (x : InCallC s s.heap.objs.size (bindL (envOfC qual scope s.heap.objs.size f cd).kindOf (ps.zip us) fun _ => none) (cellsFrom (s.heap.objs.size + 1) scope.names []) (bindC (envOfC qual scope s.heap.objs.size f cd).kindOf (ps.zip us) fun _ => none) s1) :
    Inv (cxOf CX P w K mg base N qual scope f cd A outer s H E) [] (start N vs) H s1 := by
  have hpl : ps.length ≤ N.length := by have := congrArg List.length S.pre; rw [List.length_take] at this; omega
  obtain ⟨h1, tk, rfl, hk⟩ := x.done
  have noA : ∀ b : Addr, b ∉ (cxOf CX P w K mg base N qual scope f cd A outer s H E).ex := fun b z => absurd (show b ∈ ([] : List Addr) from z) (by simp)
  refine ⟨⟨e0.mod, S.kind, rfl, rfl, Nat.le_refl _, fun y z c h1 h2 => ?_, fun y hy => ?_, fun y c _ h => ?_, fun _ => hd, Around.frames_deeper e0.frames, .inr ⟨rfl, rfl⟩, fun b z => absurd z (noA b), e0.bs, e0.bsz, fun b _ _ => noA b, fun b z => absurd z (noA b), e0.funs, e0.frf⟩,
    rfl, e0.bare, Un.kept hk, ⟨_, x.toInCall.ns, fun i y v h1 h2 h3 => ?_⟩, fun y c h => ⟨_, x.cell y c h⟩, e0.hok.fresh (Nat.le_refl _), fun y c h => ?_, fun p hp => absurd (show p ∈ ([] : List (Addr × Obj)) from hp) (by simp), e0.hok.kept hk, ?_⟩
  · exact name_of_addr x.apart (PySem.mem_of_lookup h1) (PySem.mem_of_lookup h2)
  · have hy : scope.names.lookup y = some .cell ∨ scope.names.lookup y = some .free := hy
    rcases hy with hy | hy
    · exact cell_has hy
    · exact absurd rfl (S.nofree _ (PySem.mem_of_lookup hy))
  · exact Nat.le_of_lt (x.above y c (PySem.mem_of_lookup h))
  · have hi : i < vs.length := by
      unfold start at h2
      by_cases hi : i < vs.length
      · exact hi
      · rw [List.getElem?_append_right (by simpa using hi)] at h2
        rw [List.getElem?_replicate] at h2
        split at h2 <;> cases h2
    have ha : vs[i]? = some v := by
      unfold start at h2
      rw [List.getElem?_append_left (by simpa using hi), List.getElem?_map] at h2
      cases e : vs[i]? with
      | none => rw [e] at h2; cases h2
      | some a => rw [e] at h2; cases h2; rfl
    obtain ⟨u, hu, rv⟩ := r.get ha
    have hp : ps[i]? = some y := by
      rw [← S.pre, List.getElem?_take_of_lt (by omega)]; exact h1
    have ndP : ps.Nodup := by rw [← S.pre]; exact S.nd.sublist (List.take_sublist _ _)
    refine ⟨u, rv, ?_⟩
    rcases S.par y (List.mem_of_getElem? hp) with k | k
    · exact .inl ⟨k, bindL_get ndP hp hu k⟩
    · obtain ⟨c, e⟩ := cell_has (n := s.heap.objs.size + 1) k
      refine .inr ⟨.inl k, c, e, ?_⟩
      have q := x.cell y c e
      rw [bindC_get ndP hp hu (by show scope.names.lookup y ≠ _; rw [k]; decide)] at q
      exact q
  · exact e0.hok.fresh (Nat.le_of_lt (x.above y c (PySem.mem_of_lookup h)))
  · unfold start
    show _ = N.length
    rw [List.length_append, List.length_map, List.length_replicate]
    omega

theorem fn_of {CX : CXT} {P : Program} {w : World} {K : PySem.W.Frag} {mg : Str → Option Value} {base : Heap} {k : Nat} {f : Addr} {name qual : Str} {params : Arguments} {body : List Stmt} {scope : Scope} {dV kV doc pm cdv ct oc : Value} {an od : Option Addr}
    {osl : Array (Option Value)} {N ps : List Str} {sp : Sp} (lk : K.lookup f = some ⟨oc, od, .func (PySem.W.fnOf name qual params body scope dV kV doc pm an cdv ct), osl⟩) (hcd : PySem.W.codeIn K cdv qual = true) (S : FnScope N ps scope)
    (len : ∀ vs H Q E, sp vs H Q E → vs.length = ps.length)
    (hbody : ∀ (A : Around) (outer : List Env) (s : Shared) (H : Hp) (vs : List V) (Q : VK) (E : XK), Room k (A.deeper (envOfC qual scope s.heap.objs.size f cdv)) → sp vs H Q E →
      ∃ t, PSs (cxOf CX P w K mg base N qual scope f cdv A outer s H E) body t ∧ t { nx := fun _ H' => Q .non H', rt := Q } (start N vs) H) :
    FnOk P w K mg base CX (k + 1) f (PySem.W.fnOf name qual params body scope dV kV doc pm an cdv ct) ps sp := by
  refine ⟨len, fun A outer s H args us vs Q E hr e0 hb r hsp => ?_⟩
  have hl := len _ _ _ _ hsp
  have KX : K.In s.heap := e0.mod.kin.keeps fun b o e => (e0.bs b o e).1
  have lim : s.heap.NoLimit := e0.mod.nolimit.keeps fun b o e => (e0.bs b o e).1
  have hkind : ∀ y ∈ ps.zip us, scope.names.lookup y.1 = some .local ∨ (scope.names.lookup y.1 = some .cell ∧ ((cellsFrom (s.heap.objs.size + 1) scope.names []).lookup y.1).isSome = true) := fun ⟨n, v⟩ hy => by
    rcases S.par n (List.of_mem_zip hy).1 with q | q
    · exact .inl q
    · exact .inr ⟨q, PySem.W.cellsFrom_some _ _ _ (.inl q)⟩
  refine codeAny_call_function hr.depth (KX _ _ lk) rfl S.co S.gen rfl (PySem.W.codeRec_of KX hcd) (hb _ _ _ _ ?_)
  refine wpAny_newFunctionEnv_cells S.kind hkind fun env he s1 x => ?_
  subst he
  refine ⟨lim.keeps x.toInCall.keep, codeAny_func ?_⟩
  obtain ⟨t, ht, hq⟩ := hbody A outer s H vs Q E (hr.deeper _) hsp
  have I : Inv (cxOf CX P w K mg base N qual scope f cdv A outer s H E) [] (start N vs) H s1 := inv_start S hr.hd e0 hl r x
  refine wpAny_mono (ht [] s1 (start N vs) H _ I hq) (fun fl s' hs => ?_) fun e s' hs => hs
  have fin : ∀ {σ' : St} {H' : Hp} {v : V} {u : Value}, Inv (cxOf CX P w K mg base N qual scope f cdv A outer s H E) [] σ' H' s' → RelV v u → Q v H' → CE outer P w H s Q u s' :=
    fun {σ' H' v u} J rv q => ⟨v, H', J.os, J.bare, J.base, J.hok, rv, q⟩
  cases fl with
  | ret u =>
    obtain ⟨v, σ', H', J, rv, q⟩ := hs
    exact fin J rv q
  | next =>
    obtain ⟨σ', H', J, q⟩ := hs
    exact fin (v := V.non) (u := Value.none) J rfl q
  | brk =>
    obtain ⟨_, _, _, q⟩ := hs
    exact False.elim q
  | cont =>
    obtain ⟨_, _, _, q⟩ := hs
    exact False.elim q
end L2

namespace L2
open PySem PySem.Spec PyProof.Rows
section
variable {X : Cx} {x : Str} {p pos : Pos} {e : Expr} {es : List Expr} {t : TA} {id T : String} {r : List V → Hp → VK → Prop}

def tCB (r : List V → Hp → VK → Prop) (t : TA) : TE := fun σ H Q => t σ H fun vs H1 => r vs H1 Q
theorem pe_callB (hc : CallR X (.builtin id) r) (hg : Gl X x) (hm : X.mg x = none) (hv : bootBuiltins x = some (.builtin id)) (ha : PA X (e :: es) t) (hn : x ≠ "__name__" := by decide) (hdb : (x == ("__debug__" : Str)) = false := by decide)
    (he : starEach (e :: es) X.env = (false, eval e X.env) :: starEach es X.env := by rfl) (hpl : (backTo pos (starEach es X.env)).any (·.1) = false := by rfl) : PE X (.Call (.Name x p) (e :: es) [] pos) (tCB r t) := by
  intro pins s σ H Q I h
  refine wpAny_Call_Name_kw (ld_blt I hg hm hv ?_ hn hdb)
  exact PyProof.Rows.callWith_builtin1 (thn (ha pos pins s σ H _ I h) fun us s1 ⟨vs, H1, I1, r1, q1⟩ => hc pins s1 σ H1 vs us Q I1 r1 q1) he hpl
theorem pe_callTy (hc : CallR X (.type T) r) (hg : Gl X x) (hm : X.mg x = none) (hv : bootBuiltins x = some (.type T)) (ha : PA X (e :: es) t) (hn : x ≠ "__name__" := by decide) (hdb : (x == ("__debug__" : Str)) = false := by decide)
    (he : starEach (e :: es) X.env = (false, eval e X.env) :: starEach es X.env := by rfl) (hpl : (backTo pos (starEach es X.env)).any (·.1) = false := by rfl) : PE X (.Call (.Name x p) (e :: es) [] pos) (tCB r t) := by
  intro pins s σ H Q I h
  refine wpAny_Call_Name_kw (ld_blt I hg hm hv ?_ hn hdb)
  exact PyProof.Rows.callWith_type1 (thn (ha pos pins s σ H _ I h) fun us s1 ⟨vs, H1, I1, r1, q1⟩ => hc pins s1 σ H1 vs us Q I1 r1 q1) he hpl
end
end L2

namespace HT
open PySem PyProof.Rows



section
open PySem.SeqAt
open PySem.AutoSeq1 (wpAny_loadPart')
open PySem.MeetsSeq PySem.MeetsSeq2 PySem.MeetsSeq3

end

section
variable {prog : Program} {w : World} {A : Around} {E : Value → Shared → Prop} {s : Shared}


theorem cat_tup {t b : Addr} {vs ws : List Value} {Q : Value → Shared → Prop} (ht : IsTup s.heap t vs.toArray) (hb : IsTup s.heap b ws.toArray) (hv : vs ≠ [])
    (h1 : ws = [] → Q (.ref t) s) (h2 : ws ≠ [] → Q (.ref s.heap.objs.size) { s with heap := s.heap.push { cls := .type "tuple", data := .seq (vs ++ ws).toArray } })
    (hsz : vs.length + ws.length ≤ sizeLine) : wpAny (model prog w) A (binaryOp .Add (.ref t) (.ref b)) Q E s := by
  obtain ⟨⟨cls, dd, data, sl⟩, ho, hc, n, hd⟩ := id ht
  obtain ⟨⟨cls2, dd2, data2, sl2⟩, ho2, hc2, n2, hd2⟩ := id hb
  simp only at hc hd hc2 hd2
  subst hc hd hc2 hd2
  have e : vs.toArray ++ ws.toArray = (vs ++ ws).toArray := by simp
  by_cases hw : ws = []
  · exact concat_meets ⟨_, ho, rfl⟩ ⟨_, ho2, rfl⟩ noFill_tuple_add seq_tuple_add PySem.F.slot_tuple_add PySem.F.entry_tuple_add (PySem.F.args_tuple_add_2 _ _)
      (tuple_addW1 t b vs.toArray ws.toArray n n2 dd dd2 sl sl2 (by simpa using hv) (by simp [hw])) ⟨ho, ho2, h1 hw⟩
  · refine concat_meets ⟨_, ho, rfl⟩ ⟨_, ho2, rfl⟩ noFill_tuple_add seq_tuple_add PySem.F.slot_tuple_add PySem.F.entry_tuple_add (PySem.F.args_tuple_add_2 _ _)
      (tuple_addW2 t b vs.toArray ws.toArray n n2 dd dd2 sl sl2 (by simpa using hv) (by simpa using hw) (by rw [List.size_toArray, List.size_toArray]; exact hsz)) ⟨ho, ho2, ?_⟩
    rw [e]
    exact h2 hw

def sIx (n d : Nat) : Option Int → Nat
  | none => d
  | some v => if v < 0 then (v + (n : Int)).toNat else min v.toNat n
theorem sIx_none (n d : Nat) : sIx n d none = d := rfl
theorem sIx_nat (n d k : Nat) : sIx n d (some (k : Int)) = min k n := by
  show (if (k : Int) < 0 then ((k : Int) + (n : Int)).toNat else min (k : Int).toNat n) = min k n
  rw [if_neg (by omega), Int.toNat_natCast]
theorem sIx_le (n d : Nat) (hd : d ≤ n) (o : Option Int) : sIx n d o ≤ n := by
  cases o with
  | none => exact hd
  | some v =>
    show (if v < 0 then (v + (n : Int)).toNat else min v.toNat n) ≤ n
    by_cases hv : v < 0
    · rw [if_pos hv]; omega
    · rw [if_neg hv]; exact Nat.min_le_right _ _
theorem clip_eq (v : Int) (n d : Nat) : (if v < 0 then max (v + (n : Int)) 0 else min v (n : Int)) = ((sIx n d (some v) : Nat) : Int) := by
  show (if v < 0 then max (v + (n : Int)) 0 else min v (n : Int)) = (((if v < 0 then (v + (n : Int)).toNat else min v.toNat n) : Nat) : Int)
  by_cases hv : v < 0
  · simp only [if_pos hv]; omega
  · simp only [if_neg hv]; omega
theorem adjust_gen (lo hi : Option Int) (n : Nat) : Builtin.Slice.sliceAdjust lo hi 1 (n : Int) = (((sIx n 0 lo : Nat) : Int), ((sIx n n hi : Nat) : Int)) := by
  have h1 : ¬ ((1 : Int) < 0) := by omega
  unfold Builtin.Slice.sliceAdjust
  simp only [h1, if_false]
  refine Prod.ext ?_ ?_
  · cases lo with
    | none => rfl
    | some v => exact clip_eq v n 0
  · cases hi with
    | none => rfl
    | some v => exact clip_eq v n n
theorem places_gen (i j : Nat) : Builtin.Slice.slicePlaces (i : Int) (j : Int) 1 = j - i := by
  unfold Builtin.Slice.slicePlaces
  have h1 : (1 : Int) > 0 := by omega
  simp only [h1, if_true, Int.ediv_one]
  split <;> omega
theorem slicePart_ {v : Value} {o : Option Int} {Q : Option Int → Shared → Prop} (p : IsPart v o) (h : Q o s) : wpAny (model prog w) A (Builtin.Slice.slicePartIndex v) Q E s := by
  cases p with
  | none => exact slicePart_none h
  | int i t => exact slicePart_int h
theorem sliceApplied_gen {sl : Addr} {vl vu : Value} {lo hi : Option Int} {n : Nat} {Q : Int × Int × Nat → Shared → Prop} (hs : s.heap.IsSliceOf sl vl vu .none) (pl : IsPart vl lo) (pu : IsPart vu hi)
    (h : Q (((sIx n 0 lo : Nat) : Int), 1, sIx n n hi - sIx n 0 lo) s) : wpAny (model prog w) A (Builtin.Slice.sliceApplied (.ref sl) (pure (n : Int))) Q E s := by
  obtain ⟨os, hos, hcs, hds⟩ := id hs
  unfold Builtin.Slice.sliceApplied Builtin.Slice.sliceFields
  refine wpAny_bind (wpAny_bind (wpAny_field hos hds (x := vl) rfl (wpAny_bind (wpAny_field hos hds (x := vu) rfl (wpAny_bind (wpAny_field hos hds (x := .none) rfl (wpAny_pure ?_)))))))
  refine wpAny_bind (slicePart_none ?_)
  show wpAny _ _ (if ((1 : Int) == 0) = true then _ else _) _ _ s
  rw [if_neg (by decide)]
  refine wpAny_bind (slicePart_ pl (wpAny_bind (slicePart_ pu (wpAny_bind (wpAny_pure ?_)))))
  show wpAny _ _ (match Builtin.Slice.sliceAdjust lo hi 1 (n : Int) with | (lo, hi) => pure (lo, (1 : Int), Builtin.Slice.slicePlaces lo hi 1)) _ _ s
  rw [adjust_gen lo hi n]
  show wpAny _ _ (pure (((sIx n 0 lo : Nat) : Int), (1 : Int), Builtin.Slice.slicePlaces ((sIx n 0 lo : Nat) : Int) ((sIx n n hi : Nat) : Int) 1)) _ _ s
  rw [places_gen]
  exact wpAny_pure h
theorem pick_gen (xs : Array Value) (i k : Nat) : ((List.range k).filterMap fun (m : Nat) => xs[((i : Int) + (m : Int) * 1).toNat]?).toArray = ((xs.toList.drop i).take k).toArray := by
  have e : (fun (m : Nat) => xs[((i : Int) + (m : Int) * 1).toNat]?) = fun m => xs[i + m]? := by
    funext m
    have : ((i : Int) + (m : Int) * 1).toNat = i + m := by omega
    rw [this]
  rw [e]
  have := pick_run xs i k
  rw [List.filterMap_map] at this
  have e2 : ((fun x => xs[x]?) ∘ fun x => i + x) = fun m => xs[i + m]? := rfl
  rw [e2] at this
  rw [this]

theorem getItem_tuple_cut {t sl : Addr} {items : Array Value} {vl vu : Value} {lo hi : Option Int} {Q : Value → Shared → Prop} (ht : IsTup s.heap t items) (hs : s.heap.IsSliceOf sl vl vu .none) (pl : IsPart vl lo) (pu : IsPart vu hi)
    (hw : ¬ (sIx items.size 0 lo = 0 ∧ sIx items.size items.size hi = items.size))
    (h : Q (.ref s.heap.objs.size) { s with heap := s.heap.push { cls := .type "tuple", data := .seq ((items.toList.drop (sIx items.size 0 lo)).take (sIx items.size items.size hi - sIx items.size 0 lo)).toArray } })
    (hsz : items.size ≤ sizeLine) : wpAny (model prog w) A (getItem (.ref t) (.ref sl)) Q E s := by
  have htake : sizeOk (.seq ((items.toList.drop (sIx items.size 0 lo)).take (sIx items.size items.size hi - sIx items.size 0 lo)).toArray) := by
    show ((items.toList.drop (sIx items.size 0 lo)).take (sIx items.size items.size hi - sIx items.size 0 lo)).toArray.size ≤ sizeLine
    rw [List.size_toArray, List.length_take, List.length_drop, Array.length_toList]
    omega
  have hj : sIx items.size items.size hi ≤ items.size := sIx_le _ _ (Nat.le_refl _) hi
  obtain ⟨os, hos, hcs, hds⟩ := id hs
  have hTs : s.TypeIs (.ref sl) "slice" := ⟨os, hos, hcs⟩
  unfold getItem
  try with_reducible refine wpAny_holding ?_
  first | refine wpAny_bind (wpAny_pure ?_) | skip
  refine wpAny_bind (wpAny_sequenceKey ht.typeIs (by decide) ?_)
  refine wpAny_bind (wpAny_callSpecial?_slot (name := Str.ofString "__getitem__") ht.typeIs PyProof.Rows.slot_tuple_getitem
    (wpAny_call_entry PyProof.Rows.slot_tuple_getitem ht.typeIs entry_tuple_getitem ?_ (args_tuple_getitem _ _)))
  show wpAny _ _ (Builtin.Tuple.tupleItemsOf (.ref t) >>= _) _ _ s
  refine wpAny_bind (tupleItemsOf_ ht ?_)
  refine wpAny_bind (wpAny_typeOf hTs ?_)
  rw [if_pos (by decide)]
  refine wpAny_bind (sliceApplied_gen hs pl pu ?_)
  have hno : ¬ ((((sIx items.size 0 lo : Nat) : Int) == 0 && (1 : Int) == 1 && (sIx items.size items.size hi - sIx items.size 0 lo) == items.size) = true) := by
    intro q
    rw [Bool.and_eq_true, Bool.and_eq_true] at q
    have q1 : ((sIx items.size 0 lo : Nat) : Int) = 0 := eq_of_beq q.1.1
    have q2 : sIx items.size items.size hi - sIx items.size 0 lo = items.size := eq_of_beq q.2
    exact hw ⟨by omega, by omega⟩
  show wpAny _ _ (if (((sIx items.size 0 lo : Nat) : Int) == 0 && (1 : Int) == 1 && (sIx items.size items.size hi - sIx items.size 0 lo) == items.size) = true then _ else _) _ _ s
  rw [if_neg hno, pick_gen]
  first
    | exact wpAny_bind (m := Builtin.Tuple.tupleExact _) (wpAny_newObj_type (wpAny_pure ⟨_, rfl, wpAny_pure h⟩) htake)
    | exact wpAny_bind (m := Builtin.Tuple.tupleExact _) (wpAny_newObj_type (wpAny_bind (wpAny_pure (wpAny_pure ⟨_, rfl, wpAny_pure h⟩))) htake)
    | exact wpAny_bind (wpAny_bind (m := Builtin.Tuple.tupleExact _) (wpAny_newObj_type (wpAny_pure (wpAny_pure ⟨_, rfl, wpAny_pure h⟩)) htake))
    | exact wpAny_bind (wpAny_bind (m := Builtin.Tuple.tupleExact _) (wpAny_newObj_type (wpAny_pure ⟨_, rfl, wpAny_pure h⟩) htake))
end
end HT

namespace L2
open PySem PySem.Spec PyProof.Rows

abbrev TO := St → Hp → (Option Int → Hp → Prop) → Prop
def PO (X : Cx) (e : Option Expr) (t : TO) : Prop :=
  ∀ (pins : List (Addr × Obj)) (s : Shared) (σ : St) (H : Hp) (Q : Option Int → Hp → Prop), Inv X pins σ H s → t σ H Q →
    wpAny (model X.prog X.w) X.A (evalPart e X.env) (fun u s' => ∃ o H', Inv X pins σ H' s' ∧ IsPart u o ∧ Q o H') X.xe s
def tNoPart : TO := fun _ H Q => Q none H
def tPart (t : TE) : TO := fun σ H Q => t σ H fun x H1 => ∃ i, x = .int i ∧ Q (some i) H1

theorem intsAre_of {ns : List Int} : ∀ {us : List Value}, Vals (ns.map V.int) us → IntsAre us ns := by
  induction ns with
  | nil => intro us r; rw [List.map_nil] at r; cases r; exact .nil
  | cons n ns ih =>
    intro us r
    rw [List.map_cons] at r
    cases r with
    | cons r1 r2 =>
      obtain ⟨t, e⟩ := r1
      subst e
      exact .cons n t (ih r2)

section
variable {X : Cx} {e : Expr} {te : TE} {lo hi : Option Expr} {tl th : TO} {pos p2 : Pos}

theorem po_none : PO X none tNoPart := by
  intro pins s σ H Q I h
  rw [evalPart_none]
  exact wpAny_pure ⟨none, H, I, .none, h⟩
theorem po_some (h : PE X e te) : PO X (some e) (tPart te) := by
  intro pins s σ H Q I hw
  rw [evalPart_some]
  refine thn (h pins s σ H _ I hw) fun u s1 ⟨x, H1, I1, r1, q1⟩ => ?_
  obtain ⟨i, rfl, q⟩ := q1
  obtain ⟨t, rfl⟩ := r1
  exact ⟨some i, H1, I1, .int i t, q⟩

def SlR (X : Cx) (r : V → Option Int → Option Int → Hp → VK → Prop) : Prop :=
  ∀ (pins : List (Addr × Obj)) (s : Shared) (σ : St) (H : Hp) (x : V) (v vl vu : Value) (lo hi : Option Int) (sl : Addr) (Q : VK), Inv X pins σ H s → RelV x v → s.heap.IsSliceOf sl vl vu .none → IsPart vl lo → IsPart vu hi → r x lo hi H Q →
    ∃ T id, typeLookup (.type T) "__getitem__" = pure (some (.builtin id)) ∧ s.TypeIs v T ∧ wpAny (model X.prog X.w) X.A (getItem v (.ref sl)) (EP X pins σ Q) X.xe s
theorem SlR.or {r r' : V → Option Int → Option Int → Hp → VK → Prop} (h : SlR X r) (h' : SlR X r') : SlR X (fun x lo hi H Q => r x lo hi H Q ∨ r' x lo hi H Q) := by
  intro pins s σ H x v vl vu lo hi sl Q I rx hs pl pu q
  rcases q with q | q
  · exact h pins s σ H x v vl vu lo hi sl Q I rx hs pl pu q
  · exact h' pins s σ H x v vl vu lo hi sl Q I rx hs pl pu q
def tSl (r : V → Option Int → Option Int → Hp → VK → Prop) (te : TE) (tl th : TO) : TE := fun σ H Q => te σ H fun x H1 => tl σ H1 fun l H2 => th σ H2 fun u H3 => r x l u H3 Q
theorem pe_slice {r : V → Option Int → Option Int → Hp → VK → Prop} (hr : SlR X r) (he : PE X e te) (hl : PO X lo tl) (hu : PO X hi th) : PE X (.Subscript e (.Slice lo hi none p2) pos) (tSl r te tl th) := by
  intro pins s σ H Q I h
  refine Subscript_ (thn (he pins s σ H _ I h) fun v s1 ⟨x, H1, I1, r1, q1⟩ => ?_)
  refine wpAny_Slice (thn (hl pins s1 σ H1 _ I1 q1) fun vl s2 ⟨l, H2, I2, pl, q2⟩ => thn (hu pins s2 σ H2 _ I2 q2) fun vu s3 ⟨u, H3, I3, pu, q3⟩ => ?_)
  rw [evalPart_none]
  refine wpAny_pure ?_
  have I4 : Inv X pins σ H3 { s3 with heap := s3.heap.push { cls := .type "slice", data := .fields #[vl, vu, .none] } } := I3.kept (t' := s3.toks) fun b ob q => Heap.get?_push_of_some _ q
  obtain ⟨T, id, hT, ht, hg⟩ := hr pins { s3 with heap := s3.heap.push { cls := .type "slice", data := .fields #[vl, vu, .none] } } σ H3 x v vl vu l u s3.heap.objs.size Q I4 r1 (Heap.IsSliceOf.new ..) pl pu q3
  show wpAny (model X.prog X.w) X.A (subscriptTail e (.Slice lo hi none p2) v (.ref s3.heap.objs.size)) (EP X pins σ Q) X.xe { s3 with heap := s3.heap.push { cls := .type "slice", data := .fields #[vl, vu, .none] } }
  exact tail_any (ops := [.ref s3.heap.objs.size, v]) ht hT hg (by with_unfolding_all rfl)

def cutV (xs : List V) (lo hi : Option Int) : List V := (xs.drop (HT.sIx xs.length 0 lo)).take (HT.sIx xs.length xs.length hi - HT.sIx xs.length 0 lo)
theorem cutV_length (xs : List V) (lo hi : Option Int) : (cutV xs lo hi).length ≤ xs.length := by
  unfold cutV
  rw [List.length_take, List.length_drop]
  omega
def rSlT (K : PySem.W.Frag) : V → Option Int → Option Int → Hp → VK → Prop := fun x lo hi H Q => ∃ a xs, x = .ref a ∧ SqT K H a xs ∧
  ¬ (HT.sIx xs.length 0 lo = 0 ∧ HT.sIx xs.length xs.length hi = xs.length) ∧ ∀ p, H p = none → Q (.ref p) (upd H p (.tup (cutV xs lo hi)))
theorem sl_tup : SlR X (rSlT X.K) := by
  intro pins s σ H x v vl vu lo hi sl Q I rx hs pl pu h
  obtain ⟨a, xs, rfl, hx, hw, q⟩ := h
  cases rx
  obtain ⟨its, r, ht, hz⟩ := I.tuple hx
  have hlen : its.toArray.size = xs.length := by rw [List.size_toArray]; exact r.length.symm
  refine ⟨"tuple", _, PyProof.Rows.slot_tuple_getitem.lookup, ht.typeIs, ?_⟩
  refine HT.getItem_tuple_cut ht hs pl pu (by rw [hlen]; exact hw) ?_ (by rw [hlen]; exact hz)
  rw [hlen]
  refine ⟨.ref s.heap.objs.size, _, I.laid (t' := s.toks) (o := .tup (cutV xs lo hi)) (fun b ob q => Heap.get?_push_of_some _ q) (Nat.le_refl _) ?_, rfl, q _ (I.hok.fresh (Nat.le_refl _))⟩
  exact ⟨Nat.le_trans (cutV_length xs lo hi) hz, _, (r.drop (HT.sIx xs.length 0 lo)).take (HT.sIx xs.length xs.length hi - HT.sIx xs.length 0 lo), IsTup.new _ _⟩

def rCatT (K : PySem.W.Frag) : R2 := fun x y H Q => ∃ a b xs ys, x = .ref a ∧ y = .ref b ∧ SqT K H a xs ∧ SqT K H b ys ∧ xs ≠ [] ∧ xs.length + ys.length ≤ sizeLine ∧
  (ys = [] → Q (.ref a) H) ∧ (ys ≠ [] → ∀ p, H p = none → Q (.ref p) (upd H p (.tup (xs ++ ys))))
theorem Vals.nil_iff {xs : List V} {us : List Value} (r : Vals xs us) : us = [] ↔ xs = [] := by
  cases r with
  | nil => simp
  | cons _ _ => simp
theorem op_catT : OpR X (binaryOp .Add) (rCatT X.K) := by
  intro pins s σ H x y v u Q I rx ry h
  obtain ⟨a, b, xs, ys, rfl, rfl, ha, hb, hx, hz, q1, q2⟩ := h
  cases rx
  cases ry
  obtain ⟨its, r1, p1, _⟩ := I.tuple ha
  obtain ⟨its2, r2, p2, _⟩ := I.tuple hb
  refine HT.cat_tup p1 p2 (fun z => hx (r1.nil_iff.mp z)) (fun z => ⟨.ref a, H, I, rfl, q1 (r2.nil_iff.mp z)⟩) (fun z => ?_) (by rw [← r1.length, ← r2.length]; exact hz)
  refine ⟨.ref s.heap.objs.size, _, I.laid (t' := s.toks) (o := .tup (xs ++ ys)) (fun b ob q => Heap.get?_push_of_some _ q) (Nat.le_refl _) ?_, rfl, q2 (fun w => z (r2.nil_iff.mpr w)) _ (I.hok.fresh (Nat.le_refl _))⟩
  exact ⟨by rw [List.length_append]; exact hz, _, r1.append r2, IsTup.new _ _⟩
end
end L2

namespace L2
open PySem PySem.Spec PyProof.Rows

def ixN (n : Nat) (i : Int) : Option Nat := if 0 ≤ i then (if i < n then some i.toNat else none) else if -(n : Int) ≤ i then some (i + n).toNat else none
def atI {α : Type} (xs : List α) (i : Int) : Option α := (ixN xs.length i).bind fun j => xs[j]?
theorem ixN_seq {n : Nat} {i : Int} {j : Nat} (h : ixN n i = some j) : seqIndex? i n = some j ∧ j < n ∧ -(n : Int) ≤ i ∧ i < n := by
  unfold ixN at h
  by_cases h0 : 0 ≤ i
  · rw [if_pos h0] at h
    by_cases h1 : i < n
    · rw [if_pos h1] at h
      have e : i.toNat = j := Option.some.inj h
      exact ⟨by rw [seqIndex_of h0 h1, e], by omega, by omega, h1⟩
    · rw [if_neg h1] at h; cases h
  · rw [if_neg h0] at h
    by_cases h1 : -(n : Int) ≤ i
    · rw [if_pos h1] at h
      have e : (i + n).toNat = j := Option.some.inj h
      exact ⟨by rw [seqIndex_neg (by omega) h1, e], by omega, h1, by omega⟩
    · rw [if_neg h1] at h; cases h
theorem atI_get {α : Type} {xs : List α} {i : Int} {v : α} (h : atI xs i = some v) : ∃ j, seqIndex? i xs.length = some j ∧ xs[j]? = some v ∧ j < xs.length ∧ -(xs.length : Int) ≤ i ∧ i < xs.length := by
  unfold atI at h
  cases e : ixN xs.length i with
  | none => rw [e] at h; cases h
  | some j =>
    rw [e] at h
    obtain ⟨h1, h2, h3, h4⟩ := ixN_seq e
    exact ⟨j, h1, h, h2, h3, h4⟩

def PlainIx (b : Expr) : Prop := ∀ o i, subscripted b false o i = operate [o, i] (getItem o i)
def IxR (X : Cx) (r : R2) : Prop :=
  ∀ (value slice : Expr) (pins : List (Addr × Obj)) (s : Shared) (σ : St) (H : Hp) (x y : V) (v u : Value) (Q : VK), Inv X pins σ H s → RelV x v → RelV y u → r x y H Q →
    subscripted slice false v u = operate [v, u] (getItem v u) → wpAny (model X.prog X.w) X.A (subscriptTail value slice v u) (EP X pins σ Q) X.xe s
def MtR (X : Cx) (id : String) (r : V → List V → Hp → VK → Prop) : Prop :=
  ∀ (pins : List (Addr × Obj)) (s : Shared) (σ : St) (H : Hp) (x : V) (xs : List V) (v : Value) (us : List Value) (Q : VK), Inv X pins σ H s → RelV x v → Vals xs us → r x xs H Q →
    wpAny (model X.prog X.w) X.A (call (.builtin id) (v :: us)) (EP X pins σ Q) X.xe s
section
variable {X : Cx} {a b : Expr} {ta tb : TE} {pos : Pos}
theorem IxR.or {r r' : R2} (h : IxR X r) (h' : IxR X r') : IxR X (fun x y H Q => r x y H Q ∨ r' x y H Q) := by
  intro value slice pins s σ H x y v u Q I rx ry q hs
  rcases q with q | q
  · exact h value slice pins s σ H x y v u Q I rx ry q hs
  · exact h' value slice pins s σ H x y v u Q I rx ry q hs
theorem pe_ix {r : R2} (hr : IxR X r) (ha : PE X a ta) (hb : PE X b tb) (hs : PlainIx b) : PE X (.Subscript a b pos) (tOp r ta tb) := by
  intro pins s σ H Q I h
  exact Subscript_ (binT ha hb I h fun v u s2 x y H2 I2 rx ry q => hr a b pins s2 σ H2 x y v u Q I2 rx ry q (hs _ _))

def rIxL (K : PySem.W.Frag) : R2 := fun x y H Q => ∃ p xs i v, x = .ref p ∧ y = .int i ∧ SqL K H p xs ∧ atI xs i = some v ∧ Q v H
def rIxT (K : PySem.W.Frag) : R2 := fun x y H Q => ∃ p xs i v, x = .ref p ∧ y = .int i ∧ SqT K H p xs ∧ atI xs i = some v ∧ Q v H
def rIxS : R2 := fun x y H Q => ∃ z i c, x = .str z ∧ y = .int i ∧ z.length ≤ sizeLine ∧ atI z.cps.toList i = some c ∧ Q (.str ⟨#[c]⟩) H
theorem ix_list : IxR X (rIxL X.K) := by
  intro value slice pins s σ H x y v u Q I rx ry h hs
  obtain ⟨p, xs, i, z, rfl, rfl, hq, he, q⟩ := h
  cases rx
  obtain ⟨t, rfl⟩ := ry
  obtain ⟨its, r, pl, hz⟩ := I.list hq
  obtain ⟨j, h1, h2, h3, h4, h5⟩ := atI_get he
  obtain ⟨w, ew, rw'⟩ := r.get h2
  have hl := r.length
  have hn := line63
  have fin : EP X pins σ Q w s := ⟨z, H, I, rw', q⟩
  by_cases h0 : 0 ≤ i
  · have hj : i.toNat = j := by
      rw [seqIndex_of h0 h5] at h1
      exact Option.some.inj h1
    exact item_listR pl.isList h0 (by omega) (by rw [hj]; simpa using ew) fin hs
  · have hj : (i + (its.toArray.size : Int)).toNat = j := by
      rw [seqIndex_neg (by omega) h4] at h1
      rw [List.size_toArray, ← hl]
      exact Option.some.inj h1
    exact subscriptTail_builtinR (x := w) pl.isList.typeIs slot_list_getitem.lookup
      (wpAny_getItem_list_neg (Q := fun r s' => r = w ∧ EP X pins σ Q r s') pl.isList (by omega) (by rw [List.size_toArray] <;> omega) (by omega) (by rw [hj]; simpa using ew) ⟨rfl, fin⟩) hs
theorem ix_tup : IxR X (rIxT X.K) := by
  intro value slice pins s σ H x y v u Q I rx ry h hs
  obtain ⟨p, xs, i, z, rfl, rfl, hq, he, q⟩ := h
  cases rx
  obtain ⟨t, rfl⟩ := ry
  obtain ⟨its, r, pl, hz⟩ := I.tuple hq
  obtain ⟨j, h1, h2, h3, h4, h5⟩ := atI_get he
  obtain ⟨w, ew, rw'⟩ := r.get h2
  have hl := r.length
  have hn := line63
  have fin : EP X pins σ Q w s := ⟨z, H, I, rw', q⟩
  exact subscriptTail_builtinR (x := w) pl.typeIs slot_tuple_getitem.lookup
    (getItem_tuple (j := j) (Q := fun r s' => r = w ∧ EP X pins σ Q r s') pl (by omega) (by omega) (by rw [List.size_toArray, ← hl]; exact h1) (by simpa using ew) ⟨rfl, fin⟩) hs
theorem ix_str : IxR X rIxS := by
  intro value slice pins s σ H x y v u Q I rx ry h hs
  obtain ⟨z, i, c, rfl, rfl, hz, he, q⟩ := h
  obtain ⟨t, rfl⟩ := rx
  obtain ⟨t', rfl⟩ := ry
  obtain ⟨j, h1, h2, h3, h4, h5⟩ := atI_get he
  have hl : z.cps.toList.length = z.length := by simp [Str.length]
  rw [hl] at h1 h4 h5
  have hn := line63
  exact tail_any (typeIs_str s z t) slot_str_getitem.lookup (getItem_str (c := c) (by
    have e1 : decide (i < -(2 ^ 63 : Int)) = false := decide_eq_false (by omega)
    have e2 : decide (i ≥ 2 ^ 63) = false := decide_eq_false (by omega)
    rw [e1, e2, Bool.or_false]) (by rw [h1]; simpa using h2) ⟨.str ⟨#[c]⟩, H, I.tok _, ⟨_, rfl⟩, q⟩) hs

theorem mapSeq_set (its : List Value) (n j : Nat) (u : Value) : Obj.mapSeq (·.setIfInBounds j u) { cls := .type "list", data := .seq its.toArray n } = { cls := .type "list", data := .seq (its.set j u).toArray n } := by
  simp [Obj.mapSeq]
theorem Inv.lst {pins : List (Addr × Obj)} {σ : St} {H : Hp} {s : Shared} {p : Addr} {xs : List V} (I : Inv X pins σ H s) (h : H p = some (.lst xs)) :
    ∃ (its : List Value) (n : Nat), Vals xs its ∧ s.heap.get? p = some { cls := .type "list", data := .seq its.toArray n } ∧ xs.length ≤ sizeLine := by
  obtain ⟨z, its, n, r, e⟩ := I.hok p _ h
  exact ⟨its, n, r, e, z⟩
theorem Inv.lstUpd {pins : List (Addr × Obj)} {σ : St} {H : Hp} {s : Shared} {p : Addr} {xs ys : List V} {its its' : List Value} {n n' : Nat} {f : Obj → Obj} (I : Inv X pins σ H s) (h : H p = some (.lst xs))
    (ho : s.heap.get? p = some { cls := .type "list", data := .seq its.toArray n }) (hf : f { cls := .type "list", data := .seq its.toArray n } = { cls := .type "list", data := .seq its'.toArray n' }) (r : Vals ys its') (hz : ys.length ≤ sizeLine) (t : Nat) :
    Inv X pins σ (upd H p (.lst ys)) { s with heap := s.heap.update p f, toks := t } := by
  have e : (s.heap.update p f).get? p = some { cls := .type "list", data := .seq its'.toArray n' } := by
    rw [Heap.get?_update_self f ho (by rw [hf] <;> rfl), hf]
  refine I.write (x := p) (e := p) (by rw [h]; trivial) (.inl rfl) (fun b u hb q => (Heap.get?_update_other _ _ (Ne.symm hb)).trans q) ⟨_, e⟩ ?_
  exact ⟨hz, its', n', r, e⟩
def rSetL : V → V → V → Hp → (Hp → Prop) → Prop := fun o i v H Q => ∃ p xs k j, o = .ref p ∧ i = .int k ∧ H p = some (.lst xs) ∧ ixN xs.length k = some j ∧ Q (upd H p (.lst (xs.set j v)))
theorem set_list : PSet X rSetL := by
  intro pins s σ H o i v ov iv u Q I ro ri rv h
  obtain ⟨p, xs, k, j, rfl, rfl, hp, hj, q⟩ := h
  cases ro
  obtain ⟨t, rfl⟩ := ri
  obtain ⟨its, n, r, ho, hz⟩ := I.lst hp
  obtain ⟨h1, h2, h3, h4⟩ := ixN_seq hj
  have hl := r.length
  have hn := line63
  have I' : Inv X pins σ (upd H p (.lst (xs.set j v))) { s with heap := s.heap.update p (Obj.mapSeq (·.setIfInBounds j u)) } :=
    I.lstUpd hp ho (mapSeq_set its n j u) (r.set rv j) (by rw [List.length_set]; exact hz) s.toks
  by_cases h0 : 0 ≤ k
  · have hk : k.toNat = j := by
      rw [seqIndex_of h0 h4] at h1
      exact Option.some.inj h1
    exact PySem.W.ki_setAt ho h0 (by omega) (by rw [List.size_toArray, ← hl]; exact h4) (by rw [hk]; exact ⟨_, I', q⟩)
  · have hk : (k + (its.toArray.size : Int)).toNat = j := by
      rw [seqIndex_neg (by omega) h3] at h1
      rw [List.size_toArray, ← hl]
      exact Option.some.inj h1
    exact PySem.W.ki_setBack ho (by omega) (by rw [List.size_toArray, ← hl]; exact h3) (by omega) (by rw [hk]; exact ⟨_, I', q⟩)

theorem slice_bounds (lo hi : Option Int) (n : Nat) : (sliceBounds lo hi none n).1 = ((HT.sIx n 0 lo : Nat) : Int) ∧ (sliceBounds lo hi none n).2.1 = ((HT.sIx n n hi : Nat) : Int) ∧ (sliceBounds lo hi none n).2.2 = 1 := by
  refine ⟨?_, ?_, rfl⟩
  · cases lo with
    | none => simp [sliceBounds, HT.sIx]
    | some i =>
      simp only [sliceBounds, HT.sIx, Option.getD_none, show (1 : Int) > 0 by decide, if_true]
      by_cases h : i < 0
      · simp only [h, if_true] <;> omega
      · simp only [h, if_false] <;> omega
  · cases hi with
    | none => simp [sliceBounds, HT.sIx]
    | some i =>
      simp only [sliceBounds, HT.sIx, Option.getD_none, show (1 : Int) > 0 by decide, if_true]
      by_cases h : i < 0
      · simp only [h, if_true] <;> omega
      · simp only [h, if_false] <;> omega
theorem slicePick_cut (its : List Value) (lo hi : Option Int) : slicePick its.toArray lo hi none = ((its.drop (HT.sIx its.length 0 lo)).take (HT.sIx its.length its.length hi - HT.sIx its.length 0 lo)).toArray := by
  obtain ⟨h1, h2, h3⟩ := slice_bounds lo hi its.toArray.size
  unfold slicePick
  rw [h1, h2, h3]
  simp only [sliceRange_one, pick_run, List.size_toArray] <;> rfl
def rSlL (K : PySem.W.Frag) : V → Option Int → Option Int → Hp → VK → Prop := fun x lo hi H Q => ∃ a xs, x = .ref a ∧ SqL K H a xs ∧ ∀ p, H p = none → Q (.ref p) (upd H p (.lst (cutV xs lo hi)))
theorem sl_list : SlR X (rSlL X.K) := by
  intro pins s σ H x v vl vu lo hi sl Q I rx hs pl pu h
  obtain ⟨a, xs, rfl, hx, q⟩ := h
  cases rx
  obtain ⟨its, r, ht, hz⟩ := I.list hx
  have hlen := r.length
  refine ⟨"list", _, slot_list_getitem.lookup, ht.isList.typeIs, ?_⟩
  refine wpAny_getItem_list_slice ht.isList hs pl pu .none (by simp) ?_ (by rw [List.size_toArray] <;> omega)
  rw [slicePick_cut, ← hlen]
  refine ⟨.ref s.heap.objs.size, _, I.laid (t' := s.toks) (o := .lst (cutV xs lo hi)) (fun b ob q => Heap.get?_push_of_some _ q) (Nat.le_refl _) ?_, rfl, q _ (I.hok.fresh (Nat.le_refl _))⟩
  exact ⟨Nat.le_trans (cutV_length xs lo hi) hz, _, 0, (r.drop (HT.sIx xs.length 0 lo)).take (HT.sIx xs.length xs.length hi - HT.sIx xs.length 0 lo), Heap.get?_push_size _ rfl⟩


theorem call_len_seq : CallR X (.builtin "len") (fun xs H Q => ∃ p ys, xs = [.ref p] ∧ (SqL X.K H p ys ∨ SqT X.K H p ys) ∧ Q (.int ys.length) H) := by
  intro pins s σ H xs us Q I r h
  obtain ⟨p, ys, rfl, hq, q⟩ := h
  obtain ⟨u, rfl, rx⟩ := vals1 r
  cases rx
  have hn := line63
  rcases hq with hq | hq
  · obtain ⟨its, r', pl, hz⟩ := I.list hq
    have hlen := r'.length
    exact Calls.call_len_list pl.isList (by simp only [List.size_toArray] <;> omega) ⟨.int ys.length, H, I.tok _, ⟨s.toks + 1, by rw [List.size_toArray, hlen]⟩, q⟩
  · obtain ⟨its, r', pl, hz⟩ := I.tuple hq
    have hlen := r'.length
    exact len_tuple pl (by simp only [List.size_toArray] <;> omega) ⟨.int ys.length, H, I.tok _, ⟨s.toks + 1, by rw [List.size_toArray, hlen]⟩, q⟩
theorem call_len_str : CallR X (.builtin "len") (fun xs H Q => ∃ z, xs = [.str z] ∧ z.length ≤ sizeLine ∧ Q (.int z.length) H) := by
  intro pins s σ H xs us Q I r h
  obtain ⟨z, rfl, hz, q⟩ := h
  obtain ⟨u, rfl, t, rfl⟩ := vals1 r
  have hn := line63
  exact len_str (by omega) ⟨.int z.length, H, I.tok _, ⟨_, rfl⟩, q⟩
theorem call_list_of : CallR X (.type "list") (fun xs H Q => ∃ p ys, xs = [.ref p] ∧ (SqL X.K H p ys ∨ SqT X.K H p ys) ∧ ∀ l, H l = none → Q (.ref l) (upd H l (.lst ys))) := by
  intro pins s σ H xs us Q I r h
  obtain ⟨p, ys, rfl, hq, q⟩ := h
  obtain ⟨u, rfl, rx⟩ := vals1 r
  cases rx
  have fin : ∀ (its : List Value), Vals ys its → ys.length ≤ sizeLine → ∀ (h' : Heap) (c' : Nat), (∀ b o', s.heap.get? b = some o' → h'.get? b = some o') →
      h'.get? s.heap.objs.size = some { cls := .type "list", dict := none, data := .seq its.toArray c', slots := #[] } → EP X pins σ Q (.ref s.heap.objs.size) { s with heap := h' } := fun its r' hz h' c' kp e =>
    ⟨.ref s.heap.objs.size, _, I.laid (t' := s.toks) kp (Nat.le_refl _) (show ObjOk X.prog X.w _ h' _ (.lst ys) from ⟨hz, its, c', r', e⟩), rfl, q _ (I.hok.fresh (Nat.le_refl _))⟩
  rcases hq with hq | hq
  · obtain ⟨its, r', pl, hz⟩ := I.list hq
    have hlen := r'.length
    obtain ⟨o, ho, hc, n, hd⟩ := pl.isList
    exact call_list_seq p (.inl rfl) ho hc hd (fun h' c' kp e => fin its r' hz h' c' kp e) (by simp only [List.size_toArray] <;> omega)
  · obtain ⟨its, r', pl, hz⟩ := I.tuple hq
    have hlen := r'.length
    obtain ⟨o, ho, hc, n, hd⟩ := pl
    exact call_list_seq p (.inr rfl) ho hc hd (fun h' c' kp e => fin its r' hz h' c' kp e) (by simp only [List.size_toArray] <;> omega)
theorem call_tuple_of : CallR X (.type "tuple") (fun xs H Q => ∃ p ys, xs = [.ref p] ∧ ((SqL X.K H p ys ∧ ∀ l, H l = none → Q (.ref l) (upd H l (.tup ys))) ∨ (SqT X.K H p ys ∧ Q (.ref p) H))) := by
  intro pins s σ H xs us Q I r h
  obtain ⟨p, ys, rfl, h⟩ := h
  obtain ⟨u, rfl, rx⟩ := vals1 r
  cases rx
  rcases h with ⟨hq, q⟩ | ⟨hq, q⟩
  · obtain ⟨its, r', pl, hz⟩ := I.list hq
    have hlen := r'.length
    refine call_tuple_list pl.isList (fun h' kp => ?_) (by simp only [List.size_toArray] <;> omega)
    have I1 : Inv X pins σ H { s with heap := h' } := I.kept (t' := s.toks) kp
    have I2 : Inv X pins σ (upd H h'.objs.size (.tup ys)) { s with heap := h'.push { cls := .type "tuple", data := .seq its.toArray } } :=
      I1.laid (t' := s.toks) (fun b o e => Heap.get?_push_of_some _ e) (Nat.le_refl _) (show ObjOk X.prog X.w _ _ _ (.tup ys) from ⟨hz, its, r', IsTup.new _ _⟩)
    exact ⟨.ref h'.objs.size, _, I2, rfl, q _ (I1.hok.fresh (Nat.le_refl _))⟩
  · obtain ⟨its, r', pl, hz⟩ := I.tuple hq
    exact call_tuple_same pl ⟨.ref p, H, I, rfl, q⟩

def tyV (K : PySem.W.Frag) (T : String) (x : V) (H : Hp) : Prop := match x with
  | .str _ => T = "str"
  | .int _ => T = "int"
  | .ref p => (T = "list" ∧ ∃ xs, SqL K H p xs) ∨ (T = "tuple" ∧ ∃ o, K.lookup p = some o ∧ o.cls = .type "tuple" ∧ o.dict = none) ∨
      (T = "dict" ∧ ((∃ kvs, H p = some (.dK kvs)) ∨ ∃ kvs, H p = some (.dT kvs))) ∨ (T = "set" ∧ ∃ S n, H p = some (.set S n))
  | _ => False
theorem tyV_is {pins : List (Addr × Obj)} {σ : St} {H : Hp} {s : Shared} {T : String} {x : V} {v : Value} (I : Inv X pins σ H s) (r : RelV x v) (ty : tyV X.K T x H) :
    s.TypeIs v T ∧ ∀ a, v = .ref a → ∃ ob, s.heap.get? a = some ob ∧ ob.dict = none := by
  cases x with
  | str z =>
    obtain ⟨t, rfl⟩ := r
    cases (show T = "str" from ty)
    exact ⟨typeIs_str s z t, fun _ e => nomatch e⟩
  | int i =>
    obtain ⟨t, rfl⟩ := r
    cases (show T = "int" from ty)
    exact ⟨typeIs_int s i t, fun _ e => nomatch e⟩
  | ref p =>
    cases r
    rcases ty with ⟨rfl, xs, hq⟩ | ⟨rfl, o, hk, hc, hd⟩ | ⟨rfl, hk⟩ | ⟨rfl, S, n, hk⟩
    · obtain ⟨its, _, pl, _⟩ := I.list hq
      refine ⟨pl.isList.typeIs, fun a e => ?_⟩
      cases e
      obtain ⟨o, n, e, c, hd, _⟩ := pl
      exact ⟨o, e, hd⟩
    · refine ⟨⟨o, I.kIn p o hk, hc⟩, fun a e => ?_⟩
      cases e
      exact ⟨o, I.kIn _ o hk, hd⟩
    · have z : ∃ o, s.heap.get? p = some o ∧ o.ExactDict := by
        rcases hk with ⟨kvs, hk⟩ | ⟨kvs, hk⟩
        · obtain ⟨_, _, _, _, o, _, _, e, ex, _⟩ := I.hok p _ hk
          exact ⟨o, e, ex⟩
        · obtain ⟨_, _, _, _, o, _, _, e, ex, _⟩ := I.hok p _ hk
          exact ⟨o, e, ex⟩
      obtain ⟨o, e, ex⟩ := z
      refine ⟨⟨o, e, ex.1⟩, fun a e2 => ?_⟩
      cases e2
      exact ⟨o, e, ex.2.1⟩
    · obtain ⟨o, _, _, _, e, ex, _⟩ := I.hok p _ hk
      refine ⟨⟨o, e, ex.1⟩, fun a e2 => ?_⟩
      cases e2
      exact ⟨o, e, ex.2.1⟩
  | _ => exact False.elim ty
def tBM (K : PySem.W.Frag) (T : String) (r : V → List V → Hp → VK → Prop) (to : TE) (t : TA) : TE := fun σ H Q => to σ H fun x H1 => tyV K T x H1 ∧ t σ H1 fun xs H2 => r x xs H2 Q
variable {o e : Expr} {es : List Expr} {to : TE} {t : TA} {name : Str} {apos cpos : Pos} {T id : String} {r : V → List V → Hp → VK → Prop}
theorem pe_bm (pa : PlainAttrs T) (slot : Slot T name id) (hty : typeOf (.builtin id) = pure (.type "method_descriptor")) (hm : MtR X id r) (ho : PE X o to) (ha : PA X (e :: es) t)
    (hbase : attributeBase o name X.env (eval o X.env) = eval o X.env := by rfl)
    (hfew : ((backTo cpos (starEach (e :: es) X.env)).all (fun x => !x.1) && (backToKw cpos (keywordEach [] X.env)).all (fun x => x.1.isSome)
      && decide ((e :: es).length + ([] : List Keyword).length + (if ([] : List Keyword).isEmpty then 0 else 1) < 30)) = true := by rfl)
    (hline : (apos.endLine == cpos.line) = true := by rfl) (hs : starEach (e :: es) X.env = (false, eval e X.env) :: starEach es X.env := by rfl) (hplain : (backTo cpos (starEach es X.env)).any (·.1) = false := by rfl) :
    PE X (.Call (.Attribute o name apos) (e :: es) [] cpos) (tBM X.K T r to t) := by
  intro pins s σ H Q I h
  refine wpAny_Call_method_late hbase hfew hline rfl (thn (ho pins s σ H _ I h) fun v s1 ⟨x, H1, I1, r1, ty, q1⟩ => ?_)
  obtain ⟨h1, h2⟩ := tyV_is I1 r1 ty
  refine ⟨T, id, pa, slot, hty, h1, h2, ?_⟩
  have hA := ha cpos pins s1 σ H1 _ I1 q1
  rw [hs] at hA ⊢
  refine Calls.callWith_builtin (by show (false || (backTo cpos (starEach es X.env)).any (·.1)) = false; rw [hplain] <;> rfl) (Calls.evalArgs_plain ?_)
  exact thn hA fun us s2 ⟨vs, H2, I2, r2, q2⟩ => hm pins s2 σ H2 x vs v us Q I2 r1 r2 q2
/- xs.append(e), list.index on a module's tuple .. are MtR facts of 06m -/
end
end L2

namespace L2
open PySem PySem.Spec PyProof.Rows

def MtM (X : Cx) (id : String) (r : V → List V → Hp → VK → Prop) : Prop :=
  ∀ (pins : List (Addr × Obj)) (s : Shared) (σ : St) (H : Hp) (x : V) (xs : List V) (v : Value) (us : List Value) (Q : VK), Inv X pins σ H s → RelV x v → Vals xs us → r x xs H Q →
    wpAny (model X.prog X.w) X.A (call (.builtin id) (v :: us)) (EP X pins σ Q) X.xe s

theorem Vals.one : ∀ {x : V} {us : List Value}, Vals [x] us → ∃ u, us = [u] ∧ RelV x u
  | _, _, .cons r .nil => ⟨_, rfl, r⟩
theorem Vals.rep {xs : List V} {us : List Value} (h : Vals xs us) : ∀ k : Nat, Vals (List.replicate k xs).flatten (List.replicate k us).flatten
  | 0 => .nil
  | k + 1 => by
    rw [List.replicate_succ, List.replicate_succ, List.flatten_cons, List.flatten_cons]
    exact Vals.append h (Vals.rep h k)
theorem foldl_rep (its : List Value) : ∀ (k : Nat) (acc : List Value),
    List.foldl (fun x1 x2 => x1 ++ x2) acc.toArray (List.replicate k its.toArray) = (acc ++ (List.replicate k its).flatten).toArray
  | 0, acc => by simp
  | k + 1, acc => by
    have e : acc.toArray ++ its.toArray = (acc ++ its).toArray := by simp
    have e2 : (acc ++ its) ++ (List.replicate k its).flatten = acc ++ (List.replicate (k + 1) its).flatten := by
      rw [List.replicate_succ, List.flatten_cons, List.append_assoc]
    rw [← e2, ← foldl_rep its k (acc ++ its), ← e, List.replicate_succ, List.foldl_cons]

section
variable {X : Cx} {pins : List (Addr × Obj)} {σ : St} {H : Hp} {s : Shared} {l b : Addr} {xs ys zs : List V}

theorem Inv.lset {its its' : List Value} {n : Nat} {f : Array Value → Array Value} {t' : Nat} (I : Inv X pins σ H s) (hH : H l = some (.lst xs))
    (e : s.heap.get? l = some { cls := .type "list", data := .seq its.toArray n }) (hf : f its.toArray = its'.toArray) (hv : Vals ys its') (hz : ys.length ≤ sizeLine) :
    Inv X pins σ (upd H l (.lst ys)) { s with heap := s.heap.update l (Obj.mapSeq f), toks := t' } := by
  have q := PySem.IsL.update e f
  rw [hf] at q
  refine I.write (x := l) (e := l) (by rw [hH]; exact trivial) (.inl rfl) (fun b' u hb hu => (Heap.get?_update_other s.heap (Obj.mapSeq f) (Ne.symm hb)).trans hu) ⟨_, q⟩ ?_
  exact ⟨hz, its', _, hv, q⟩
theorem Inv.lnew {its : List Value} {t' : Nat} (I : Inv X pins σ H s) (hv : Vals ys its) (hz : ys.length ≤ sizeLine) :
    Inv X pins σ (upd H s.heap.objs.size (.lst ys)) { s with heap := s.heap.push { cls := .type "list", data := .seq its.toArray }, toks := t' } :=
  I.laid (fun _ _ q => Heap.get?_push_of_some _ q) (Nat.le_refl _) ⟨hz, its, 0, hv, Heap.get?_push_size _ rfl⟩
theorem Inv.fresh (I : Inv X pins σ H s) : H s.heap.objs.size = none := I.hok.fresh (Nat.le_refl _)
theorem Inv.lstM (I : Inv X pins σ H s) (hH : H l = some (.lst xs)) : xs.length ≤ sizeLine ∧ ∃ (its : List Value) (n : Nat), Vals xs its ∧ xs.length = its.length ∧ s.heap.get? l = some { cls := .type "list", data := .seq its.toArray n } := by
  obtain ⟨z, its, n, r, e⟩ := I.hok l _ hH
  exact ⟨z, its, n, r, r.length, e⟩

theorem notLongL {n : Nat} (h : n ≤ sizeLine) : Builtin.List.listTooLong n = false := by
  unfold Builtin.List.listTooLong
  exact decide_eq_false (by omega)
end

section
variable {X : Cx}

def rAppend : V → List V → Hp → VK → Prop := fun x vs H Q => ∃ l xs y, x = .ref l ∧ vs = [y] ∧ H l = some (.lst xs) ∧ xs.length < sizeLine ∧ Q .non (upd H l (.lst (xs ++ [y])))
theorem mt_append : MtM X "list.append" rAppend := by
  intro pins s σ H x vs v us Q I rx rv h
  obtain ⟨l, xs, y, rfl, rfl, hH, hz, q⟩ := h
  cases rx
  obtain ⟨u, rfl, ru⟩ := rv.one
  obtain ⟨z, its, n, r, hl, e⟩ := I.lstM hH
  refine call_meets F.slot_list_append ⟨_, e, rfl⟩ F.entry_list_append (F.args_list_append_2 _ _) (PySem.list_append l its.toArray n u (by rw [List.size_toArray]; omega)) ⟨e, ?_⟩
  refine ⟨.non, _, I.lset (its' := its ++ [u]) hH e (by simp) (r.append (.cons ru .nil)) ?_, rfl, q⟩
  rw [List.length_append, List.length_singleton]
  omega






def rRep : R2 := fun x y H Q => ∃ l k xs, x = .ref l ∧ y = .int k ∧ H l = some (.lst xs) ∧ -(2 ^ 63) ≤ k ∧ k < 2 ^ 63 ∧ xs.length * k.toNat ≤ sizeLine ∧
  ∀ p, H p = none → Q (.ref p) (upd H p (.lst (List.replicate k.toNat xs).flatten))
theorem len_rep {α : Type} (xs : List α) (k : Nat) : (List.replicate k xs).flatten.length = k * xs.length := by
  induction k with
  | zero => simp
  | succ k ih => rw [List.replicate_succ, List.flatten_cons, List.length_append, ih, Nat.succ_mul, Nat.add_comm]
theorem op_rep : OpR X (binaryOp .Mult) rRep := by
  intro pins s σ H x y v u Q I rx ry h
  obtain ⟨l, k, xs, rfl, rfl, hH, h1, h2, hz, q⟩ := h
  cases rx
  obtain ⟨t, rfl⟩ := ry
  obtain ⟨z, its, n, r, hl, e⟩ := I.lstM hH
  have hlen : its.toArray.size * k.toNat ≤ sizeLine := by rw [List.size_toArray, ← hl]; exact hz
  have hcap : ¬ its.toArray.size * k.toNat > (2 ^ 63 - 1) / 8 := by
    have : (sizeLine : Nat) ≤ (2 ^ 63 - 1) / 8 := by decide
    omega
  have hfit : ¬ (!Builtin.List.listFitsIndex k) = true := by
    rw [fitsIndex_both h1 h2]
    exact Bool.false_ne_true
  have hlong : ¬ Builtin.List.listTooLong (its.toArray.size * k.toNat) = true := by
    rw [notLongL hlen]
    exact Bool.false_ne_true
  have hnew : List.foldl (fun x1 x2 => x1 ++ x2) #[] (List.replicate (if its.toArray.isEmpty = true then 0 else k.toNat) its.toArray) = (List.replicate k.toNat its).flatten.toArray := by
    have f0 : ∀ m : Nat, List.foldl (fun x1 x2 => x1 ++ x2) #[] (List.replicate m its.toArray) = (List.replicate m its).flatten.toArray := fun m => by
      have := foldl_rep its m []
      rw [List.nil_append] at this
      exact this
    rw [f0]
    cases its with
    | nil => simp
    | cons a r' => rw [if_neg (by simp)]
  refine wpAny_binaryOp_repeat_ref (T := "list") (U := "int") (by decide) ⟨_, e, rfl⟩ (fun s' => typeIs_int s' k t) noFill_list_mul F.fills_int_mul F.slot_int_rmul repeat_list F.slot_int_index.lookup
    (call_meets F.slot_int_rmul (typeIs_int s k t) F.entry_int_rmul (F.args_int_rmul_2 _ _) (int___rmul___int_list k t l its.toArray n)
      ⟨e, rfl, ⟨_, e, rfl⟩, call_meets F.slot_list_mul ⟨_, e, rfl⟩ F.entry_list_mul (F.args_list_mul_2 _ _) (AutoListH.list___mul___list_int_3 l its.toArray n k t hfit hcap hlong) ⟨e, ?_⟩⟩)
  rw [hnew]
  exact ⟨.ref _, _, I.lnew (t' := s.toks) (r.rep k.toNat) (by rw [len_rep, Nat.mul_comm]; exact hz), rfl, q _ I.fresh⟩

end

section
variable {prog : Program} {w : World} {A : Around} {E : Value → Shared → Prop} {s : Shared}
set_option maxRecDepth 100000 in
end

section
variable {X : Cx}
end
end L2

namespace Att
open PySem PySem.W PySem.Calls PyProof.Rows

theorem ints_of_wellAll {P : Params} {h : Heap} : ∀ (ns : List Int) (vs : List Value), WellAll P h vs (ns.map WData.int) → IntsAre vs ns := by
  intro ns
  induction ns with
  | nil =>
    intro vs w
    rw [List.map_nil] at w
    cases w
    exact .nil
  | cons n ns ih =>
    intro vs w
    rw [List.map_cons] at w
    cases w with
    | cons a b =>
      cases a
      exact .cons _ _ (ih _ b)

theorem script_of {l : OpenLaw} {n : Nat} (hn : l.most = some n) {P : Params} {h : Heap} {args : List WData} {vals : List Value}
    (hpre : l.row.toRowW.claim.pre args = true) (hwl : WellAll P h vals args) :
    ∃ a vs ns, vals = [Value.ref a] ∧ args = [WData.list (ns.map WData.int)] ∧ h.get? a = some { cls := .type "list", data := .seq vs.toArray } ∧ IntsAre vs ns ∧ ns.length ≤ n := by
  have hsh : WShape.hasAll [] args [.list .int] = true := (pre_splitW hpre).1
  have hc : l.pre.holds [] { args := args } = true := (pre_splitW hpre).2
  obtain ⟨d, r, rfl, h1, h2⟩ := hasAllW_cons hsh
  obtain rfl := hasAllW_nil h2
  obtain ⟨xs, rfl, h3⟩ := hasW_list h1
  obtain ⟨ns, rfl⟩ := items_int h3
  have hlen : ns.length ≤ n := by
    unfold OpenLaw.pre at hc
    have h4 : (WTm.not (.lt (.lit (.int (n : Int))) (.len (.arg 0)))).holds [] { args := [.list (ns.map .int)] } = true := by
      have h4 := (holds_andW hc).1
      rw [hn] at h4
      exact h4
    have h5 := condW_of h4 (w_not (w_lt w_lit (w_len_list (w_arg rfl))))
    rw [List.length_map] at h5
    refine Nat.le_of_not_lt fun q => ?_
    have q' : (n : Int) < ((ns.length : Nat) : Int) := by omega
    first
      | (rw [decide_eq_true q'] at h5; exact absurd h5 (by decide))
      | (simp at h5; omega)
  cases hwl with
  | cons w1 w2 =>
    cases w2
    cases w1 with
    | list ho hall => exact ⟨_, _, ns, rfl, rfl, ho, ints_of_wellAll ns _ hall, hlen⟩

theorem post_true (l : OpenLaw) (args : List WData) : l.row.toRowW.claim.post args (.bool true) args = true :=
  postW_of (r := l.row.toRowW) (X := (true == true))
    (show WShape.has [] (.bool true) .bool = true by first | rfl | decide | simp [WShape.has, WShape.arms, WShape.armsAll])
    (show (WTm.eq .res (.lit (.bool true))).value [] { args := args, res := some (.bool true), after := args } = some (.bool (true == true)) from w_eq_bool (w_res rfl) w_lit) rfl


theorem attach_call {l : OpenLaw} {n : Nat} {q : Program} {loose : List Str} {XP : (Str → Option Value) → Heap → Prop} {YP : World → Heap → Prop} {d : DefRec}
    (hn : l.most = some n) (hdf : d.params.defaults = [])
    (call : ∀ (w : World) (s₀ s₁ : Shared) (mg mb : Str → Option Value) (fa : Addr) (o : Obj) (pm cd doc : Value) (a : Addr) (vs : List Value) (ns : List Int),
      Ground q loose [] XP w s₀ mg mb s₁.heap → YP w s₁.heap →
      s₁.heap.get? fa = some o → o.data = .func (docDef d.name d.params d.body d.scope pm cd doc) → s₁.heap.CodeRec cd d.name → mg d.name = some (.ref fa) →
      s₁.heap.get? a = some { cls := .type "list", data := .seq vs.toArray } → IntsAre vs ns → ns.length ≤ n → s₁.gens = #[] →
      codeAny (model l.prog w) callerA (.call (.ref fa) ⟨[.ref a], []⟩) (fun r s' => r = .ok (.ret (.bool true)) ∧ OldK s₁.heap s'.heap ∧ s'.os = s₁.os ∧ AllBare s'.gens) s₁) :
    WalkO q loose XP YP l.row.toRowW d [] (fun f vs => PySem.call f vs) := by
  intro w s₀ s₁ mg mb G Y fa o pm cd doc dV kV ho hd hcd hD hmg hg args vals as hpre hlay hrd hwl hlo
  obtain rfl : dV = .none := Dflts.none hD hdf
  obtain rfl : kV = .none := Dflts.noKw hD
  obtain ⟨a, vs, ns, rfl, rfl, hobj, hints, hlen⟩ := script_of hn hpre hwl
  refine enter_call (codeAny_mono (call w s₀ s₁ mg mb fa o pm cd doc a vs ns G Y ho (fd_plain hd) hcd hmg hobj hints hlen hg) fun r s' hq => ?_)
  obtain ⟨rfl, h2, h3, h4⟩ := hq
  exact ⟨.inl ⟨.bool true, .bool true, [], rfl, fun _ => rfl, .bool true, post_true l _, fun _ => ⟨List.Pairwise.nil, fun _ hm => (nomatch hm)⟩⟩, h2, h3, h4⟩


section
variable {prog : Program} {w : World} {A : Around} {E : Value → Shared → Prop} {s : Shared} {K : Frag}






end
end Att

namespace L2
open PySem PySem.Spec PyProof.Rows

theorem vals_ints : ∀ {vs : List Value} {ns : List Int}, IntsAre vs ns → Vals (ns.map V.int) vs
  | _, _, .nil => .nil
  | _, _, .cons n t h => .cons ⟨t, rfl⟩ (vals_ints h)

def Only (H : Hp) : Prop := ∀ b, H b = none ∨ ∃ o xs, H b = some (.frz o (.lst xs))

theorem law_call {P : Program} {w : World} {K : PySem.W.Frag} {mg mb : Str → Option Value} {CX : CXT} {k : Nat} {fa a : Addr} {fd : FuncData} {x : Str} {sp : Sp} {s₁ : Shared} {vs : List Value} {ns : List Int}
    (KX : K.In s₁.heap) (hns : s₁.heap.Ns mainGlobals mg) (hb : s₁.heap.Ns builtinsNs mb) (hbb : ∀ x : Str, x ≠ "__name__" → mb x = bootBuiltins x) (hlim : s₁.heap.NoLimit) (hg : s₁.gens = #[])
    (ha : s₁.heap.get? a = some { cls := .type "list", data := .seq vs.toArray }) (hi : IntsAre vs ns) (hl : ns.length ≤ sizeLine) (hr : Room k callerA)
    (F : ∀ base : Heap, K.In base → base.Ns mainGlobals mg → FnOk P w K mg base CX k fa fd [x] sp) (hbind : ∀ (s : Shared) (u : Value), BindsTo s fd ⟨[u], []⟩ [(x, u)])
    (hsp : ∀ H : Hp, Only H → SqL K H a (ns.map V.int) → sp [.ref a] H (fun v _ => v = .bl true) fun _ _ _ => False)
    (hCX : ∀ H e s', CX [] H s₁ (fun _ _ _ => False) e s' → False) :
    codeAny (model P w) callerA (.call (.ref fa) ⟨[.ref a], []⟩) (fun r s' => r = .ok (.ret (.bool true)) ∧ OldK s₁.heap s'.heap ∧ s'.os = s₁.os ∧ AllBare s'.gens) s₁ := by
  have rv := vals_ints hi
  have lenV := hi.length
  -- from an abstract heap in which nothing but the script may be tracked
  have core : ∀ H : Hp, Only H → SqL K H a (ns.map V.int) → HOk P w H s₁.heap → (∀ b, H b ≠ none → b = a) → (H a ≠ none → K.lookup a = none) →
      codeAny (model P w) callerA (.call (.ref fa) ⟨[.ref a], []⟩) (fun r s' => r = .ok (.ret (.bool true)) ∧ OldK s₁.heap s'.heap ∧ s'.os = s₁.os ∧ AllBare s'.gens) s₁ := by
    intro H hO hS hok hA hK
    have base_of : ∀ {b : Addr} {o : Obj}, s₁.heap.get? b = some o → H b = none → (hidT s₁.heap H).get? b = some o := fun e n => hidT_get e n
    have noA : ∀ {b : Addr} {o : Obj} {es : Array DictEntry} {ep : Nat}, s₁.heap.get? b = some o → o.data = .dict es ep → H b = none := fun {b o es ep} e d => by
      cases q : H b with
      | none => rfl
      | some u =>
        have e' : b = a := hA b (by rw [q]; simp)
        subst e'
        rw [ha] at e; cases e
        have d' : Data.seq vs.toArray _ = Data.dict es ep := d
        cases d'
    have nsK : ∀ {b : Addr} {m : Str → Option Value}, s₁.heap.Ns b m → (hidT s₁.heap H).Ns b m := fun {b m} ⟨o, es, ep, e, d, r⟩ => ⟨o, es, ep, base_of e (noA e d), d, r⟩
    have hKb : K.In (hidT s₁.heap H) := fun b o e => base_of (KX b o e) (by
      cases q : H b with
      | none => rfl
      | some u =>
        have e' : b = a := hA b (by rw [q]; simp)
        subst e'
        rw [hK (by rw [q]; simp)] at e; cases e)
    have hM : Mod K mg (hidT s₁.heap H) := ⟨hKb, nsK hns, ⟨mb, nsK hb, hbb⟩, let ⟨mc, h1, h2⟩ := hlim; ⟨mc, nsK h1, h2⟩⟩
    have e0 : Env0 P w K mg (hidT s₁.heap H) callerA [] s₁ H := ⟨rfl, hM, fun b o e => of_hidT e, Nat.le_of_eq (hidT_size _ _), trivial, fun b hb => absurd (show b ∈ ([] : List Addr) from hb) (by simp), hok, .of_eq hg⟩
    refine codeAny_mono ((F _ hKb (nsK hns)).run callerA [] s₁ H ⟨[.ref a], []⟩ [.ref a] [.ref a] _ _ hr e0 (hbind s₁ (.ref a)) (.cons rfl .nil) (hsp H hO hS)) fun r s' h => ?_
    cases r with
    | error e => exact (hCX H e s' h).elim
    | ok fl =>
      cases fl with
      | next => exact False.elim h
      | brk => exact False.elim h
      | cont => exact False.elim h
      | ret u =>
        obtain ⟨v, H', os, bare, un, hok', r', q⟩ := h
        have q' : v = .bl true := q
        subst q'
        obtain rfl : u = Value.bool true := r'
        refine ⟨rfl, OldK.of_keep fun b o e => ?_, os, bare⟩
        cases q : H b with
        | none => exact un.keep b o e q (by intro z; exact absurd (show b ∈ ([] : List Addr) from z) (by simp)) (by simp)
        | some u =>
          rcases hO b with z | ⟨ob, xs, z⟩
          · rw [q] at z; cases z
          · have z2 := un.frzs b ob _ z
            obtain ⟨e1, _⟩ := hok b _ z
            obtain ⟨e2, _⟩ := hok' b _ z2
            rw [e] at e1; cases e1
            exact e2
  cases hk : K.lookup a with
  | some o =>
    -- the script is one of the module's own objects
    have e := KX a o hk
    rw [ha] at e
    cases e
    refine core (fun _ => none) (fun _ => .inl rfl) (.inr ⟨_, vs.toArray, _, hk, rfl, rfl, rfl, by rw [List.size_toArray, lenV]; exact hl, by simpa using rv⟩) (fun b u z => by have z' : (none : Option HO) = some u := z; cases z') (fun b z => absurd rfl z) fun z => absurd rfl z
  | none =>
    refine core (fun b => if b = a then some (.frz { cls := .type "list", data := .seq vs.toArray } (.lst (ns.map V.int))) else none) (fun b => ?_) (.inl (.inr ⟨{ cls := .type "list", data := .seq vs.toArray }, if_pos rfl⟩)) (fun b u z => ?_) (fun b z => ?_) fun _ => hk
    · by_cases hb : b = a
      · exact .inr ⟨_, _, if_pos hb⟩
      · exact .inl (if_neg hb)
    · by_cases hb : b = a
      · have z' := (if_pos hb).symm.trans z
        cases z'
        subst hb
        exact ⟨ha, by rw [List.length_map]; exact hl, vs, _, rv, ha⟩
      · have z' := (if_neg hb).symm.trans z
        cases z'
    · by_cases hb : b = a
      · exact hb
      · exact absurd (if_neg hb) z
end L2

namespace L2
open PySem PySem.Spec PyProof.Rows


theorem walk_of {l : PySem.W.OpenLaw} {n k : Nat} {q : Program} {loose : List Str} {XP : (Str → Option Value) → Heap → Prop} {YP : World → Heap → Prop} {d : DefRec} {K : Params → PySem.W.Frag} {CX : World → CXT} {sp : World → Sp} {x : Str}
    (hn : l.most = some n) (hn2 : n ≤ sizeLine) (hdf : d.params.defaults = []) (hr : Room k callerA)
    (hY : ∀ (w : World) (h : Heap), YP w h → (K w.params).In h)
    (F : ∀ (w : World) (mg : Str → Option Value) (fa : Addr) (h : Heap), (K w.params).In h → h.Ns mainGlobals mg → mg d.name = some (.ref fa) →
      ∃ fd : FuncData, (∀ (s : Shared) (u : Value), BindsTo s fd ⟨[u], []⟩ [(x, u)]) ∧
        ∀ base : Heap, (K w.params).In base → base.Ns mainGlobals mg → FnOk l.prog w (K w.params) mg base (CX w) k fa fd [x] (sp w))
    (hsp : ∀ (w : World) (H : Hp) (a : Addr) (ns : List Int), ns.length ≤ n → Only H → SqL (K w.params) H a (ns.map V.int) → sp w [.ref a] H (fun v _ => v = .bl true) fun _ _ _ => False)
    (hCX : ∀ (w : World) (H : Hp) (s : Shared) (e : Value) (s' : Shared), CX w [] H s (fun _ _ _ => False) e s' → False) :
    PySem.W.WalkO q loose XP YP l.row.toRowW d [] (fun f vs => PySem.call f vs) := by
  refine Att.attach_call hn hdf fun w s₀ s₁ mg mb fa o pm cd doc a vs ns G Y ho hd hcd hmg hobj hints hlen hg => ?_
  have KX := hY w _ Y
  obtain ⟨fd, hb, hF⟩ := F w mg fa _ KX G.T.g hmg
  exact law_call KX G.T.g G.T.b G.T.builtins G.T.nolimit hg hobj hints (Nat.le_trans hlen hn2) hr hF hb (fun H hO hS => hsp w H a ns hlen hO hS) fun H e s' => hCX w H s₁ e s'
end L2

/- THE LAST THEOREM (shape; LID, My.* are yours):
   My.Adr: a structure of the addresses that your layer names (classes, functions); My.Txt K t: a structure (Prop) of the equations over K;
   My.txt_mk : {K} {implicit addresses ..} (e1 : nsIn K mainGlobals "law" = some (some (.ref f))) (e2 : K.lookup f = some ⟨oc, od, .func (fnOf "law" "law" params body scope dV kV doc pm an cdv ct), sl⟩) (e3 : codeIn K cdv "law" = true) .. : ∃ t, My.Txt K t

set_option maxRecDepth 100000 in
set_option maxHeartbeats 0 in
theorem PySem.Challenge.cw_LID_holds : PySem.Challenge.rw_LID.Holds := by
  w_on; o_law; k_head; (case hw => w_witness2)
  k_fill
  refine L2.walk_of (l := PySem.Challenge.rw_LID) (n := 63) (k := 40) (x := "script") (CX := fun w => ..) (sp := fun _ => My.sp_law) rfl (by decide) rfl ⟨rfl, by decide, by decide⟩ (fun w h Y => PySem.W.kIn_of Y) ?F ?S ?C
  case F =>
    intro w mg fa h KX G hmg
    have T : ∃ t, My.Txt (L2.KOf KX) t := by
      dsimp only [L2.KOf]                          -- K must stand as «<heap const> w.params» for k_is
      refine' My.txt_mk ?e1 ?e2 ?e3 ..
      (case e1 => PySem.W.k_is)                    -- in the order: a name -> its address -> its object -> its parts
      (case e2 => PySem.W.k_is)
      ..
    obtain ⟨t, T⟩ := T
    have e0 := hmg.symm.trans (PySem.W.mg_of KX G T.law)
    cases e0                                       -- fa is the law's own address
    exact ⟨_, fun s u => .of_eq rfl, fun base kb nb => My.law_fn T kb nb⟩     -- if «.of_eq rfl» comes too early: refine' ⟨_, ?b, fun base kb nb => My.law_fn T kb nb⟩; exact fun s u => .of_eq rfl
  case S => exact fun w H a ns hl hO hS => ..
  case C => exact ..
(the tactic k_is has no namespace: write k_is) -/

namespace L2
open PySem PySem.Spec PyProof.Rows

def defArgs (s : Stmt) : Arguments := match s with
  | .FunctionDef _ a _ _ _ _ _ _ _ _ => a
  | _ => { posonlyargs := [], args := [], vararg := none, kwonlyargs := [], kw_defaults := [], kwarg := none, defaults := [] }
def defBody (s : Stmt) : List Stmt := match s with
  | .FunctionDef _ _ b _ _ _ _ _ _ _ => b
  | _ => []
def defScope (s : Stmt) : Scope := match s with
  | .FunctionDef _ _ _ _ _ _ sc _ _ _ => sc
  | _ => { kind := .function, names := [], isGenerator := false, isCoroutine := false }

abbrev CX0 : CXT := fun _ _ _ _ _ _ => False
abbrev E0 : XK := fun _ _ _ => False
theorem pass0 {X : Cx} : Passes CX0 X E0 := fun _ _ _ _ _ _ _ h => h.elim

structure Fun (K : PySem.W.Frag) (x qual : Str) (st : Stmt) (f : Addr) (fd : FuncData) : Prop where
  ex : ∃ (oc : Value) (od : Option Addr) (kV doc pm : Value) (an : Option Addr) (cdv ct : Value) (osl : Array (Option Value)),
    fd = PySem.W.fnOf x qual (defArgs st) (defBody st) (defScope st) .none kV doc pm an cdv ct ∧ K.lookup f = some ⟨oc, od, .func fd, osl⟩ ∧ PySem.W.codeIn K cdv qual = true
  kp : PySem.W.keepIn K (.ref f) = true
section
variable {P : Program} {w : World} {K : PySem.W.Frag} {mg : Str → Option Value} {base : Heap}
theorem Fun.ok {x qual : Str} {st : Stmt} {f : Addr} {fd : FuncData} {N ps : List Str} {k : Nat} {sp : Sp} (F : Fun K x qual st f fd) (S : FnScope N ps (defScope st)) (len : ∀ vs H Q E, sp vs H Q E → vs.length = ps.length)
    (hbody : ∀ (cdv : Value) (A : Around) (outer : List Env) (s : Shared) (H : Hp) (vs : List V) (Q : VK) (E : XK), Room k (A.deeper (envOfC qual (defScope st) s.heap.objs.size f cdv)) → sp vs H Q E →
      ∃ t, PSs (cxOf CX0 P w K mg base N qual (defScope st) f cdv A outer s H E).nox (defBody st) t ∧ t { nx := fun _ H' => Q .non H', rt := Q } (start N vs) H) : FnOk P w K mg base CX0 (k + 1) f fd ps sp := by
  obtain ⟨oc, od, kV, doc, pm, an, cdv, ct, osl, rfl, lk, hcd⟩ := F.ex
  refine fn_of lk hcd S len fun A outer s H vs Q E hr hsp => ?_
  obtain ⟨t, h, q⟩ := hbody cdv A outer s H vs Q E hr hsp
  exact ⟨t, h.nox, q⟩
theorem Fun.binds {x qual : Str} {st : Stmt} {f : Addr} {fd : FuncData} {ps : List Str} (F : Fun K x qual st f fd)
    (h : ∀ (kV doc pm : Value) (an : Option Addr) (cdv ct : Value) (us : List Value), us.length = ps.length → bindArgs (PySem.W.fnOf x qual (defArgs st) (defBody st) (defScope st) .none kV doc pm an cdv ct) ⟨us, []⟩ = pure (ps.zip us)) : Binds K fd ps [] := by
  obtain ⟨oc, od, kV, doc, pm, an, cdv, ct, osl, rfl, lk, hcd⟩ := F.ex
  exact .all (h kV doc pm an cdv ct)
theorem fun_mk {x qual : Str} {st : Stmt} {f : Addr} {oc : Value} {od an : Option Addr} {osl : Array (Option Value)} {kV doc pm cdv ct : Value} (l : K.lookup f = some ⟨oc, od, .func (PySem.W.fnOf x qual (defArgs st) (defBody st) (defScope st) .none kV doc pm an cdv ct), osl⟩)
    (c : PySem.W.codeIn K cdv qual = true) (k : PySem.W.keepIn K (.ref f) = true) : Fun K x qual st f (PySem.W.fnOf x qual (defArgs st) (defBody st) (defScope st) .none kV doc pm an cdv ct) := ⟨⟨oc, od, kV, doc, pm, an, cdv, ct, osl, rfl, l, c⟩, k⟩
end

section
variable {X : Cx}
theorem pv (i : Nat) {x : Str} {pos : Pos} (hN : X.N[i]? = some x := by rfl) (hv : Vis X.env.scope x := by first | exact Or.inl rfl | exact Or.inr (Or.inl rfl) | exact Or.inr (Or.inr rfl)) (hd : (x == ("__debug__" : Str)) = false := by decide)
    (hcd : (x == ("__classdict__" : Str)) = false := by decide) : PE X (.Name x pos) (tVar i) := pe_var hN hv hd hcd
end

theorem iteF {A B : Prop} (h : B) : if false = true then A else B := by
  rw [if_neg Bool.false_ne_true]
  exact h
theorem iteT {A B : Prop} (h : A) : if true = true then A else B := by
  rw [if_pos rfl]
  exact h

def Same (H H' : Hp) : Prop := ∀ b o, H b = some o → H' b = some o
theorem Same.refl (H : Hp) : Same H H := fun _ _ h => h
theorem Same.trans {H H1 H2 : Hp} (a : Same H H1) (b : Same H1 H2) : Same H H2 := fun c o h => b c o (a c o h)
theorem Same.free {H H' : Hp} (e : Same H H') {l : Addr} (h : H' l = Option.none) : H l = Option.none := by
  cases q : H l with
  | none => rfl
  | some o =>
    rw [e l o q] at h
    cases h
theorem Same.seq {K : PySem.W.Frag} {H H' : Hp} {a : Addr} {xs : List V} (e : Same H H') (h : SqL K H a xs) : SqL K H' a xs := by
  rcases h with (h | ⟨o, h⟩) | h
  · exact .inl (.inl (e _ _ h))
  · exact .inl (.inr ⟨o, e _ _ h⟩)
  · exact .inr h

end L2

set_option Elab.async false
set_option linter.all false
namespace DL
open PySem
inductive D where
  | non | bl (b : Bool) | int (i : Int) | str (x : Str) | tup (ds : List D) | lst (ds : List D) | dic (t : Bool) (ks vs : List D)
abbrev Ev := List (Option D)
inductive Rs where
  | nx (δ : Ev) | rt (d : D) | bk (δ : Ev) | ct (δ : Ev) | ex
abbrev ME := Ev → Option D
abbrev MT := Ev → Option Bool
abbrev MA := Ev → Option (List D)
abbrev MS := Ev → Option Rs
abbrev MG := D → Ev → Option Ev
abbrev MGs := List D → Ev → Option Ev
abbrev MI := Ev → Option (List D)
abbrev MF := List D → Option D

def slot {α : Type} (δ : List (Option α)) (i : Nat) : Option α := (δ[i]?).getD none
def eVar (i : Nat) : ME := fun δ => slot δ i
def eC (d : D) : ME := fun _ => some d
def eOp (f : D → D → Option D) (a b : ME) : ME := fun δ => (a δ).bind fun x => (b δ).bind fun y => f x y
def eUn (f : D → Option D) (a : ME) : ME := fun δ => (a δ).bind f
def aNil : MA := fun _ => some []
def aCons (a : ME) (r : MA) : MA := fun δ => (a δ).bind fun x => (r δ).bind fun xs => some (x :: xs)
def eCall (f : MF) (a : MA) : ME := fun δ => (a δ).bind f
def eTup (a : MA) : ME := fun δ => (a δ).bind fun xs => some (.tup xs)
def eLst (a : MA) : ME := fun δ => (a δ).bind fun xs => some (.lst xs)
def eAnd (a b : ME) : ME := fun δ => (a δ).bind fun x => match x with | .bl true => b δ | .bl false => some (.bl false) | _ => none
def eNot (a : ME) : ME := fun δ => (a δ).bind fun x => match x with | .bl b => some (.bl (!b)) | _ => none
def truth : D → Option Bool
  | .non => some false
  | .bl b => some b
  | .int i => some (i != 0)
  | .str _ => none
  | .tup ds => some (!ds.isEmpty)
  | .lst ds => some (!ds.isEmpty)
  | .dic _ _ _ => none
def tV (a : ME) : MT := fun δ => (a δ).bind truth
def tOr (a b : MT) : MT := fun δ => (a δ).bind fun k => if k = true then some true else b δ
def tNot (a : MT) : MT := fun δ => (a δ).bind fun k => some (!k)

def oI (g : Int → Int → Option D) : D → D → Option D
  | .int i, .int j => g i j
  | _, _ => none
def small (i : Int) : Bool := decide (-(2 ^ 64) < i) && decide (i < 2 ^ 64)
def oAdd : D → D → Option D
  | .int i, .int j => some (.int (i + j))
  | .lst xs, .lst ys => if xs.length + ys.length ≤ 16777216 then some (.lst (xs ++ ys)) else none
  | .tup xs, .tup ys => if xs.length + ys.length ≤ 16777216 then some (.tup (xs ++ ys)) else none
  | .str x, .str y => if x.length + y.length ≤ 16777216 then some (.str (x ++ y)) else none
  | _, _ => none
def oSub : D → D → Option D := oI fun i j => some (.int (i - j))
def oMul : D → D → Option D
  | .int i, .int j => if (small j || small i) = true then some (.int (i * j)) else none
  | .tup xs, .int k => if (decide (0 < k) && decide (k ≤ 1000) && decide (0 < xs.length) && decide (xs.length ≤ 1000)) = true then some (.tup (List.replicate k.toNat xs).flatten) else none
  | _, _ => none
def oMod : D → D → Option D := oI fun i j => if 0 < j then some (.int (i % j)) else none
def oLt : D → D → Option D := oI fun i j => some (.bl (decide (i < j)))
def oGe : D → D → Option D := oI fun i j => some (.bl (decide (j ≤ i)))
def uNeg : D → Option D
  | .int i => some (.int (-i))
  | _ => none
mutual
def eqD : D → D → Bool
  | .non, .non => true
  | .bl a, .bl b => a == b
  | .int a, .int b => a == b
  | .bl a, .int b => (if a then 1 else 0) == b
  | .int a, .bl b => a == (if b then 1 else 0)
  | .str a, .str b => a == b
  | .tup as, .tup bs => eqDs as bs
  | .lst as, .lst bs => eqDs as bs
  | .dic t ks vs, .dic u ls ws => t == u && eqDs ks ls && eqDs vs ws
  | _, _ => false
def eqDs : List D → List D → Bool
  | [], [] => true
  | a :: as, b :: bs => eqD a b && eqDs as bs
  | _, _ => false
end
mutual
def depD : D → Nat
  | .tup ds => depDs ds + 1
  | .lst ds => depDs ds + 1
  | .dic _ _ _ => 31
  | _ => 0
def depDs : List D → Nat
  | [] => 0
  | d :: ds => max (depD d) (depDs ds)
end
def oEq (a b : D) : Option D := if depD a ≤ 30 ∧ depD b ≤ 30 then some (.bl (eqD a b)) else none
def oNe (a b : D) : Option D := if depD a ≤ 30 ∧ depD b ≤ 30 then some (.bl (!eqD a b)) else none
def oIn : D → D → Option D
  | x, .tup ys => if depDs ys ≤ 30 ∧ depD x ≤ 30 then some (.bl (ys.any fun y => eqD y x)) else none
  | x, .lst ys => if depDs ys ≤ 30 ∧ depD x ≤ 30 then some (.bl (ys.any fun y => eqD y x)) else none
  | .str x, .str y => some (.bl (!(Builtin.Str.occurrences y x 0 y.length 1).isEmpty))
  | _, _ => none
def ixD (n : Nat) (i : Int) : Option Nat := if 0 ≤ i then (if i < n then some i.toNat else none) else if -(n : Int) ≤ i then some (i + n).toNat else none
def oIx : D → D → Option D
  | .tup xs, .int i => (ixD xs.length i).bind fun j => xs[j]?
  | .lst xs, .int i => (ixD xs.length i).bind fun j => xs[j]?
  | .str x, .int i => if x.length ≤ 16777216 then (ixD x.cps.toList.length i).bind fun j => x.cps.toList[j]?.bind fun c => some (.str ⟨#[c]⟩) else none
  | _, _ => none
def uCut (k : Nat) : D → Option D
  | .tup xs => some (.tup (xs.take k))
  | .lst xs => some (.lst (xs.take k))
  | _ => none
inductive Ty where | int | bool | str | list | tuple
def isI : Ty → D → Bool
  | .int, .int _ => true
  | .int, .bl _ => true
  | .bool, .bl _ => true
  | .str, .str _ => true
  | .list, .lst _ => true
  | .tuple, .tup _ => true
  | _, _ => false
def fIs (t : Ty) : MF := fun ds => match ds with | [d] => some (.bl (isI t d)) | _ => none
def fLen : MF := fun ds => match ds with
  | [.tup xs] => some (.int xs.length)
  | [.lst xs] => some (.int xs.length)
  | [.str x] => if x.length ≤ 16777216 then some (.int x.length) else none
  | _ => none
def fList : MF := fun ds => match ds with | [.tup xs] => some (.lst xs) | [.lst xs] => some (.lst xs) | _ => none
def fTuple : MF := fun ds => match ds with | [.tup xs] => some (.tup xs) | [.lst xs] => some (.tup xs) | _ => none
def allB : List D → Option Bool
  | [] => some true
  | .bl b :: r => (allB r).bind fun k => some (b && k)
  | _ => none
def fAll : MF := fun ds => match ds with | [.lst xs] => (allB xs).bind fun k => some (.bl k) | _ => none

def gN (i : Nat) : MG := fun d δ => some (δ.set i (some d))
def gsNil : MGs := fun ds δ => match ds with | [] => some δ | _ :: _ => none
def gsCons (g : MG) (gs : MGs) : MGs := fun ds δ => match ds with | d :: r => (g d δ).bind fun δ' => gs r δ' | [] => none
def gT (gs : MGs) : MG := fun d δ => match d with | .tup ds => gs ds δ | _ => none
def iSeq (a : ME) : MI := fun δ => (a δ).bind fun d => match d with | .tup ds => some ds | .lst ds => some ds | _ => none
def rangeD (n : Nat) : List D := (List.range n).map fun (i : Nat) => D.int i
def iRange (a : ME) : MI := fun δ => (a δ).bind fun d => match d with | .int j => if -1073741824 < j ∧ j < 1073741824 then some (rangeD j.toNat) else none | _ => none
def enumD : Nat → List D → List D
  | _, [] => []
  | k, d :: r => .tup [.int k, d] :: enumD (k + 1) r
def iEnum (a : ME) : MI := fun δ => (a δ).bind fun d => match d with | .tup ds => some (enumD 0 ds) | .lst ds => some (enumD 0 ds) | _ => none

def pick {α : Type} (k : Nat) (fv : List Nat) (δ : List (Option α)) : List (Option α) := List.replicate k none ++ fv.map (slot δ)
def compM (turn : D → Option (Option D)) : List D → Option (List D)
  | [] => some []
  | x :: xs => (turn x).bind fun o => (compM turn xs).bind fun r => some (match o with | some d => d :: r | none => r)
def eCompB (B : Ev → Ev) (i : MI) (g : MG) (c : MT) (e : ME) : ME := fun δ => (i δ).bind fun xs => if xs.length ≤ 16777216 then
  (compM (fun x => (g x (B δ)).bind fun δ1 => (c δ1).bind fun b => if b = true then (e δ1).bind fun d => some (some d) else some none) xs).bind fun r => some (.lst r)
  else none
def eComp (k : Nat) (fv : List Nat) (i : MI) (g : MG) (c : MT) (e : ME) : ME := fun δ => (i δ).bind fun xs => if xs.length ≤ 16777216 then
  (compM (fun x => (g x (pick k fv δ)).bind fun δ1 => (c δ1).bind fun b => if b = true then (e δ1).bind fun d => some (some d) else some none) xs).bind fun r => some (.lst r)
  else none
def tT : MT := fun _ => some true

def sNil : MS := fun δ => some (.nx δ)
def sSeq (a b : MS) : MS := fun δ => (a δ).bind fun r => match r with | .nx δ' => b δ' | r => some r
def sIf (c : MT) (a b : MS) : MS := fun δ => (c δ).bind fun k => if k = true then a δ else b δ
def sRet (a : ME) : MS := fun δ => (a δ).bind fun d => some (.rt d)
def sAsg (a : ME) (g : MG) : MS := fun δ => (a δ).bind fun d => (g d δ).bind fun δ' => some (.nx δ')
def forM (g : MG) (body : MS) : List D → Ev → Option Rs
  | [], δ => some (.nx δ)
  | x :: xs, δ => (g x δ).bind fun δ1 => (body δ1).bind fun r => match r with
    | .nx δ2 => forM g body xs δ2
    | .ct δ2 => forM g body xs δ2
    | .bk δ2 => some (.nx δ2)
    | .rt d => some (.rt d)
    | .ex => some .ex
def sFor (i : MI) (g : MG) (body : MS) : MS := fun δ => (i δ).bind fun xs => forM g body xs δ
open Classical in
def fnM (n k : Nat) (m : MS) : MF := fun ds => if ds.length = n then (m (ds.map some ++ List.replicate (k - n) none)).bind fun r => match r with
    | .rt d => some d
    | .nx _ => some .non
    | _ => none
  else none

def ownAt (n i : Nat) (δ : Ev) : Option D := match slot δ i with
  | none => slot δ (n + i)
  | some _ => none
def setOwn (n i : Nat) (d : D) (δ : Ev) : Ev := (δ.set i none).set (n + i) (some d)
def sOwn (n i : Nat) (a : ME) : MS := fun δ => (a δ).bind fun d => some (.nx (setOwn n i d δ))
def frz (n i : Nat) (δ : Ev) : Ev := match ownAt n i δ with
  | some (.lst ds) => (δ.set i (some (.lst ds))).set (n + i) none
  | _ => δ
def sFrzD (n i : Nat) (m : MS) : MS := fun δ => match ownAt n i δ with
  | some (.dic t ks vs) => m ((δ.set i (some (.dic t ks vs))).set (n + i) none)
  | _ => none
def frzs (n : Nat) : List Nat → Ev → Ev
  | [], δ => δ
  | i :: r, δ => frzs n r (frz n i δ)
def sFrz (n : Nat) (is : List Nat) (m : MS) : MS := fun δ => m (frzs n is δ)
mutual
def flat : D → Bool
  | .tup ds => flats ds
  | .lst _ => false
  | .dic _ _ _ => false
  | _ => true
def flats : List D → Bool
  | [] => true
  | d :: ds => flat d && flats ds
end
def eBor (n : Nat) (is : List Nat) (a : ME) : ME := fun δ => (a (frzs n is δ)).bind fun d => if flat d = true then some d else none
def sApp (n i : Nat) (a : ME) : MS := fun δ => (a δ).bind fun y => match ownAt n i δ with
  | some (.lst ds) => if ds.length < 16777216 then some (.nx (δ.set (n + i) (some (.lst (ds ++ [y]))))) else none
  | _ => none
def sPutL (n i : Nat) (k a : ME) : MS := fun δ => (a δ).bind fun y => (k δ).bind fun z => match ownAt n i δ, z with
  | some (.lst ds), .int j => (ixD ds.length j).bind fun q => some (.nx (δ.set (n + i) (some (.lst (ds.set q y)))))
  | _, _ => none

theorem compM_of {turn : D → Option (Option D)} (f : D → Option D) : ∀ (xs : List D), (∀ x ∈ xs, turn x = some (f x)) → compM turn xs = some (xs.filterMap f)
  | [], _ => rfl
  | x :: xs, h => by
    rw [compM, h x List.mem_cons_self, compM_of f xs fun y hy => h y (List.mem_cons_of_mem _ hy)]
    simp only [Option.bind_some, List.filterMap_cons]
    cases f x <;> rfl

theorem slot_some {α : Type} {δ : List (Option α)} {i : Nat} {d : α} (h : slot δ i = some d) : δ[i]? = some (some d) := by
  unfold slot at h
  cases e : δ[i]? with
  | none => rw [e] at h; cases h
  | some o => rw [e] at h; exact congrArg some h
mutual
theorem eqD_refl : ∀ d : D, eqD d d = true
  | .non => rfl
  | .bl _ => by simp [eqD]
  | .int _ => by simp [eqD]
  | .str _ => by simp [eqD]
  | .tup ds => by simp only [eqD]; exact eqDs_refl ds
  | .lst ds => by simp only [eqD]; exact eqDs_refl ds
  | .dic t ks vs => by simp only [eqD, eqDs_refl ks, eqDs_refl vs, beq_self_eq_true]; rfl
theorem eqDs_refl : ∀ ds : List D, eqDs ds ds = true
  | [] => by simp [eqDs]
  | d :: ds => by simp [eqDs, eqD_refl d, eqDs_refl ds]
end
theorem eqDs_range : ∀ (ds es : List D), ((List.range (min ds.length es.length)).all (fun j => eqD (ds.getD j .non) (es.getD j .non)) && ds.length == es.length) = eqDs ds es
  | [], [] => by simp [eqDs]
  | [], _ :: _ => by simp [eqDs]
  | _ :: _, [] => by simp [eqDs]
  | d :: ds, e :: es => by
    have ih := eqDs_range ds es
    have hm : min (ds.length + 1) (es.length + 1) = min ds.length es.length + 1 := by omega
    have hb : (ds.length + 1 == es.length + 1) = (ds.length == es.length) := by simp
    simp only [List.length_cons, hm, hb, List.range_succ_eq_map, List.all_cons, List.all_map, List.getD_cons_zero, eqDs, ← ih, Bool.and_assoc]
    rfl
theorem depDs_le {n : Nat} : ∀ {ds : List D}, depDs ds ≤ n ↔ ∀ d ∈ ds, depD d ≤ n
  | [] => by simp [depDs]
  | d :: ds => by
    have := depDs_le (n := n) (ds := ds)
    simp only [depDs, List.mem_cons, forall_eq_or_imp, ← this]
    omega
theorem fn_ev {n k : Nat} {m : MS} {ds : List D} {r : D} (hl : ds.length = n) (h : m (ds.map some ++ List.replicate (k - n) none) = some (.rt r)) : fnM n k m ds = some r := by
  unfold fnM
  rw [if_pos hl, h]
  rfl
theorem seq_nx {a b : MS} {δ δ' : Ev} (h : a δ = some (.nx δ')) : sSeq a b δ = b δ' := by unfold sSeq; rw [h]; rfl
theorem seq_rt {a b : MS} {δ : Ev} {d : D} (h : a δ = some (.rt d)) : sSeq a b δ = some (.rt d) := by unfold sSeq; rw [h]; rfl
theorem if_T {c : MT} {a b : MS} {δ : Ev} (h : c δ = some true) : sIf c a b δ = a δ := by unfold sIf; rw [h]; rfl
theorem if_F {c : MT} {a b : MS} {δ : Ev} (h : c δ = some false) : sIf c a b δ = b δ := by unfold sIf; rw [h]; rfl
theorem ret_ev {a : ME} {δ : Ev} {d : D} (h : a δ = some d) : sRet a δ = some (.rt d) := by unfold sRet; rw [h]; rfl
theorem asg_ev {a : ME} {g : MG} {δ δ' : Ev} {d : D} (h : a δ = some d) (hg : g d δ = some δ') : sAsg a g δ = some (.nx δ') := by unfold sAsg; rw [h]; simp [hg]
theorem tV_ev {a : ME} {δ : Ev} {d : D} {b : Bool} (h : a δ = some d) (hb : truth d = some b) : tV a δ = some b := by unfold tV; rw [h]; exact hb
theorem tNot_ev {a : MT} {δ : Ev} {b : Bool} (h : a δ = some b) : tNot a δ = some (!b) := by unfold tNot; rw [h]; rfl
theorem tOr_ev {a c : MT} {δ : Ev} {x y : Bool} (h : a δ = some x) (hc : c δ = some y) : tOr a c δ = some (x || y) := by
  unfold tOr; rw [h]; cases x <;> simp [hc]
theorem op_ev {f : D → D → Option D} {a b : ME} {δ : Ev} {x y : D} (h : a δ = some x) (hb : b δ = some y) : eOp f a b δ = f x y := by unfold eOp; rw [h, hb]; rfl
theorem un_ev {f : D → Option D} {a : ME} {δ : Ev} {x : D} (h : a δ = some x) : eUn f a δ = f x := by unfold eUn; rw [h]; rfl
theorem call1 (f : MF) (a : ME) (δ : Ev) : eCall f (aCons a aNil) δ = (a δ).bind fun x => f [x] := by
  simp only [eCall, aCons, aNil]; cases a δ <;> rfl
theorem call2 (f : MF) (a b : ME) (δ : Ev) : eCall f (aCons a (aCons b aNil)) δ = (a δ).bind fun x => (b δ).bind fun y => f [x, y] := by
  simp only [eCall, aCons, aNil]; cases a δ <;> cases b δ <;> rfl
theorem call3 (f : MF) (a b c : ME) (δ : Ev) : eCall f (aCons a (aCons b (aCons c aNil))) δ = (a δ).bind fun x => (b δ).bind fun y => (c δ).bind fun z => f [x, y, z] := by
  simp only [eCall, aCons, aNil]; cases a δ <;> cases b δ <;> cases c δ <;> rfl
theorem call1_ev {f : MF} {a : ME} {δ : Ev} {x : D} (h : a δ = some x) : eCall f (aCons a aNil) δ = f [x] := by rw [call1, h]; rfl
theorem call2_ev {f : MF} {a b : ME} {δ : Ev} {x y : D} (h : a δ = some x) (hb : b δ = some y) : eCall f (aCons a (aCons b aNil)) δ = f [x, y] := by rw [call2, h, hb]; rfl
theorem call3_ev {f : MF} {a b c : ME} {δ : Ev} {x y z : D} (h : a δ = some x) (hb : b δ = some y) (hc : c δ = some z) : eCall f (aCons a (aCons b (aCons c aNil))) δ = f [x, y, z] := by rw [call3, h, hb, hc]; rfl
theorem comp_ev {k : Nat} {fv : List Nat} {i : MI} {g : MG} {c : MT} {e : ME} {δ : Ev} {xs : List D} (f : D → Option D) (hi : i δ = some xs) (hl : xs.length ≤ 16777216)
    (h : ∀ x ∈ xs, ∃ δ1, g x (pick k fv δ) = some δ1 ∧ ((c δ1 = some true ∧ ∃ d, e δ1 = some d ∧ f x = some d) ∨ (c δ1 = some false ∧ f x = none))) :
    eComp k fv i g c e δ = some (.lst (xs.filterMap f)) := by
  unfold eComp
  rw [hi]
  simp only [Option.bind_some]
  rw [if_pos hl, compM_of f xs fun x hx => ?_]
  · rfl
  · obtain ⟨δ1, e1, h | h⟩ := h x hx
    · obtain ⟨h1, d, h2, h3⟩ := h
      rw [e1]
      simp [h1, h2, h3]
    · obtain ⟨h1, h3⟩ := h
      rw [e1]
      simp [h1, h3]
theorem for_ev {g : MG} {body : MS} (P : Ev → Prop) : ∀ (xs : List D) (δ : Ev), P δ → (∀ x ∈ xs, ∀ δ, P δ → ∃ δ1 δ2, g x δ = some δ1 ∧ (body δ1 = some (.nx δ2) ∨ body δ1 = some (.ct δ2)) ∧ P δ2) → ∃ δ', forM g body xs δ = some (.nx δ') ∧ P δ'
  | [], δ, h0, _ => ⟨δ, rfl, h0⟩
  | x :: xs, δ, h0, h => by
    obtain ⟨δ1, δ2, e1, e2, h2⟩ := h x List.mem_cons_self δ h0
    obtain ⟨δ', e3, h3⟩ := for_ev P xs δ2 h2 fun y hy => h y (List.mem_cons_of_mem _ hy)
    refine ⟨δ', ?_, h3⟩
    rw [forM, e1]
    rcases e2 with e2 | e2 <;> simp [e2, e3]
theorem sfor_ev {i : MI} {g : MG} {body : MS} {δ : Ev} {xs : List D} (hi : i δ = some xs) : sFor i g body δ = forM g body xs δ := by unfold sFor; rw [hi]; rfl
end DL

set_option Elab.async false
set_option linter.all false
set_option maxRecDepth 100000
namespace DL
open PySem PySem.Spec PyProof.Rows L2

def kD : Key → D
  | .inl i => .int i
  | .inr x => .str x
def kT (ks : List Key) : D := .tup (ks.map kD)
def DcAt (H : Hp) (a : Addr) (t : Bool) (ks : List D) (xs : List V) : Prop :=
  (t = false ∧ ∃ kvs : List (Key × V), H a = some (.dK kvs) ∧ ks = kvs.map (fun p => kD p.1) ∧ xs = kvs.map (·.2)) ∨
  (t = true ∧ ∃ kvs : List (List Key × V), H a = some (.dT kvs) ∧ ks = kvs.map (fun p => kT p.1) ∧ xs = kvs.map (·.2))
def DcF (H : Hp) (a : Addr) (t : Bool) (ks : List D) (xs : List V) : Prop :=
  (t = false ∧ ∃ (o : Obj) (kvs : List (Key × V)), H a = some (.frz o (.dK kvs)) ∧ ks = kvs.map (fun p => kD p.1) ∧ xs = kvs.map (·.2)) ∨
  (t = true ∧ ∃ (o : Obj) (kvs : List (List Key × V)), H a = some (.frz o (.dT kvs)) ∧ ks = kvs.map (fun p => kT p.1) ∧ xs = kvs.map (·.2))
mutual
def Den (K : PySem.W.Frag) (H : Hp) : D → V → Prop
  | .non, v => v = .non
  | .bl b, v => v = .bl b
  | .int i, v => v = .int i
  | .str x, v => v = .str x
  | .tup ds, v => ∃ a xs, v = .ref a ∧ H a = some (.tup xs) ∧ Dens K H ds xs
  | .lst ds, v => ∃ a xs, v = .ref a ∧ SqL K H a xs ∧ Dens K H ds xs
  | .dic t ks vs, v => ∃ a xs, v = .ref a ∧ DcF H a t ks xs ∧ Dens K H vs xs
def Dens (K : PySem.W.Frag) (H : Hp) : List D → List V → Prop
  | [], xs => xs = []
  | d :: ds, xs => ∃ x r, xs = x :: r ∧ Den K H d x ∧ Dens K H ds r
end
section
variable {K : PySem.W.Frag} {H H' : Hp}
theorem seqT {a : Addr} {xs : List V} (e : Same H H') (h : SqT K H a xs) : SqT K H' a xs := by
  rcases h with (h | ⟨o, h⟩) | h
  · exact .inl (.inl (e _ _ h))
  · exact .inl (.inr ⟨o, e _ _ h⟩)
  · exact .inr h
theorem DcAt.mono {a : Addr} {t : Bool} {ks : List D} {xs : List V} (e : Same H H') (h : DcAt H a t ks xs) : DcAt H' a t ks xs := by
  rcases h with ⟨z, kvs, h, r⟩ | ⟨z, kvs, h, r⟩
  · exact .inl ⟨z, kvs, e _ _ h, r⟩
  · exact .inr ⟨z, kvs, e _ _ h, r⟩
theorem DcF.mono {a : Addr} {t : Bool} {ks : List D} {xs : List V} (e : Same H H') (h : DcF H a t ks xs) : DcF H' a t ks xs := by
  rcases h with ⟨z, o, kvs, h, r⟩ | ⟨z, o, kvs, h, r⟩
  · exact .inl ⟨z, o, kvs, e _ _ h, r⟩
  · exact .inr ⟨z, o, kvs, e _ _ h, r⟩
mutual
theorem Den.mono (e : Same H H') : ∀ (d : D) (v : V), Den K H d v → Den K H' d v
  | .non, _, h => by simp only [Den] at h ⊢; exact h
  | .bl _, _, h => by simp only [Den] at h ⊢; exact h
  | .int _, _, h => by simp only [Den] at h ⊢; exact h
  | .str _, _, h => by simp only [Den] at h ⊢; exact h
  | .tup ds, _, h => by
    simp only [Den] at h ⊢
    obtain ⟨a, xs, e1, h1, h2⟩ := h
    exact ⟨a, xs, e1, e _ _ h1, Dens.mono e ds xs h2⟩
  | .lst ds, _, h => by
    simp only [Den] at h ⊢
    obtain ⟨a, xs, e1, h1, h2⟩ := h
    exact ⟨a, xs, e1, e.seq h1, Dens.mono e ds xs h2⟩
  | .dic t ks ds, _, h => by
    simp only [Den] at h ⊢
    obtain ⟨a, xs, e1, h1, h2⟩ := h
    exact ⟨a, xs, e1, h1.mono e, Dens.mono e ds xs h2⟩
theorem Dens.mono (e : Same H H') : ∀ (ds : List D) (xs : List V), Dens K H ds xs → Dens K H' ds xs
  | [], _, h => by simp only [Dens] at h ⊢; exact h
  | d :: ds, _, h => by
    simp only [Dens] at h ⊢
    obtain ⟨x, r, e1, h1, h2⟩ := h
    exact ⟨x, r, e1, Den.mono e d x h1, Dens.mono e ds r h2⟩
end
theorem Dens.nil : Dens K H [] [] := by simp only [Dens]
theorem Dens.cons {d : D} {ds : List D} {x : V} {xs : List V} (h : Den K H d x) (hs : Dens K H ds xs) : Dens K H (d :: ds) (x :: xs) := by
  simp only [Dens]
  exact ⟨x, xs, rfl, h, hs⟩
theorem Dens.uncons {d : D} {ds : List D} {xs : List V} (h : Dens K H (d :: ds) xs) : ∃ x r, xs = x :: r ∧ Den K H d x ∧ Dens K H ds r := by
  simpa only [Dens] using h
theorem Dens.unnil {xs : List V} (h : Dens K H [] xs) : xs = [] := by simpa only [Dens] using h
theorem Dens.length : ∀ {ds : List D} {xs : List V}, Dens K H ds xs → ds.length = xs.length
  | [], _, h => by rw [h.unnil]; rfl
  | d :: ds, _, h => by
    obtain ⟨x, r, rfl, _, h2⟩ := h.uncons
    simp [h2.length]
theorem Dens.get : ∀ {ds : List D} {xs : List V} {i : Nat} {d : D}, Dens K H ds xs → ds[i]? = some d → ∃ x, xs[i]? = some x ∧ Den K H d x
  | [], _, _, _, _, e => by simp at e
  | d :: ds, _, i, d', h, e => by
    obtain ⟨x, r, rfl, h1, h2⟩ := h.uncons
    cases i with
    | zero => simp at e; subst e; exact ⟨x, rfl, h1⟩
    | succ i => simpa using h2.get (i := i) (d := d') (by simpa using e)
theorem Dens.append : ∀ {ds es : List D} {xs ys : List V}, Dens K H ds xs → Dens K H es ys → Dens K H (ds ++ es) (xs ++ ys)
  | [], _, _, _, h, g => by rw [h.unnil]; exact g
  | d :: ds, _, _, _, h, g => by
    obtain ⟨x, r, rfl, h1, h2⟩ := h.uncons
    exact .cons h1 (h2.append g)
theorem Dens.take : ∀ {ds : List D} {xs : List V} (n : Nat), Dens K H ds xs → Dens K H (ds.take n) (xs.take n)
  | _, _, 0, _ => by rw [List.take_zero, List.take_zero]; exact .nil
  | [], _, n + 1, h => by rw [h.unnil]; exact .nil
  | d :: ds, _, n + 1, h => by
    obtain ⟨x, r, rfl, h1, h2⟩ := h.uncons
    exact .cons h1 (h2.take n)
theorem Dens.flat : ∀ {ds : List D} {xs : List V} (k : Nat), Dens K H ds xs → Dens K H (List.replicate k ds).flatten (List.replicate k xs).flatten
  | _, _, 0, _ => .nil
  | ds, xs, k + 1, h => by
    rw [List.replicate_succ, List.replicate_succ, List.flatten_cons, List.flatten_cons]
    exact h.append (h.flat k)
theorem Den.int (i : Int) : Den K H (.int i) (.int i) := by simp only [Den]
theorem Den.bl (b : Bool) : Den K H (.bl b) (.bl b) := by simp only [Den]
theorem Den.non : Den K H .non .non := by simp only [Den]
theorem Den.str (x : Str) : Den K H (.str x) (.str x) := by simp only [Den]
theorem Den.tup {a : Addr} {ds : List D} {xs : List V} (h : H a = some (.tup xs)) (hs : Dens K H ds xs) : Den K H (.tup ds) (.ref a) := by
  simp only [Den]
  exact ⟨a, xs, rfl, h, hs⟩
theorem Den.lst {a : Addr} {ds : List D} {xs : List V} (h : SqL K H a xs) (hs : Dens K H ds xs) : Den K H (.lst ds) (.ref a) := by
  simp only [Den]
  exact ⟨a, xs, rfl, h, hs⟩
theorem Den.int_inv {i : Int} {v : V} (h : Den K H (.int i) v) : v = .int i := by simpa only [Den] using h
theorem Den.bl_inv {i : Bool} {v : V} (h : Den K H (.bl i) v) : v = .bl i := by simpa only [Den] using h
theorem Den.str_inv {i : Str} {v : V} (h : Den K H (.str i) v) : v = .str i := by simpa only [Den] using h
theorem Den.non_inv {v : V} (h : Den K H .non v) : v = .non := by simpa only [Den] using h
theorem Den.tup_inv {ds : List D} {v : V} (h : Den K H (.tup ds) v) : ∃ a xs, v = .ref a ∧ H a = some (.tup xs) ∧ Dens K H ds xs := by simpa only [Den] using h
theorem Den.tup_sq {ds : List D} {v : V} (h : Den K H (.tup ds) v) : ∃ a xs, v = .ref a ∧ SqT K H a xs ∧ Dens K H ds xs := let ⟨a, xs, e, h1, h2⟩ := h.tup_inv; ⟨a, xs, e, .of h1, h2⟩
theorem Den.lst_inv {ds : List D} {v : V} (h : Den K H (.lst ds) v) : ∃ a xs, v = .ref a ∧ SqL K H a xs ∧ Dens K H ds xs := by simpa only [Den] using h
theorem Den.dic {a : Addr} {t : Bool} {ks ds : List D} {xs : List V} (h : DcF H a t ks xs) (hs : Dens K H ds xs) : Den K H (.dic t ks ds) (.ref a) := by
  simp only [Den]
  exact ⟨a, xs, rfl, h, hs⟩
theorem Den.dic_inv {t : Bool} {ks ds : List D} {v : V} (h : Den K H (.dic t ks ds) v) : ∃ a xs, v = .ref a ∧ DcF H a t ks xs ∧ Dens K H ds xs := by simpa only [Den] using h
theorem same_new {p : Addr} (h : H p = none) (o : HO) : Same H (upd H p o) := fun b u q => by rw [upd_ne (ne_of_none q h)]; exact q
theorem Dens.ints : ∀ (ns : List Int), Dens K H (ns.map D.int) (ns.map V.int)
  | [] => .nil
  | n :: ns => .cons (.int n) (Dens.ints ns)

def hide (os : List Addr) (H : Hp) : Hp := fun b => if b ∈ os then none else H b
def NoTup : HO → Prop
  | .tup _ => False
  | _ => True
def Live (os : List Addr) (H : Hp) : Prop := ∀ a ∈ os, ∃ o, H a = some o ∧ NoTup o
section
variable {os : List Addr} {p : Addr}
theorem hide_le : Same (hide os H) H := fun b o e => by unfold hide at e; split at e; cases e; exact e
theorem hide_nil : hide [] H = H := by funext b; simp [hide]
theorem hide_off {b : Addr} (h : b ∉ os) : hide os H b = H b := by simp [hide, h]
theorem hide_on {b : Addr} (h : b ∈ os) : hide os H b = none := by simp [hide, h]
theorem _root_.L2.Same.hd (g : Same H H') : Same (hide os H) (hide os H') := fun b o e => by
  unfold hide at e ⊢
  split at e
  · cases e
  · rename_i h; rw [if_neg h]; exact g b o e
theorem Live.mono (l : Live os H) (g : Same H H') : Live os H' := fun a h => let ⟨o, e, n⟩ := l a h; ⟨o, g _ _ e, n⟩
theorem Live.ne (l : Live os H) (h : H p = none) : p ∉ os := fun z => by obtain ⟨o, e, _⟩ := l p z; rw [h] at e; cases e
theorem hide_tup (l : Live os H) {xs : List V} (h : H p = some (.tup xs)) : hide os H p = some (.tup xs) := by
  rw [hide_off fun z => ?_]
  · exact h
  · obtain ⟨o, e, n⟩ := l p z
    rw [h] at e
    cases e
    exact n
theorem hide_new (l : Live os H) (h : H p = none) (o : HO) : hide os (upd H p o) p = some o := by rw [hide_off (l.ne h), upd_same]
theorem Den.newT {ds : List D} {xs : List V} (l : Live os H) (h : H p = none) (d : Dens K (hide os H) ds xs) : Den K (hide os (upd H p (.tup xs))) (.tup ds) (.ref p) := .tup (hide_new l h _) (d.mono (same_new h _).hd _ _)
theorem Den.newL {ds : List D} {xs : List V} (l : Live os H) (h : H p = none) (d : Dens K (hide os H) ds xs) : Den K (hide os (upd H p (.lst xs))) (.lst ds) (.ref p) := .lst (.of (hide_new l h _)) (d.mono (same_new h _).hd _ _)
theorem Den.tup_up {ds : List D} {v : V} (h : Den K (hide os H) (.tup ds) v) : ∃ a xs, v = .ref a ∧ SqT K H a xs ∧ Dens K (hide os H) ds xs := let ⟨a, xs, e, h1, h2⟩ := h.tup_inv; ⟨a, xs, e, .of (hide_le _ _ h1), h2⟩
theorem Den.lst_up {ds : List D} {v : V} (h : Den K (hide os H) (.lst ds) v) : ∃ a xs, v = .ref a ∧ SqL K H a xs ∧ Dens K (hide os H) ds xs := let ⟨a, xs, e, h1, h2⟩ := h.lst_inv; ⟨a, xs, e, hide_le.seq h1, h2⟩
theorem Den.up {d : D} {v : V} (h : Den K (hide os H) d v) : Den K H d v := h.mono hide_le _ _
theorem Dens.up {ds : List D} {vs : List V} (h : Dens K (hide os H) ds vs) : Dens K H ds vs := h.mono hide_le _ _
end

def Own (K : PySem.W.Frag) (B H : Hp) (a : Addr) : D → Prop
  | .lst ds => ∃ xs, H a = some (.lst xs) ∧ Dens K B ds xs
  | .dic t ks vs => ∃ xs, DcAt H a t ks xs ∧ Dens K B vs xs
  | _ => False
theorem Own.mono {os : List Addr} {a : Addr} {d : D} (g : Same H H') (h : Own K (hide os H) H a d) : Own K (hide os H') H' a d := by
  cases d with
  | lst ds => obtain ⟨xs, h1, h2⟩ := h; exact ⟨xs, g _ _ h1, h2.mono g.hd _ _⟩
  | dic t ks vs => obtain ⟨xs, h1, h2⟩ := h; exact ⟨xs, h1.mono g, h2.mono g.hd _ _⟩
  | _ => exact h
structure Sl (X : Cx) (os : List Addr) (H : Hp) (δ : Ev) (σ : L2.St) : Prop where
  n : σ.length = X.N.length
  len : X.N.length ≤ δ.length
  pl : ∀ (i : Nat) (d : D), i < X.N.length → δ[i]? = some (some d) → ∃ v, σ[i]? = some (some v) ∧ Den X.K (hide os H) d v
  ow : ∀ (i : Nat) (d : D), i < X.N.length → δ[i]? = some none → δ[X.N.length + i]? = some (some d) → ∃ a, σ[i]? = some (some (.ref a)) ∧ a ∈ os ∧ (X.fn "" = true → X.H₀ a = none) ∧ Own X.K (hide os H) H a d
  inj : ∀ (i j : Nat) (d e : D) (a : Addr), i < X.N.length → j < X.N.length → δ[i]? = some none → δ[j]? = some none → δ[X.N.length + i]? = some (some d) → δ[X.N.length + j]? = some (some e) → σ[i]? = some (some (.ref a)) → σ[j]? = some (some (.ref a)) → i = j
  live : Live os H
  keep : Same X.H₀ H
section
variable {os : List Addr} {X : Cx}
theorem Sl.mono {δ : Ev} {σ : L2.St} (e : Same H H') (h : Sl X os H δ σ) : Sl X os H' δ σ :=
  ⟨h.n, h.len, fun i d l q => let ⟨v, a, b⟩ := h.pl i d l q; ⟨v, a, b.mono e.hd _ _⟩, fun i d l q1 q2 => let ⟨a, e1, e2, e4, e3⟩ := h.ow i d l q1 q2; ⟨a, e1, e2, e4, e3.mono e⟩, h.inj, h.live.mono e, h.keep.trans e⟩
theorem Sl.set {δ : Ev} {σ : L2.St} {d : D} {v : V} (i : Nat) (hi : i < X.N.length) (h : Sl X os H δ σ) (r : Den X.K (hide os H) d v) : Sl X os H (δ.set i (some d)) (σ.set i (some v)) := by
  have hid : i < δ.length := Nat.lt_of_lt_of_le hi h.len
  have ne : ∀ j, (δ.set i (some d))[j]? = some none → i ≠ j := fun j q z => by
    subst z
    rw [List.getElem?_set_self hid] at q
    cases q
  refine ⟨by simpa using h.n, by simpa using h.len, fun j d' l q => ?_, fun j d' l q1 q2 => ?_, fun j k d1 d2 a l1 l2 q1 q2 q3 q4 q5 q6 => ?_, h.live, h.keep⟩
  · by_cases hj : i = j
    · subst hj
      rw [List.getElem?_set_self hid] at q
      cases q
      exact ⟨v, by rw [List.getElem?_set_self (by rw [h.n]; exact hi)], r⟩
    · rw [List.getElem?_set_ne hj] at q ⊢
      exact h.pl j d' l q
  · have hj := ne j q1
    rw [List.getElem?_set_ne hj] at q1 ⊢
    rw [List.getElem?_set_ne (by omega)] at q2
    exact h.ow j d' l q1 q2
  · have hj := ne j q1
    have hk := ne k q2
    rw [List.getElem?_set_ne hj] at q1 q5
    rw [List.getElem?_set_ne hk] at q2 q6
    rw [List.getElem?_set_ne (by omega)] at q3
    rw [List.getElem?_set_ne (by omega)] at q4
    exact h.inj j k d1 d2 a l1 l2 q1 q2 q3 q4 q5 q6
end
end

def Fin (K : PySem.W.Frag) (os : List Addr) (H : Hp) (d : D) (Q : VK) : Prop := ∀ v H', Same H H' → Den K (hide os H') d v → Q v H'
theorem Fin.mono {K : PySem.W.Frag} {os : List Addr} {H H' : Hp} {d : D} {Q : VK} (e : Same H H') (h : Fin K os H d Q) : Fin K os H' d Q := fun v H2 g r => h v H2 (e.trans g) r
def DE (X : Cx) (e : Expr) (m : ME) : Prop := ∃ t : TE, PE X e t ∧ ∀ os σ H δ d Q, Sl X os H δ σ → m δ = some d → Fin X.K os H d Q → t σ H Q
def DF (X : Cx) (e : Expr) (m : ME) : Prop := ∃ t : TE, PE X e t ∧ ∀ os σ H δ d Q, Sl X os H δ σ → m δ = some d → (∀ p H', Same H H' → H p = none → Own X.K (hide (p :: os) H') H' p d → Q (.ref p) H') → t σ H Q
theorem new_own {os : List Addr} {H : Hp} {p : Addr} (h : H p = none) (o : HO) : Same (hide os H) (hide (p :: os) (upd H p o)) := fun b u e => by
  have hb : b ∉ os := fun z => by rw [hide_on z] at e; cases e
  rw [hide_off hb] at e
  have hp : b ≠ p := ne_of_none e h
  rw [hide_off (by simp [hb, hp]), upd_ne hp]
  exact e
theorem less_hid {os : List Addr} {H : Hp} {p : Addr} : Same (hide (p :: os) H) (hide os H) := fun b u e => by
  have hb : b ∉ p :: os := fun z => by rw [hide_on z] at e; cases e
  rw [hide_off hb] at e
  rw [hide_off (fun z => hb (List.mem_cons_of_mem _ z))]
  exact e
theorem Own.den {K : PySem.W.Frag} {os : List Addr} {H : Hp} {p : Addr} {ds : List D} (hp : p ∉ os) (h : Own K (hide (p :: os) H) H p (.lst ds)) : Den K (hide os H) (.lst ds) (.ref p) := by
  obtain ⟨xs, h1, h2⟩ := h
  exact .lst (.of ((hide_off hp).trans h1)) (h2.mono less_hid _ _)
def LstM (m : ME) : Prop := ∀ δ d, m δ = some d → ∃ ds, d = .lst ds
theorem DF.de {X : Cx} {e : Expr} {m : ME} (h : DF X e m) (hm : LstM m) : DE X e m := by
  obtain ⟨t, p, q⟩ := h
  refine ⟨t, p, fun os σ H δ d Q s m k => ?_⟩
  obtain ⟨ds, rfl⟩ := hm _ _ m
  exact q os σ H δ _ Q s m fun a H' g ha o => k _ H' g (o.den (s.live.ne ha))
theorem lstM_lst (m : MA) : LstM (eLst m) := fun δ d h => by
  obtain ⟨xs, _, h⟩ := Option.bind_eq_some_iff.mp h
  cases h
  exact ⟨xs, rfl⟩
theorem lstM_comp (B : Ev → Ev) (i : MI) (g : MG) (c : MT) (e : ME) : LstM (eCompB B i g c e) := fun δ d h => by
  obtain ⟨xs, _, h⟩ := Option.bind_eq_some_iff.mp h
  split at h
  · obtain ⟨ys, _, h⟩ := Option.bind_eq_some_iff.mp h
    cases h
    exact ⟨ys, rfl⟩
  · cases h
def DT (X : Cx) (e : Expr) (m : MT) : Prop := ∃ t : TT, PT X e t ∧ ∀ os σ H δ b Q, Sl X os H δ σ → m δ = some b → (∀ H', Same H H' → Q b H') → t σ H Q
def DW (X : Cx) (e : Expr) (m : MT) : Prop := ∃ t : TT, PW X e t ∧ ∀ os σ H δ b Q, Sl X os H δ σ → m δ = some b → (∀ H', Same H H' → Q b H') → t σ H Q
def DA (X : Cx) (es : List Expr) (m : MA) : Prop := (∀ δ ds, m δ = some ds → ds.length = es.length) ∧ ∃ t : TA, PA X es t ∧ ∀ os σ H δ ds Q, Sl X os H δ σ → m δ = some ds → (∀ vs H', Same H H' → Dens X.K (hide os H') ds vs → Q vs H') → t σ H Q
theorem DW.dt {X : Cx} {e : Expr} {m : MT} (h : DW X e m) : DT X e m := let ⟨t, p, q⟩ := h; ⟨t, p.pt, q⟩

section
variable {X : Cx} {a b c e : Expr} {es : List Expr} {ma mb mc me : ME} {pos p : Pos}

theorem lt_of_blt {i n : Nat} (h : Nat.blt i n = true) : i < n := Nat.le_of_ble_eq_true h
theorem de_var (i : Nat) (h : PE X e (tVar i)) (hi : Nat.blt i X.N.length = true := by rfl) : DE X e (eVar i) := by
  refine ⟨_, h, fun os σ H δ d Q s m k => ?_⟩
  obtain ⟨v, e1, r⟩ := s.pl i d (lt_of_blt hi) (slot_some m)
  exact ⟨v, e1, k v H (Same.refl _) r⟩
theorem de_c {d : D} {v : V} (h : PE X e (L2.tC v)) (r : ∀ H, Den X.K H d v) : DE X e (eC d) := by
  refine ⟨_, h, fun os σ H δ d' Q s m k => ?_⟩
  cases m
  exact k v H (Same.refl _) (r _)
theorem de_int {i : Int} {j : Nat} : DE X (.Constant (.int i) j pos) (eC (.int i)) := de_c pe_int fun _ => .int i
theorem de_bl {i : Bool} {j : Nat} : DE X (.Constant (.bool i) j pos) (eC (.bl i)) := de_c pe_bl fun _ => .bl i
theorem de_glob {x : Str} {i : Int} {t : Tok} (hg : Gl X x) (hm : X.mg x = some (.int i t)) (hd : (x == ("__debug__" : Str)) = false := by decide) : DE X (.Name x pos) (eC (.int i)) :=
  de_c (pe_glob (v := .int i) hg hm ⟨t, rfl⟩ hd) fun _ => .int i

theorem bind_inv {α β : Type} {o : Option α} {f : α → Option β} {r : β} (h : o.bind f = some r) : ∃ x, o = some x ∧ f x = some r := by
  cases o with
  | none => cases h
  | some x => exact ⟨x, rfl, h⟩

def OpD (X : Cx) (f : Value → Value → Sem Value) (g : D → D → Option D) : Prop :=
  ∃ r : R2, OpR X f r ∧ ∀ os H, Live os H → ∀ dx dy d x y Q, Den X.K (hide os H) dx x → Den X.K (hide os H) dy y → g dx dy = some d → Fin X.K os H d Q → r x y H Q
def UnD (X : Cx) (f : Value → Sem Value) (g : D → Option D) : Prop :=
  ∃ r, UnR X f r ∧ ∀ os H, Live os H → ∀ dx d x Q, Den X.K (hide os H) dx x → g dx = some d → Fin X.K os H d Q → r x H Q
def IxD (X : Cx) (g : D → D → Option D) : Prop :=
  ∃ r : R2, IxR X r ∧ ∀ os H, Live os H → ∀ dx dy d x y Q, Den X.K (hide os H) dx x → Den X.K (hide os H) dy y → g dx dy = some d → Fin X.K os H d Q → r x y H Q
def CallD (X : Cx) (f : Value) (g : MF) : Prop :=
  ∃ r, CallR X f r ∧ ∀ os H, Live os H → ∀ ds d vs Q, Dens X.K (hide os H) ds vs → g ds = some d → Fin X.K os H d Q → r vs H Q
theorem two {g : D → D → Option D} {ta tb : TE} {r : R2}
    (qa : ∀ os σ H δ d Q, Sl X os H δ σ → ma δ = some d → Fin X.K os H d Q → ta σ H Q) (qb : ∀ os σ H δ d Q, Sl X os H δ σ → mb δ = some d → Fin X.K os H d Q → tb σ H Q)
    (qr : ∀ os H, Live os H → ∀ dx dy d x y Q, Den X.K (hide os H) dx x → Den X.K (hide os H) dy y → g dx dy = some d → Fin X.K os H d Q → r x y H Q) :
    ∀ os σ H δ d Q, Sl X os H δ σ → eOp g ma mb δ = some d → Fin X.K os H d Q → tOp r ta tb σ H Q := by
  intro os σ H δ d Q s m k
  obtain ⟨dx, e1, m⟩ := bind_inv m
  obtain ⟨dy, e2, m⟩ := bind_inv m
  refine qa os σ H δ dx _ s e1 fun x H1 g1 r1 => ?_
  refine qb os σ H1 δ dy _ (s.mono g1) e2 fun y H2 g2 r2 => ?_
  exact qr os H2 (s.live.mono (g1.trans g2)) dx dy d x y Q (r1.mono (g2).hd _ _) r2 m (k.mono (g1.trans g2))
theorem de_op {op : Operator} {g : D → D → Option D} (ho : OpD X (binaryOp op) g) (ha : DE X a ma) (hb : DE X b mb) : DE X (.BinOp a op b pos) (eOp g ma mb) := by
  obtain ⟨r, hr, qr⟩ := ho
  obtain ⟨ta, pa, qa⟩ := ha
  obtain ⟨tb, pb, qb⟩ := hb
  exact ⟨_, pe_op hr pa pb, two qa qb qr⟩
theorem de_cmp {op : CmpOp} {g : D → D → Option D} (ho : OpD X (compareOp op) g) (ha : DE X a ma) (hb : DE X b mb) (hm : behindInMarks op b = false) : DE X (.Compare a [op] [b] pos) (eOp g ma mb) := by
  obtain ⟨r, hr, qr⟩ := ho
  obtain ⟨ta, pa, qa⟩ := ha
  obtain ⟨tb, pb, qb⟩ := hb
  exact ⟨_, pe_cmpR hr pa pb hm, two qa qb qr⟩
theorem de_ix {g : D → D → Option D} (ho : IxD X g) (ha : DE X a ma) (hb : DE X b mb) (hs : PlainIx b) : DE X (.Subscript a b pos) (eOp g ma mb) := by
  obtain ⟨r, hr, qr⟩ := ho
  obtain ⟨ta, pa, qa⟩ := ha
  obtain ⟨tb, pb, qb⟩ := hb
  exact ⟨_, pe_ix hr pa pb hs, two qa qb qr⟩
theorem de_un {op : UnaryOp} {g : D → Option D} (ho : UnD X (unaryOp op) g) (ha : DE X a ma) : DE X (.UnaryOp op a pos) (eUn g ma) := by
  obtain ⟨r, hr, qr⟩ := ho
  obtain ⟨ta, pa, qa⟩ := ha
  refine ⟨_, pe_un hr pa, fun os σ H δ d Q s m k => ?_⟩
  obtain ⟨dx, e1, m⟩ := bind_inv m
  exact qa os σ H δ dx _ s e1 fun x H1 g1 r1 => qr os H1 (s.live.mono g1) dx d x Q r1 m (k.mono g1)

theorem de_one {op : BoolOp} (h : DE X a ma) : DE X (.BoolOp op [a] pos) ma := let ⟨t, p, q⟩ := h; ⟨t, pe_one p, q⟩
theorem de_and {rest : List Expr} (ha : DE X a ma) (hb : DE X (.BoolOp .And (b :: rest) pos) mb) : DE X (.BoolOp .And (a :: b :: rest) pos) (eAnd ma mb) := by
  obtain ⟨ta, pa, qa⟩ := ha
  obtain ⟨tb, pb, qb⟩ := hb
  refine ⟨_, pe_and pa pb, fun os σ H δ d Q s m k => ?_⟩
  obtain ⟨dx, e1, m⟩ := bind_inv m
  refine qa os σ H δ dx _ s e1 fun x H1 g1 r1 => ?_
  cases dx with
  | bl z =>
    refine ⟨z, r1.bl_inv, ?_⟩
    cases z with
    | true => exact iteT (qb os σ H1 δ d Q (s.mono g1) m (k.mono g1))
    | false => cases m; exact iteF (k _ H1 g1 (.bl false))
  | _ => cases m
theorem de_not (ha : DE X a ma) : DE X (.UnaryOp .Not a pos) (eNot ma) := by
  obtain ⟨ta, pa, qa⟩ := ha
  refine ⟨_, pe_not pa, fun os σ H δ d Q s m k => ?_⟩
  obtain ⟨dx, e1, m⟩ := bind_inv m
  refine qa os σ H δ dx _ s e1 fun x H1 g1 r1 => ?_
  cases dx with
  | bl z =>
    cases m
    exact ⟨z, r1.bl_inv, k _ H1 g1 (.bl _)⟩
  | _ => cases m

theorem truth_ok {K : PySem.W.Frag} {os : List Addr} {H : Hp} {d : D} {x : V} {b : Bool} (r : Den K (hide os H) d x) (h : truth d = some b) : TruV K x H b := by
  cases d with
  | non => rw [r.non_inv]; cases h; exact rfl
  | bl z => rw [r.bl_inv]; cases h; exact rfl
  | int i => rw [r.int_inv]; cases h; exact rfl
  | str z => cases h
  | dic t ks vs => cases h
  | tup ds =>
    obtain ⟨a, xs, rfl, h1, h2⟩ := r.tup_up
    cases h
    refine .inr (.inl ⟨xs, h1, ?_⟩)
    have := h2.length
    cases ds <;> cases xs <;> simp_all
  | lst ds =>
    obtain ⟨a, xs, rfl, h1, h2⟩ := r.lst_up
    cases h
    refine .inl ⟨xs, h1, ?_⟩
    have := h2.length
    cases ds <;> cases xs <;> simp_all
theorem dt_val (ha : DE X a ma) (he : ∀ whole, isTrue a X.env whole = (do let v ← whole; standAt a.pos; holding [v] (truthy v)) := by intro _; rfl) : DT X a (tV ma) := by
  obtain ⟨ta, pa, qa⟩ := ha
  refine ⟨_, pt_truth pa he, fun os σ H δ b Q s m k => ?_⟩
  obtain ⟨dx, e1, m⟩ := bind_inv m
  exact qa os σ H δ dx _ s e1 fun x H1 g1 r1 => ⟨b, truth_ok r1 m, k H1 g1⟩
theorem dt_cmp {op : CmpOp} {g : D → D → Option D} (ho : OpD X (compareOp op) g) (ha : DE X a ma) (hb : DE X b mb) (hm : behindInMarks op b = false)
    (hg : ∀ x y d, g x y = some d → ∃ k, d = .bl k) : DT X (.Compare a [op] [b] pos) (tV (eOp g ma mb)) := by
  obtain ⟨r, hr, qr⟩ := ho
  obtain ⟨ta, pa, qa⟩ := ha
  obtain ⟨tb, pb, qb⟩ := hb
  refine ⟨_, pt_cmpR hr pa pb hm, fun os σ H δ z Q s m k => ?_⟩
  obtain ⟨d, m1, m2⟩ := bind_inv m
  have hb' : ∃ k, d = .bl k := by
    obtain ⟨x, _, m1⟩ := bind_inv m1
    obtain ⟨y, _, m1⟩ := bind_inv m1
    exact hg x y d m1
  obtain ⟨k', rfl⟩ := hb'
  cases m2
  exact two qa qb qr os σ H δ _ _ s m1 fun v H1 g1 r1 => ⟨z, r1.bl_inv, k H1 g1⟩
variable {na nb : MT}
theorem dw_and1 (ha : DT X a na) : DW X (.BoolOp .And [a] pos) na := let ⟨t, p, q⟩ := ha; ⟨t, pw_and1 p, q⟩
theorem dw_or1 (ha : DT X a na) : DW X (.BoolOp .Or [a] pos) na := let ⟨t, p, q⟩ := ha; ⟨t, pw_or1 p, q⟩
theorem dw_or {rest : List Expr} (ha : DT X a na) (hb : DW X (.BoolOp .Or (b :: rest) pos) nb) : DW X (.BoolOp .Or (a :: b :: rest) pos) (tOr na nb) := by
  obtain ⟨ta, pa, qa⟩ := ha
  obtain ⟨tb, pb, qb⟩ := hb
  refine ⟨_, pw_or pa pb, fun os σ H δ z Q s m k => ?_⟩
  obtain ⟨x, e1, m⟩ := bind_inv m
  refine qa os σ H δ x _ s e1 fun H1 g1 => ?_
  cases x with
  | false => exact iteF (qb os σ H1 δ z Q (s.mono g1) m fun H2 g2 => k H2 (g1.trans g2))
  | true => cases m; exact iteT (k H1 g1)
theorem dt_not (ha : DT X a na) : DT X (.UnaryOp .Not a pos) (tNot na) := by
  obtain ⟨ta, pa, qa⟩ := ha
  refine ⟨_, pt_not pa, fun os σ H δ z Q s m k => ?_⟩
  obtain ⟨x, e1, m⟩ := bind_inv m
  cases m
  exact qa os σ H δ x _ s e1 fun H1 g1 => k H1 g1

theorem da_nil : DA X [] aNil := ⟨fun δ ds h => by cases h; rfl, _, pa_nil, fun os σ H δ ds Q s m k => by cases m; exact k [] H (Same.refl _) .nil⟩
theorem da_cons {mr : MA} (ha : DE X e me) (hr : DA X es mr) (hs : starEach (e :: es) X.env = (false, eval e X.env) :: starEach es X.env := by rfl) : DA X (e :: es) (aCons me mr) := by
  obtain ⟨ta, pa, qa⟩ := ha
  obtain ⟨hl, tr, pr, qr⟩ := hr
  refine ⟨fun δ ds h => ?_, _, pa_cons pa pr hs, fun os σ H δ ds Q s m k => ?_⟩
  · obtain ⟨x, _, h⟩ := bind_inv h
    obtain ⟨xs, e2, h⟩ := bind_inv h
    cases h
    simp [hl δ xs e2]
  · obtain ⟨x, e1, m⟩ := bind_inv m
    obtain ⟨xs, e2, m⟩ := bind_inv m
    cases m
    refine qa os σ H δ x _ s e1 fun v H1 g1 r1 => ?_
    exact qr os σ H1 δ xs _ (s.mono g1) e2 fun vs H2 g2 r2 => k (v :: vs) H2 (g1.trans g2) (.cons (r1.mono (g2).hd _ _) r2)
theorem de_tup {x1 : Nat} {m : MA} (h : DA X es m) (hn : es.length ≤ sizeLine) : DE X (.Tuple es x1 pos) (eTup m) := by
  obtain ⟨hl, t, p, q⟩ := h
  refine ⟨_, pe_tup p, fun os σ H δ d Q s m k => ?_⟩
  obtain ⟨ds, e1, m⟩ := bind_inv m
  cases m
  refine q os σ H δ ds _ s e1 fun vs H1 g1 r1 => ⟨by rw [← r1.length, hl δ ds e1]; exact hn, fun a ha => ?_⟩
  exact k _ _ (g1.trans (same_new ha (.tup vs))) (.newT (s.live.mono g1) ha r1)
theorem df_lst {m : MA} (h : DA X es m) (hn : es.length ≤ sizeLine) : DF X (.List es pos) (eLst m) := by
  obtain ⟨hl, t, p, q⟩ := h
  refine ⟨_, pe_lst p, fun os σ H δ d Q s m k => ?_⟩
  obtain ⟨ds, e1, m⟩ := bind_inv m
  cases m
  refine q os σ H δ ds _ s e1 fun vs H1 g1 r1 => ⟨by rw [← r1.length, hl δ ds e1]; exact hn, fun a ha => ?_⟩
  exact k a _ (g1.trans (same_new ha (.lst vs))) (g1.free ha) ⟨vs, upd_same, r1.mono (new_own ha _) _ _⟩
theorem de_lst {m : MA} (h : DA X es m) (hn : es.length ≤ sizeLine) : DE X (.List es pos) (eLst m) := (df_lst h hn).de (lstM_lst m)
def spD (K : PySem.W.Frag) (f : MF) : Sp := fun vs H Q _ => ∃ os ds r, Live os H ∧ Dens K (hide os H) ds vs ∧ f ds = some r ∧ Fin K os H r Q
theorem de_call {f : Addr} {fd : FuncData} {ps : List Str} {k : Nat} {x : Str} {fn : MF} {m : MA} (F : FnOk X.prog X.w X.K X.mg X.base CX0 k f fd ps (spD X.K fn)) (hr : Room k X.A) (hg : Gl X x) (hm : X.mg x = some (.ref f)) (hk : PySem.W.keepIn X.K (.ref f) = true)
    (hb : Binds X.K fd ps []) (ha : DA X (e :: es) m) (hdb : (x == ("__debug__" : Str)) = false := by decide) (he : starEach (e :: es) X.env = (false, eval e X.env) :: starEach es X.env := by rfl) (hpl : (backTo pos (starEach es X.env)).any (·.1) = false := by rfl) :
    DE X (.Call (.Name x p) (e :: es) [] pos) (eCall fn m) := by
  obtain ⟨hl, t, pt, q⟩ := ha
  refine ⟨_, pe_call F hr hg hm hk hb .nil pass0 pt hdb he hpl, fun os σ H δ d Q s m k => ?_⟩
  obtain ⟨ds, e1, m⟩ := bind_inv m
  refine q os σ H δ ds _ s e1 fun vs H1 g1 r1 => ?_
  rw [List.append_nil]
  exact ⟨os, ds, d, s.live.mono g1, r1, m, k.mono g1⟩
theorem de_callB {id : String} {x : Str} {fn : MF} {m : MA} (hc : CallD X (.builtin id) fn) (hg : Gl X x) (hm : X.mg x = none) (hv : bootBuiltins x = some (.builtin id)) (ha : DA X (e :: es) m) (hn : x ≠ "__name__" := by decide) (hdb : (x == ("__debug__" : Str)) = false := by decide)
    (he : starEach (e :: es) X.env = (false, eval e X.env) :: starEach es X.env := by rfl) (hpl : (backTo pos (starEach es X.env)).any (·.1) = false := by rfl) :
    DE X (.Call (.Name x p) (e :: es) [] pos) (eCall fn m) := by
  obtain ⟨r, hr, qr⟩ := hc
  obtain ⟨hl, t, pt, q⟩ := ha
  refine ⟨_, pe_callB hr hg hm hv pt hn hdb he hpl, fun os σ H δ d Q s m k => ?_⟩
  obtain ⟨ds, e1, m⟩ := bind_inv m
  exact q os σ H δ ds _ s e1 fun vs H1 g1 r1 => qr os H1 (s.live.mono g1) ds d vs Q r1 m (k.mono g1)
theorem de_callTy {T : String} {x : Str} {fn : MF} {m : MA} (hc : CallD X (.type T) fn) (hg : Gl X x) (hm : X.mg x = none) (hv : bootBuiltins x = some (.type T)) (ha : DA X (e :: es) m) (hn : x ≠ "__name__" := by decide) (hdb : (x == ("__debug__" : Str)) = false := by decide)
    (he : starEach (e :: es) X.env = (false, eval e X.env) :: starEach es X.env := by rfl) (hpl : (backTo pos (starEach es X.env)).any (·.1) = false := by rfl) :
    DE X (.Call (.Name x p) (e :: es) [] pos) (eCall fn m) := by
  obtain ⟨r, hr, qr⟩ := hc
  obtain ⟨hl, t, pt, q⟩ := ha
  refine ⟨_, pe_callTy hr hg hm hv pt hn hdb he hpl, fun os σ H δ d Q s m k => ?_⟩
  obtain ⟨ds, e1, m⟩ := bind_inv m
  exact q os σ H δ ds _ s e1 fun vs H1 g1 r1 => qr os H1 (s.live.mono g1) ds d vs Q r1 m (k.mono g1)
end
end DL

set_option Elab.async false
set_option linter.all false
set_option maxRecDepth 100000
namespace DL
open PySem PySem.Spec PyProof.Rows L2
section
variable {X : Cx}

def rLL (K : PySem.W.Frag) : R2 := fun x y H Q => ∃ l b xs ys, x = .ref l ∧ y = .ref b ∧ SqL K H l xs ∧ SqL K H b ys ∧ xs.length + ys.length ≤ sizeLine ∧ ∀ p, H p = none → Q (.ref p) (upd H p (.lst (xs ++ ys)))
theorem op_catL : OpR X (binaryOp .Add) (rLL X.K) := by
  intro pins s σ H x y v u Q I rx ry h
  obtain ⟨l, b, xs, ys, rfl, rfl, hl, hb, hz, q⟩ := h
  cases rx
  cases ry
  obtain ⟨its, r1, ⟨⟨c1, d1, dt1, sl1⟩, n1, e1, c1', d1', t1'⟩, _⟩ := I.list hl
  obtain ⟨its2, r2, ⟨⟨c2, d2, dt2, sl2⟩, n2, e2, c2', d2', t2'⟩, _⟩ := I.list hb
  simp only at c1' d1' t1' c2' d2' t2'
  subst c1' d1' t1' c2' d2' t2'
  have l1 := r1.length
  have l2 := r2.length
  refine concat_meets ⟨_, e1, rfl⟩ ⟨_, e2, rfl⟩ noFill_list_add seq_list_add F.slot_list_add F.entry_list_add (F.args_list_add_2 _ _)
    (list_addW l b its.toArray its2.toArray n1 n2 none none sl1 sl2 (by rw [List.size_toArray, List.size_toArray]; omega)) ⟨e1, e2, ?_⟩
  have ea : its.toArray ++ its2.toArray = (its ++ its2).toArray := by simp
  rw [ea]
  exact ⟨.ref _, _, I.lnew (t' := s.toks) (r1.append r2) (by rw [List.length_append]; omega), rfl, q _ I.fresh⟩
def rTT (K : PySem.W.Frag) : R2 := fun x y H Q => ∃ a b xs ys, x = .ref a ∧ y = .ref b ∧ SqT K H a xs ∧ SqT K H b ys ∧ xs.length + ys.length ≤ sizeLine ∧
  (xs = [] → Q (.ref b) H) ∧ (xs ≠ [] → ys = [] → Q (.ref a) H) ∧ (xs ≠ [] → ys ≠ [] → ∀ p, H p = none → Q (.ref p) (upd H p (.tup (xs ++ ys))))
theorem op_catTT : OpR X (binaryOp .Add) (rTT X.K) := by
  intro pins s σ H x y v u Q I rx ry h
  obtain ⟨a, b, xs, ys, rfl, rfl, ha, hb, hz, q0, q1, q2⟩ := h
  by_cases hx : xs = []
  · cases rx
    cases ry
    subst hx
    obtain ⟨its, r1, ⟨⟨c1, d1, dt1, sl1⟩, e1, c1', n1, t1'⟩, _⟩ := I.tuple ha
    obtain ⟨its2, r2, ⟨⟨c2, d2, dt2, sl2⟩, e2, c2', n2, t2'⟩, _⟩ := I.tuple hb
    simp only at c1' t1' c2' t2'
    subst c1' t1' c2' t2'
    have hi : its = [] := r1.nil_iff.mpr rfl
    exact concat_meets ⟨_, e1, rfl⟩ ⟨_, e2, rfl⟩ noFill_tuple_add seq_tuple_add PySem.F.slot_tuple_add PySem.F.entry_tuple_add (PySem.F.args_tuple_add_2 _ _)
      (tuple_addW0 a b its.toArray its2.toArray n1 n2 d1 d2 sl1 sl2 (by simp [hi])) ⟨e1, e2, ⟨.ref b, H, I, rfl, q0 rfl⟩⟩
  · exact op_catT pins s σ H _ _ v u Q I rx ry ⟨a, b, xs, ys, rfl, rfl, ha, hb, hx, hz, q1 hx, q2 hx⟩
theorem lim_eq : sizeLine = 16777216 := sizeLine_eq
theorem od_add : OpD X (binaryOp .Add) oAdd := by
  refine ⟨_, op_add.or (op_catL.or (op_catTT.or op_add_str)), fun os H L dx dy d x y Q rx ry m k => ?_⟩
  cases dx with
  | int i =>
    cases dy with
    | int j =>
      cases m
      exact .inl ⟨i, j, rx.int_inv, ry.int_inv, k _ H (Same.refl _) (.int _)⟩
    | _ => cases m
  | lst xs =>
    cases dy with
    | lst ys =>
      have m' : (if xs.length + ys.length ≤ 16777216 then some (D.lst (xs ++ ys)) else none) = some d := m
      split at m'
      · rename_i hz
        cases m'
        obtain ⟨a, vs, rfl, h1, h2⟩ := rx.lst_up
        obtain ⟨b, ws, rfl, h3, h4⟩ := ry.lst_up
        refine .inr (.inl ⟨a, b, vs, ws, rfl, rfl, h1, h3, by rw [← h2.length, ← h4.length, lim_eq]; exact hz, fun p hp => ?_⟩)
        exact k _ _ (same_new hp (.lst (vs ++ ws))) (.newL L hp (h2.append h4))
      · cases m'
    | _ => cases m
  | tup xs =>
    cases dy with
    | tup ys =>
      have m' : (if xs.length + ys.length ≤ 16777216 then some (D.tup (xs ++ ys)) else none) = some d := m
      split at m'
      · rename_i hz
        cases m'
        obtain ⟨a, vs, rfl, h1, h2⟩ := rx.tup_up
        obtain ⟨b, ws, rfl, h3, h4⟩ := ry.tup_up
        refine .inr (.inr (.inl ⟨a, b, vs, ws, rfl, rfl, h1, h3, by rw [← h2.length, ← h4.length, lim_eq]; exact hz, fun e => ?_, fun _ e => ?_, fun _ _ p hp => ?_⟩))
        · subst e
          have : xs = [] := by have := h2.length; cases xs <;> simp_all
          subst this
          exact k _ H (Same.refl _) ry
        · subst e
          have : ys = [] := by have := h4.length; cases ys <;> simp_all
          subst this
          rw [List.append_nil] at k
          exact k _ H (Same.refl _) rx
        · exact k _ _ (same_new hp (.tup (vs ++ ws))) (.newT L hp (h2.append h4))
      · cases m'
    | _ => cases m
  | str x =>
    cases dy with
    | str y =>
      have m' : (if x.length + y.length ≤ 16777216 then some (D.str (x ++ y)) else none) = some d := m
      split at m'
      · rename_i hz
        cases m'
        exact .inr (.inr (.inr ⟨x, y, rx.str_inv, ry.str_inv, by rw [lim_eq]; exact hz, k _ H (Same.refl _) (.str _)⟩))
      · cases m'
    | _ => cases m
  | _ => cases m
theorem oi_inv {g : Int → Int → Option D} {dx dy d : D} (h : oI g dx dy = some d) : ∃ i j, dx = .int i ∧ dy = .int j ∧ g i j = some d := by
  cases dx with
  | int i =>
    cases dy with
    | int j => exact ⟨i, j, rfl, rfl, h⟩
    | _ => cases h
  | _ => cases h
theorem od_sub : OpD X (binaryOp .Sub) oSub := by
  refine ⟨_, op_sub, fun os H L dx dy d x y Q rx ry m k => ?_⟩
  obtain ⟨i, j, rfl, rfl, m⟩ := oi_inv m
  cases m
  exact ⟨i, j, rx.int_inv, ry.int_inv, k _ H (Same.refl _) (.int _)⟩
theorem od_mod : OpD X (binaryOp .Mod) oMod := by
  refine ⟨_, op_mod, fun os H L dx dy d x y Q rx ry m k => ?_⟩
  obtain ⟨i, j, rfl, rfl, m2⟩ := oi_inv m
  split at m2
  · rename_i hj
    cases m2
    exact ⟨i, j, rx.int_inv, ry.int_inv, hj, k _ H (Same.refl _) (.int _)⟩
  · cases m2
theorem noFill_tuple_mul : fillsNumberSlot (.type "tuple") "mul" = pure false :=
  PySem.fillsNumberSlot_seq (id := "tuple.__mul__") (r := some (.builtin "tuple.__rmul__")) F.slot_tuple_mul.lookup (by decide +kernel) F.slot_tuple_rmul.lookup (by decide +kernel)
theorem repeat_tuple : seqRepeat? (.type "tuple") = pure (some (.builtin "tuple.__mul__")) := by
  unfold seqRepeat?
  rw [PySem.seqSlot_of (T := "tuple") (name := "__mul__") (id := "tuple.__mul__") F.slot_tuple_mul.lookup (by decide +kernel), PySem.seqSlot_of (T := "tuple") (name := "__rmul__") (id := "tuple.__rmul__") F.slot_tuple_rmul.lookup (by decide +kernel)]
  rfl
theorem int_rmul_tuple (a : Int) (t : Tok) (l : Addr) (items : Array Value) (n : Nat) (dd : Option Addr) (sl : Array (Option Value)) :
    Meets (Builtin.«int.__rmul__» ⟨[.int a t, .ref l], []⟩) (fun _ R s => s.heap.get? l = some { cls := .type "tuple", dict := dd, data := .seq items n, slots := sl } ∧ R (.ok (.ret Value.notImplemented)) s) :=
  .of_wp fun prog w A R s h => by obtain ⟨hp, g, d, tk, os⟩ := s; obtain ⟨hl, h⟩ := h; wp_walk; exact ⟨_, rfl, h⟩
end
end DL

set_option Elab.async false
set_option linter.all false
set_option maxRecDepth 100000
namespace DL
open PySem PySem.Spec PyProof.Rows L2

def Fr (X : Cx) (os : List Addr) (H : Hp) (os' : List Addr) (H' : Hp) : Prop := Same (hide os H) (hide os' H') ∧ ∀ b ∈ os, X.H₀ b ≠ none → b ∈ os'
theorem Fr.of {X : Cx} {os : List Addr} {H H' : Hp} (g : Same H H') : Fr X os H os H' := ⟨g.hd, fun _ h _ => h⟩
theorem Fr.trans {X : Cx} {os os1 os2 : List Addr} {H H1 H2 : Hp} (a : Fr X os H os1 H1) (b : Fr X os1 H1 os2 H2) : Fr X os H os2 H2 := ⟨a.1.trans b.1, fun c h n => b.2 c (a.2 c h n) n⟩
def Ok (X : Cx) (PX : Prop) (D : Ends) (os : List Addr) (H : Hp) : Rs → Prop
  | .nx δ => ∀ σ H' os', Fr X os H os' H' → Sl X os' H' δ σ → D.nx σ H'
  | .bk δ => ∀ σ H' os', Fr X os H os' H' → Sl X os' H' δ σ → D.bk σ H'
  | .ct δ => ∀ σ H' os', Fr X os H os' H' → Sl X os' H' δ σ → D.ct σ H'
  | .rt d => ∀ v H' os', Fr X os H os' H' → Same X.H₀ H' → Den X.K (hide os' H') d v → D.rt v H'
  | .ex => PX
theorem Ok.mono {X : Cx} {PX : Prop} {D : Ends} {os os' : List Addr} {H H' : Hp} {r : Rs} (e : Fr X os H os' H') (h : Ok X PX D os H r) : Ok X PX D os' H' r := by
  cases r with
  | nx δ => exact fun σ H2 os2 g s => h σ H2 os2 (e.trans g) s
  | bk δ => exact fun σ H2 os2 g s => h σ H2 os2 (e.trans g) s
  | ct δ => exact fun σ H2 os2 g s => h σ H2 os2 (e.trans g) s
  | rt d => exact fun v H2 os2 g => h v H2 os2 (e.trans g)
  | ex => exact h
def DS (X : Cx) (PX : Prop) (st : Stmt) (m : MS) : Prop := ∃ t : TS, PS X st t ∧ ∀ os σ H δ r D, Sl X os H δ σ → m δ = some r → Ok X PX D os H r → t D σ H
def DSs (X : Cx) (PX : Prop) (st : List Stmt) (m : MS) : Prop := ∃ t : TS, PSs X st t ∧ ∀ os σ H δ r D, Sl X os H δ σ → m δ = some r → Ok X PX D os H r → t D σ H
def DG (X : Cx) (e : Expr) (g : MG) : Prop := ∃ t : TG, PG X e t ∧ ∀ os v σ H d δ δ' Q, Sl X os H δ σ → Den X.K (hide os H) d v → g d δ = some δ' → (∀ σ' H', Same H H' → Sl X os H' δ' σ' → Q σ' H') → t v σ H Q
def DGs (X : Cx) (es : List Expr) (g : MGs) : Prop := ∃ t : TGs, PGs X es t ∧ ∀ os vs σ H ds δ δ' Q, Sl X os H δ σ → Dens X.K (hide os H) ds vs → g ds δ = some δ' → (∀ σ' H', Same H H' → Sl X os H' δ' σ' → Q σ' H') → t vs σ H Q

section
variable {X : Cx} {PX : Prop} {st : Stmt} {rest sts sts' : List Stmt} {m m' : MS} {a b c e tg : Expr} {ma mb : ME} {mc : MT} {pos pos' : Pos}
theorem dss_nil : DSs X PX [] sNil := ⟨_, pss_nil, fun os σ H δ r D s m k => by cases m; exact k σ H os (.of (Same.refl _)) s⟩
theorem dss_one (h : DS X PX st m) : DSs X PX [st] m := let ⟨t, p, q⟩ := h; ⟨t, pss_one p, q⟩
theorem dss_cons (h1 : DS X PX st m) (h2 : DSs X PX rest m') : DSs X PX (st :: rest) (sSeq m m') := by
  obtain ⟨t, p, q⟩ := h1
  obtain ⟨t', p', q'⟩ := h2
  refine ⟨_, pss_cons p p', fun os σ H δ r D s m k => ?_⟩
  obtain ⟨r1, e1, m⟩ := bind_inv m
  refine q os σ H δ r1 _ s e1 ?_
  cases r1 with
  | nx δ' => exact fun σ' H' os' g s' => q' os' σ' H' δ' r D s' m (k.mono g)
  | bk δ' => cases m; exact k
  | ct δ' => cases m; exact k
  | rt d => cases m; exact k
  | ex => cases m; exact k
theorem ds_ret (h : DE X e ma) : DS X PX (.Return (some e) pos) (sRet ma) := by
  obtain ⟨t, p, q⟩ := h
  refine ⟨_, ps_ret p, fun os σ H δ r D s m k => ?_⟩
  obtain ⟨d, e1, m⟩ := bind_inv m
  cases m
  exact q os σ H δ d _ s e1 fun v H' g r => k v H' os (.of g) (s.keep.trans g) r
theorem ds_if (hc : DT X c mc) (ha : DSs X PX sts m) (hb : DSs X PX sts' m') : DS X PX (.If c sts sts' pos) (sIf mc m m') := by
  obtain ⟨tc, pc, qc⟩ := hc
  obtain ⟨ta, pa, qa⟩ := ha
  obtain ⟨tb, pb, qb⟩ := hb
  refine ⟨_, ps_if pc pa pb, fun os σ H δ r D s m k => ?_⟩
  obtain ⟨x, e1, m⟩ := bind_inv m
  refine qc os σ H δ x _ s e1 fun H1 g1 => ?_
  cases x with
  | true => exact iteT (qa os σ H1 δ r D (s.mono g1) m (k.mono (.of g1)))
  | false => exact iteF (qb os σ H1 δ r D (s.mono g1) m (k.mono (.of g1)))
theorem dg_name {i : Nat} {x : Str} (h : PG X (.Name x pos) (gName i)) (hi : Nat.blt i X.N.length = true := by rfl) : DG X (.Name x pos) (gN i) := by
  refine ⟨_, h, fun os v σ H d δ δ' Q s r m k => ?_⟩
  cases m
  exact k _ H (Same.refl _) (s.set i (lt_of_blt hi) r)
theorem dgs_nil : DGs X [] gsNil := by
  refine ⟨_, pgs_nil, fun os vs σ H ds δ δ' Q s r m k => ?_⟩
  cases ds with
  | nil => cases m; exact ⟨r.unnil, k σ H (Same.refl _) s⟩
  | cons d ds => cases m
theorem dgs_cons {es : List Expr} {g : MG} {gs : MGs} (h1 : DG X e g) (h2 : DGs X es gs)
    (hs : (assignEach (e :: es) X.env).map (·.2) = assign e X.env :: (assignEach es X.env).map (·.2) := by rfl) : DGs X (e :: es) (gsCons g gs) := by
  obtain ⟨t, p, q⟩ := h1
  obtain ⟨t', p', q'⟩ := h2
  refine ⟨_, pgs_cons p p' hs, fun os vs σ H ds δ δ' Q s r m k => ?_⟩
  cases ds with
  | nil => cases m
  | cons d ds =>
    obtain ⟨δ1, e1, m⟩ := bind_inv m
    obtain ⟨x, xs, rfl, h1, h2⟩ := r.uncons
    refine ⟨x, xs, rfl, q os x σ H d δ δ1 _ s h1 e1 fun σ1 H1 g1 s1 => ?_⟩
    exact q' os xs σ1 H1 ds δ1 δ' Q s1 (h2.mono g1.hd _ _) m fun σ2 H2 g2 s2 => k σ2 H2 (g1.trans g2) s2
theorem dg_tup {es : List Expr} {k : Nat} {gs : MGs} (hc : X.calm = true) (h : DGs X es gs) (hl : ∀ ds δ δ', gs ds δ = some δ' → ds.length = es.length)
    (hn : (assignEach es X.env).length = es.length := by rfl) (hst : (assignEach es X.env).findIdx? (·.1) = none := by rfl) : DG X (.Tuple es k pos) (gT gs) := by
  obtain ⟨t, p, q⟩ := h
  refine ⟨_, pg_tup hc p hn hst, fun os v σ H d δ δ' Q s r m kq => ?_⟩
  cases d with
  | tup ds =>
    obtain ⟨a, xs, rfl, h1, h2⟩ := r.tup_up
    exact ⟨a, xs, rfl, h1, by rw [← h2.length]; exact hl ds δ δ' m, q os xs σ H ds δ δ' Q s h2 m kq⟩
  | _ => cases m
theorem gsNil_len (ds : List D) (δ δ' : Ev) (h : gsNil ds δ = some δ') : ds.length = 0 := by
  cases ds with
  | nil => rfl
  | cons _ _ => cases h
theorem gsCons_len {g : MG} {gs : MGs} {n : Nat} (h : ∀ ds δ δ', gs ds δ = some δ' → ds.length = n) (ds : List D) (δ δ' : Ev) (e : gsCons g gs ds δ = some δ') : ds.length = n + 1 := by
  cases ds with
  | nil => cases e
  | cons d ds =>
    obtain ⟨δ1, _, e⟩ := bind_inv e
    simp [h ds δ1 δ' e]
theorem ds_asg {g : MG} (he : DE X e ma) (hg : DG X tg g) (hs : swapsWithSole [tg] e pos.line X.env = pure false := by rfl) (hw : swappedStores [tg] e X.env = pure none := by rfl)
    (h1 : (assignEach [tg] X.env).map (·.2) = [assign tg X.env] := by rfl) : DS X PX (.Assign [tg] e pos) (sAsg ma g) := by
  obtain ⟨t, p, q⟩ := he
  obtain ⟨t', p', q'⟩ := hg
  refine ⟨_, ps_asg p p' hs hw h1, fun os σ H δ r D s m k => ?_⟩
  obtain ⟨d, e1, m⟩ := bind_inv m
  obtain ⟨δ', e2, m⟩ := bind_inv m
  cases m
  refine q os σ H δ d _ s e1 fun v H1 g1 r1 => ?_
  exact q' os v σ H1 d δ δ' _ (s.mono g1) r1 e2 fun σ2 H2 g2 s2 => k σ2 H2 os (.of (g1.trans g2)) s2

def Walk (K : PySem.W.Frag) (J : It) (B : Hp) (xs : List D) : Prop := ∀ i os1 H1, Live os1 H1 → Same B (hide os1 H1) → (∀ d, xs[i]? = some d → J.go i H1 ∧ ∀ x H2, J.yld i H1 x H2 → Same H1 H2 ∧ Den K (hide os1 H2) d x) ∧ (i = xs.length → J.stop i H1)
def DI (X : Cx) (tg e : Expr) (m : MI) : Prop := ∃ wi : TI, PI X tg e wi ∧ ∀ os σ H δ xs R, Sl X os H δ σ → m δ = some xs → (∀ J H', Same H H' → Walk X.K J (hide os H') xs → R J H') → wi σ H R
theorem ds_for {iter : Expr} {body : List Stmt} {mi : MI} {g : MG} (hp : PassesOwn (model X.prog X.w) X.A X.env X.xe) (hc : X.calm = true) (hi : DI X tg iter mi) (hg : DG X tg g) (hb : DSs X PX body m)
    (hs : ∀ x, foldedSetIterable iter X.env x = pure x := by intro _; rfl) : DS X PX (.For tg iter body [] pos) (sFor mi g m) := by
  obtain ⟨wi, pi, qi⟩ := hi
  obtain ⟨t', p', q'⟩ := hg
  obtain ⟨tb, pb, qb⟩ := hb
  refine ⟨_, ps_for hp hc pi p' pb hs, fun os σ H δ r D s me k => ?_⟩
  obtain ⟨xs, e1, me⟩ := bind_inv me
  refine qi os σ H δ xs _ s e1 fun J H1 g1 wk => ?_
  refine ⟨fun i n σ2 H2 => n = xs.length - i ∧ i ≤ xs.length ∧ ∃ os2 δ2, Fr X os H1 os2 H2 ∧ Sl X os2 H2 δ2 σ2 ∧ forM g m (xs.drop i) δ2 = some r, ⟨xs.length, by simp, Nat.zero_le _, os, δ, .of (Same.refl _), s.mono g1, by simpa using me⟩, ?_⟩
  rintro i n σ2 H2 ⟨rfl, hi, os2, δ2, g2, s2, m2⟩
  obtain ⟨w1, w2⟩ := wk i os2 H2 s2.live g2.1
  by_cases hlt : i < xs.length
  · have hx : xs[i]? = some xs[i] := List.getElem?_eq_getElem hlt
    obtain ⟨go, yl⟩ := w1 _ hx
    rw [List.drop_eq_getElem_cons hlt, forM] at m2
    obtain ⟨δ3, e3, m2⟩ := bind_inv m2
    obtain ⟨r3, e4, m2⟩ := bind_inv m2
    refine .inr ⟨go, fun σ' H' => ∃ m', m' < xs.length - i ∧ (m' = xs.length - (i + 1) ∧ i + 1 ≤ xs.length ∧ ∃ os2 δ2, Fr X os H1 os2 H' ∧ Sl X os2 H' δ2 σ' ∧ forM g m (xs.drop (i + 1)) δ2 = some r), fun σ' H' h => h, fun x H3 y => ?_⟩
    obtain ⟨g3, r1⟩ := yl x H3 y
    refine q' os2 x σ2 H3 _ δ2 δ3 _ (s2.mono g3) r1 e3 fun σ4 H4 g4 s4 => ?_
    have g14 : Fr X os H1 os2 H4 := g2.trans (.of (g3.trans g4))
    have again : ∀ δ5, forM g m (xs.drop (i + 1)) δ5 = some r → ∀ σ5 H5 os5, Fr X os2 H4 os5 H5 → Sl X os5 H5 δ5 σ5 → ∃ m', m' < xs.length - i ∧ (m' = xs.length - (i + 1) ∧ i + 1 ≤ xs.length ∧ ∃ os2 δ2, Fr X os H1 os2 H5 ∧ Sl X os2 H5 δ2 σ5 ∧ forM g m (xs.drop (i + 1)) δ2 = some r) :=
      fun δ5 h5 σ5 H5 os5 g5 s5 => ⟨xs.length - (i + 1), by omega, rfl, hlt, os5, δ5, g14.trans g5, s5, h5⟩
    refine qb os2 σ4 H4 δ3 r3 _ s4 e4 ?_
    have kk : Ok X PX D os2 H4 r → Ok X PX D os2 H4 r := id
    cases r3 with
    | nx δ5 => exact fun σ5 H5 os5 g5 s5 => again δ5 m2 σ5 H5 os5 g5 s5
    | ct δ5 => exact fun σ5 H5 os5 g5 s5 => again δ5 m2 σ5 H5 os5 g5 s5
    | bk δ5 => cases m2; exact fun σ5 H5 os5 g5 s5 => k σ5 H5 os5 ((Fr.of g1).trans (g14.trans g5)) s5
    | rt d => cases m2; exact Ok.mono (r := .rt d) ((Fr.of g1).trans g14) k
    | ex => cases m2; exact k
  · have e : i = xs.length := by omega
    subst e
    rw [List.drop_length] at m2
    cases m2
    exact .inl ⟨w2 rfl, k σ2 H2 os2 ((Fr.of g1).trans g2) s2⟩

theorem walk_list {K : PySem.W.Frag} {B : Hp} {a : Addr} {ds : List D} {xs : List V} (h1 : SqL K B a xs) (h2 : Dens K B ds xs) : Walk K (Itl K a) B ds := by
  intro i os1 H1 L g
  have gu := g.trans hide_le
  refine ⟨fun d hd => ?_, fun hl => ⟨xs, gu.seq h1, by rw [← h2.length, hl]; exact Nat.le_refl _⟩⟩
  obtain ⟨x, hx, r⟩ := h2.get hd
  refine ⟨⟨xs, x, gu.seq h1, hx⟩, fun y H2 z => ?_⟩
  obtain ⟨rfl, z⟩ := z
  have := z xs (gu.seq h1)
  rw [hx] at this
  cases this
  exact ⟨Same.refl _, r.mono g _ _⟩
theorem walk_tup {K : PySem.W.Frag} {B : Hp} {a : Addr} {ds : List D} {xs : List V} (h1 : SqT K B a xs) (h2 : Dens K B ds xs) : Walk K (Itt K a) B ds := by
  intro i os1 H1 L g
  have gu := g.trans hide_le
  refine ⟨fun d hd => ?_, fun hl => ⟨xs, seqT gu h1, by rw [← h2.length, hl]; exact Nat.le_refl _⟩⟩
  obtain ⟨x, hx, r⟩ := h2.get hd
  refine ⟨⟨xs, x, seqT gu h1, hx⟩, fun y H2 z => ?_⟩
  obtain ⟨rfl, z⟩ := z
  have := z xs (seqT gu h1)
  rw [hx] at this
  cases this
  exact ⟨Same.refl _, r.mono g _ _⟩
theorem walk_range {K : PySem.W.Frag} {H : Hp} (n : Nat) : Walk K (Itr 0 n) H (rangeD n) := by
  intro i os1 H1 L g
  have hlen : (rangeD n).length = n := by simp [rangeD]
  refine ⟨fun d hd => ?_, fun hl => by rw [hlen] at hl; exact Nat.le_of_eq hl.symm⟩
  have hi : i < n := by
    have := (List.getElem?_eq_some_iff.mp hd).1
    rw [hlen] at this
    exact this
  refine ⟨hi, fun y H2 z => ?_⟩
  obtain ⟨rfl, rfl⟩ := z
  have e : d = .int (0 + (i : Int)) := by
    unfold rangeD at hd
    rw [List.getElem?_map, List.getElem?_range hi] at hd
    cases hd
    simp
  subst e
  exact ⟨Same.refl _, .int _⟩
def iEither (K : PySem.W.Frag) (tl : TE) : TI := fun σ H R => tl σ H fun x H1 => ∃ a, x = .ref a ∧ (((∃ xs, SqL K H1 a xs) ∧ R (Itl K a) H1) ∨ ((∃ xs, SqT K H1 a xs) ∧ R (Itt K a) H1))
theorem pi_either {l : Expr} {tl : TE} (hl : PE X l tl) : PI X tg l (iEither X.K tl) := by
  intro pins s σ H R I h
  refine thn (hl pins s σ H _ I h) fun v s1 ⟨x, H1, I1, r1, q1⟩ => ?_
  obtain ⟨a, e, q⟩ := q1
  subst e
  cases r1
  have fp : ∀ b ∈ [s1.heap.objs.size], FpOk X pins H1 b := fun b hb => by
    have e : b = s1.heap.objs.size := by simpa using hb
    subst e
    exact I1.fpOk (Nat.le_refl _) (I1.hok.fresh (Nat.le_refl _))
  rcases q with ⟨⟨xs, hq⟩, q⟩ | ⟨⟨xs, hq⟩, q⟩
  · obtain ⟨its, rv, p, hz⟩ := I1.list hq
    refine wpAny_pyIter_list p.isList ?_
    exact ⟨s1.heap.objs.size, [s1.heap.objs.size], _, _, H1, rfl, I1.kept (t' := s1.toks) fun b o e => Heap.get?_push_of_some _ e, turn_list a _, ⟨_, Heap.get?_push_size _ rfl, rfl, rfl⟩, fp, q⟩
  · obtain ⟨its, rv, p, hz⟩ := I1.tuple hq
    refine wpAny_pyIter_tuple (show s1.heap.IsTuple a its.toArray from p) ?_
    exact ⟨s1.heap.objs.size, [s1.heap.objs.size], _, _, H1, rfl, I1.kept (t' := s1.toks) fun b o e => Heap.get?_push_of_some _ e, turn_tuple a _, ⟨_, Heap.get?_push_size _ rfl, rfl, rfl⟩, fp, q⟩
theorem di_seq {l : Expr} (h : DE X l ma) : DI X tg l (iSeq ma) := by
  obtain ⟨t, p, q⟩ := h
  refine ⟨_, pi_either p, fun os σ H δ xs R s m k => ?_⟩
  obtain ⟨d, e1, m⟩ := bind_inv m
  refine q os σ H δ d _ s e1 fun v H1 g1 r1 => ?_
  cases d with
  | tup ds =>
    cases m
    obtain ⟨a, ys, rfl, h1, h2⟩ := r1.tup_inv
    exact ⟨a, rfl, .inr ⟨⟨ys, .of (hide_le _ _ h1)⟩, k _ H1 g1 (walk_tup (.of h1) h2)⟩⟩
  | lst ds =>
    cases m
    obtain ⟨a, ys, rfl, h1, h2⟩ := r1.lst_inv
    exact ⟨a, rfl, .inl ⟨⟨ys, hide_le.seq h1⟩, k _ H1 g1 (walk_list h1 h2)⟩⟩
  | _ => cases m
theorem di_range {p : Pos} (hg : Gl X "range") (hm : X.mg "range" = none) (h : DE X a ma) (hs : starEach [a] X.env = (false, eval a X.env) :: starEach [] X.env := by rfl) (hs' : starEach [a] X.env = [(false, eval a X.env)] := by rfl) :
    DI X tg (.Call (.Name "range" p) [a] [] pos) (iRange ma) := by
  obtain ⟨t, pt, q⟩ := h
  refine ⟨_, pi_range1 hg hm (pa_cons pt pa_nil hs) hs', fun os σ H δ xs R s m k => ?_⟩
  obtain ⟨d, e1, m⟩ := bind_inv m
  refine q os σ H δ d _ s e1 fun v H1 g1 r1 => ?_
  cases d with
  | int j =>
    have m' : (if -1073741824 < j ∧ j < 1073741824 then some (rangeD j.toNat) else none) = some xs := m
    split at m'
    · rename_i hj
      cases m'
      rw [r1.int_inv]
      exact ⟨j, rfl, by omega, by omega, k _ H1 g1 (walk_range _)⟩
    · cases m'
  | _ => cases m

theorem sl_start {X : Cx} {os : List Addr} {H : Hp} {ds : List D} {vs : List V} {np kk : Nat} (L : Live os H) (hH : X.H₀ = H) (d : Dens X.K (hide os H) ds vs) (hl : ds.length = np) (hp : np ≤ X.N.length) (hk : X.N.length ≤ kk) :
    Sl X os H (ds.map some ++ List.replicate (kk - np) none) (L2.start X.N vs) := by
  have hv := d.length
  have none_at : ∀ i z, ds.length ≤ i → (ds.map some ++ List.replicate (kk - np) none)[i]? = some (some z) → False := fun i z hi hz => by
    rw [List.getElem?_append_right (by simpa using hi), List.getElem?_replicate] at hz
    split at hz <;> cases hz
  refine ⟨by unfold L2.start; simp; omega, by simp; omega, fun i z hi hz => ?_, fun i z hi h1 h2 => (none_at _ z (by omega) h2).elim, fun i j z y a hi hj h1 h2 h3 h4 => (none_at _ z (by omega) h3).elim, L, hH ▸ Same.refl _⟩
  by_cases hi' : i < ds.length
  · unfold L2.start
    rw [List.getElem?_append_left (by simpa using hi'), List.getElem?_map] at hz
    rw [List.getElem?_append_left (by rw [List.length_map, ← hv]; exact hi'), List.getElem?_map]
    cases hq : ds[i]? with
    | none => rw [hq] at hz; cases hz
    | some y =>
      rw [hq] at hz
      cases hz
      obtain ⟨v, hv, rv⟩ := d.get hq
      exact ⟨v, by rw [hv]; rfl, rv⟩
  · exact (none_at i z (by omega) hz).elim
theorem fn_ok {P : Program} {w : World} {K : PySem.W.Frag} {mg : Str → Option Value} {base : Heap} {x qual : Str} {st : Stmt} {f : Addr} {fd : FuncData} {N ps : List Str} {k kk : Nat} (hkk : N.length ≤ kk) (F : Fun K x qual st f fd) (S : FnScope N ps (defScope st))
    (h : ∀ (cdv : Value) (A : Around) (outer : List Env) (s : Shared) (H : Hp) (E : XK), Room k (A.deeper (envOfC qual (defScope st) s.heap.objs.size f cdv)) →
      DSs (cxOf CX0 P w K mg base N qual (defScope st) f cdv A outer s H E).nox False (defBody st) m) :
    FnOk P w K mg base CX0 (k + 1) f fd ps (spD K (fnM ps.length kk m)) := by
  have hpl : ps.length ≤ N.length := by have := congrArg List.length S.pre; rw [List.length_take] at this; omega
  have inv : ∀ ds r, fnM ps.length kk m ds = some r → ds.length = ps.length ∧ ((m (ds.map some ++ List.replicate (kk - ps.length) none) = some (.rt r)) ∨ (∃ δ, m (ds.map some ++ List.replicate (kk - ps.length) none) = some (.nx δ) ∧ r = .non)) := by
    intro ds r e
    unfold fnM at e
    split at e
    · rename_i hl
      obtain ⟨q, e1, e⟩ := bind_inv e
      refine ⟨hl, ?_⟩
      cases q with
      | rt d => cases e; exact .inl e1
      | nx δ => cases e; exact .inr ⟨δ, e1, rfl⟩
      | bk δ => cases e
      | ct δ => cases e
      | ex => cases e
    · cases e
  refine F.ok S (fun vs H Q E hq => ?_) (fun cdv A outer s H vs Q E hr hq => ?_)
  · obtain ⟨os, ds, r, L, d, e, _⟩ := hq
    rw [← d.length]
    exact (inv ds r e).1
  · obtain ⟨os, ds, r, L, d, e, kq⟩ := hq
    obtain ⟨t, p, q⟩ := h cdv A outer s H E hr
    obtain ⟨hl, e2⟩ := inv ds r e
    have s0 := sl_start (X := (cxOf CX0 P w K mg base N qual (defScope st) f cdv A outer s H E).nox) (kk := kk) L rfl d hl hpl hkk
    refine ⟨t, p, ?_⟩
    rcases e2 with e2 | ⟨δ, e2, e3⟩
    · refine q os _ H _ (.rt r) _ s0 e2 fun v H' os' fr sm dn => kq v H' sm (dn.mono (fun b o z => ?_) _ _)
      have hb : b ∉ os' := fun y => by rw [hide_on y] at z; cases z
      rw [hide_off hb] at z
      have hb2 : b ∉ os := fun y => hb (fr.2 b y fun n => by
        obtain ⟨o', e', _⟩ := L b y
        have n' : H b = none := n
        rw [n'] at e'
        cases e')
      rw [hide_off hb2]
      exact z
    · subst e3
      exact q os _ H _ (.nx δ) _ s0 e2 fun σ H' os' fr sl => kq .non H' sl.keep .non
end
end DL

set_option Elab.async false
set_option linter.all false
set_option maxRecDepth 100000
namespace DL
open PySem PySem.Spec PyProof.Rows L2
section
variable {X : Cx} {os : List Addr} {H H' : Hp} {δ : Ev} {σ : L2.St}
theorem slot_none {i : Nat} (h : i < δ.length) (e : slot δ i = none) : δ[i]? = some none := by
  unfold slot at e
  rw [List.getElem?_eq_getElem h] at e ⊢
  exact congrArg some e
theorem Sl.own_at (s : Sl X os H δ σ) {n i : Nat} {d : D} (hn : X.N.length = n) (hi : i < n) (h : ownAt n i δ = some d) :
    δ[i]? = some none ∧ δ[n + i]? = some (some d) ∧ ∃ a, σ[i]? = some (some (.ref a)) ∧ a ∈ os ∧ (X.fn "" = true → X.H₀ a = none) ∧ Own X.K (hide os H) H a d := by
  subst hn
  unfold ownAt at h
  cases e : slot δ i with
  | some y => rw [e] at h; cases h
  | none =>
    rw [e] at h
    have h1 := slot_none (Nat.lt_of_lt_of_le hi s.len) e
    have h2 := slot_some h
    exact ⟨h1, h2, s.ow i d hi h1 h2⟩
theorem Sl.make (s : Sl X os H δ σ) {n i : Nat} {d : D} {p : Addr} (hn : X.N.length = n) (hi : i < n) (g : Same H H') (hp : H p = none) (o : Own X.K (hide (p :: os) H') H' p d) : Sl X (p :: os) H' (setOwn n i d δ) (σ.set i (some (.ref p))) := by
  subst hn
  have np := s.live.ne hp
  have big : Same (hide os H) (hide (p :: os) H') := fun b u e => by
    have hb : b ∉ os := fun z => by rw [hide_on z] at e; cases e
    rw [hide_off hb] at e
    have hbp : b ≠ p := ne_of_none e hp
    rw [hide_off (by simp [hb, hbp])]
    exact g _ _ e
  have lv : ∃ u, H' p = some u ∧ NoTup u := by
    cases d with
    | lst ds => obtain ⟨xs, h1, _⟩ := o; exact ⟨_, h1, True.intro⟩
    | dic t ks vs => obtain ⟨xs, h1, _⟩ := o; rcases h1 with ⟨_, _, h1, _⟩ | ⟨_, _, h1, _⟩ <;> exact ⟨_, h1, True.intro⟩
    | _ => exact o.elim
  have own_up : ∀ {a : Addr} {e : D}, Own X.K (hide os H) H a e → Own X.K (hide (p :: os) H') H' a e := fun {a e} h => by
    cases e with
    | lst ds => obtain ⟨xs, h1, h2⟩ := h; exact ⟨xs, g _ _ h1, h2.mono big _ _⟩
    | dic t ks vs => obtain ⟨xs, h1, h2⟩ := h; exact ⟨xs, h1.mono g, h2.mono big _ _⟩
    | _ => exact h
  have hid : i < δ.length := Nat.lt_of_lt_of_le hi s.len
  have at_i : ∀ {e : D}, (setOwn X.N.length i d δ)[X.N.length + i]? = some (some e) → e = d := fun {e} h => by
    unfold setOwn at h
    by_cases hl : X.N.length + i < δ.length
    · rw [List.getElem?_set_self (by simpa using hl)] at h; cases h; rfl
    · rw [List.getElem?_eq_none (by simpa using hl)] at h; cases h
  have off : ∀ {j : Nat}, j ≠ i → j ≠ X.N.length + i → (setOwn X.N.length i d δ)[j]? = δ[j]? := fun {j} h1 h2 => by
    unfold setOwn
    rw [List.getElem?_set_ne (Ne.symm h2), List.getElem?_set_ne (Ne.symm h1)]
  have self_none : (setOwn X.N.length i d δ)[i]? = some none := by
    unfold setOwn
    rw [List.getElem?_set_ne (by omega), List.getElem?_set_self hid]
  have sig : ∀ {j : Nat}, j ≠ i → (σ.set i (some (V.ref p)))[j]? = σ[j]? := fun {j} h => List.getElem?_set_ne (Ne.symm h)
  have sigi : (σ.set i (some (V.ref p)))[i]? = some (some (.ref p)) := List.getElem?_set_self (by rw [s.n]; exact hi)
  have p0 : X.H₀ p = none := s.keep.free hp
  refine ⟨by simpa using s.n, by unfold setOwn; simpa using s.len, fun j e hj h => ?_, fun j e hj h1 h2 => ?_, fun j k e f a hj hk h1 h2 h3 h4 h5 h6 => ?_, fun a ha => ?_, s.keep.trans g⟩
  · by_cases hji : j = i
    · subst hji; rw [self_none] at h; cases h
    · rw [off hji (by omega)] at h
      obtain ⟨v, e1, r⟩ := s.pl j e hj h
      exact ⟨v, (sig hji).trans e1, r.mono big _ _⟩
  · by_cases hji : j = i
    · subst hji
      have := at_i h2
      subst this
      exact ⟨p, sigi, List.mem_cons_self, fun _ => p0, o⟩
    · rw [off hji (by omega)] at h1
      rw [off (by omega) (by omega)] at h2
      obtain ⟨a, e1, e2, e3, e4⟩ := s.ow j e hj h1 h2
      exact ⟨a, (sig hji).trans e1, List.mem_cons_of_mem _ e2, e3, own_up e4⟩
  · by_cases hji : j = i
    · by_cases hki : k = i
      · rw [hji, hki]
      · exfalso
        subst hji
        rw [off hki (by omega)] at h2
        rw [off (by omega) (by omega)] at h4
        obtain ⟨a', e1, e2, _⟩ := s.ow k f hk h2 h4
        rw [sigi] at h5
        rw [sig hki, e1] at h6
        cases h5
        cases h6
        exact np e2
    · rw [off hji (by omega)] at h1
      rw [off (by omega) (by omega)] at h3
      by_cases hki : k = i
      · exfalso
        subst hki
        obtain ⟨a', e1, e2, _⟩ := s.ow j e hj h1 h3
        rw [sigi] at h6
        rw [sig hji, e1] at h5
        cases h5
        cases h6
        exact np e2
      · rw [off hki (by omega)] at h2
        rw [off (by omega) (by omega)] at h4
        exact s.inj j k e f a hj hk h1 h2 h3 h4 ((sig hji).symm.trans h5) ((sig hki).symm.trans h6)
  · rcases List.mem_cons.mp ha with rfl | ha
    · exact lv
    · exact (s.live.mono g) a ha
theorem fr_make {p : Addr} (g : Same H H') (hp : H p = none) : Fr X os H (p :: os) H' := by
  refine ⟨fun b u e => ?_, fun b h _ => List.mem_cons_of_mem _ h⟩
  have hb : b ∉ os := fun z => by rw [hide_on z] at e; cases e
  rw [hide_off hb] at e
  have hbp : b ≠ p := ne_of_none e hp
  rw [hide_off (by simp [hb, hbp])]
  exact g _ _ e
theorem Sl.chg (s : Sl X os H δ σ) {n i : Nat} {d d' : D} {a : Addr} {o : HO} (hn : X.N.length = n) (hi : i < n) (hfn : X.fn "" = true) (h : ownAt n i δ = some d) (ha : σ[i]? = some (some (.ref a))) (ho : Own X.K (hide os H) (upd H a o) a d') :
    Sl X os (upd H a o) (δ.set (n + i) (some d')) σ ∧ Fr X os H os (upd H a o) := by
  obtain ⟨h1, h2, a', e1, e2, e3, e4⟩ := s.own_at hn hi h
  subst hn
  rw [ha] at e1
  cases e1
  have hd : hide os (upd H a o) = hide os H := by
    funext b
    by_cases hb : b ∈ os
    · rw [hide_on hb, hide_on hb]
    · rw [hide_off hb, hide_off hb, upd_ne (fun z : b = a => hb (by rw [z]; exact e2))]
  have off : ∀ {j : Nat}, j ≠ X.N.length + i → (δ.set (X.N.length + i) (some d'))[j]? = δ[j]? := fun {j} h => List.getElem?_set_ne (Ne.symm h)
  have at_i : ∀ {e : D}, (δ.set (X.N.length + i) (some d'))[X.N.length + i]? = some (some e) → e = d' := fun {e} h => by
    by_cases hl : X.N.length + i < δ.length
    · rw [List.getElem?_set_self hl] at h; cases h; rfl
    · rw [List.getElem?_eq_none (by simpa using hl)] at h; cases h
  have back : ∀ {j : Nat} {e : D}, j < X.N.length → (δ.set (X.N.length + i) (some d'))[X.N.length + j]? = some (some e) → ∃ e', δ[X.N.length + j]? = some (some e') := fun {j e} hj h => by
    by_cases hji : j = i
    · subst hji; exact ⟨d, h2⟩
    · rw [off (by omega)] at h; exact ⟨e, h⟩
  refine ⟨⟨s.n, by simpa using s.len, fun j e hj h => ?_, fun j e hj q1 q2 => ?_, fun j k e f b hj hk q1 q2 q3 q4 q5 q6 => ?_, fun b hb => ?_, fun b u e => ?_⟩, ⟨by rw [hd]; exact Same.refl _, fun _ h _ => h⟩⟩
  · rw [off (by omega)] at h
    obtain ⟨v, r1, r2⟩ := s.pl j e hj h
    exact ⟨v, r1, by rw [hd]; exact r2⟩
  · rw [off (by omega)] at q1
    by_cases hji : j = i
    · subst hji
      have := at_i q2
      subst this
      exact ⟨a, ha, e2, e3, by rw [hd]; exact ho⟩
    · rw [off (by omega)] at q2
      obtain ⟨b, r1, r2, r3, r4⟩ := s.ow j e hj q1 q2
      have hba : b ≠ a := fun z => by
        subst z
        exact hji (s.inj j i e d b hj hi q1 h1 q2 h2 r1 ha)
      refine ⟨b, r1, r2, r3, ?_⟩
      rw [hd]
      cases e with
      | lst ds => obtain ⟨xs, w1, w2⟩ := r4; exact ⟨xs, (upd_ne hba).trans w1, w2⟩
      | dic t ks vs =>
        obtain ⟨xs, w1, w2⟩ := r4
        refine ⟨xs, ?_, w2⟩
        rcases w1 with ⟨z, kvs, w1, r⟩ | ⟨z, kvs, w1, r⟩
        · exact .inl ⟨z, kvs, (upd_ne hba).trans w1, r⟩
        · exact .inr ⟨z, kvs, (upd_ne hba).trans w1, r⟩
      | _ => exact r4
  · rw [off (by omega)] at q1 q2
    obtain ⟨e', w1⟩ := back hj q3
    obtain ⟨f', w2⟩ := back hk q4
    exact s.inj j k e' f' b hj hk q1 q2 w1 w2 q5 q6
  · by_cases hba : b = a
    · subst hba
      refine ⟨o, upd_same, ?_⟩
      cases d' with
      | lst ds => obtain ⟨xs, w1, _⟩ := ho; rw [upd_same] at w1; cases w1; exact True.intro
      | dic t ks vs => obtain ⟨xs, w1, _⟩ := ho; rcases w1 with ⟨_, _, w1, _⟩ | ⟨_, _, w1, _⟩ <;> (rw [upd_same] at w1; cases w1; exact True.intro)
      | _ => exact ho.elim
    · obtain ⟨u, e, n⟩ := s.live b hb; exact ⟨u, (upd_ne hba).trans e, n⟩
  · rw [upd_ne (ne_of_none e (e3 hfn))]
    exact s.keep b u e
theorem Sl.frz (s : Sl X os H δ σ) {n i : Nat} (hn : X.N.length = n) (hi : i < n) : ∃ os', Sl X os' H (frz n i δ) σ ∧ (∀ b ∈ os', b ∈ os) ∧ (∀ b ∈ os, b ∉ os' → (X.fn "" = true → X.H₀ b = none) ∧ ∃ d, Own X.K (hide os H) H b d) := by
  by_cases hl : ∃ ds, ownAt n i δ = some (.lst ds)
  · obtain ⟨ds, h⟩ := hl
    have ef : DL.frz n i δ = (δ.set i (some (.lst ds))).set (n + i) none := by unfold DL.frz; rw [h]
    rw [ef]
    obtain ⟨h1, h2, a, e1, e2, e3, e4⟩ := s.own_at hn hi h
    subst hn
    generalize hd : D.lst ds = d at *
    have hid : i < δ.length := Nat.lt_of_lt_of_le hi s.len
    have hid2 : X.N.length + i < δ.length := (List.getElem?_eq_some_iff.mp h2).1
    have mem : ∀ b, b ∈ os.filter (fun c => decide (c ≠ a)) ↔ b ∈ os ∧ b ≠ a := fun b => by simp
    have na : a ∉ os.filter (fun c => decide (c ≠ a)) := fun z => ((mem a).mp z).2 rfl
    have big : Same (hide os H) (hide (os.filter (fun c => decide (c ≠ a))) H) := fun b u e => by
      have hb : b ∉ os := fun z => by rw [hide_on z] at e; cases e
      rw [hide_off hb] at e
      rw [hide_off (fun z => hb ((mem b).mp z).1)]
      exact e
    have dn : Den X.K (hide (os.filter (fun c => decide (c ≠ a))) H) d (.ref a) := by
      subst hd
      obtain ⟨xs, w1, w2⟩ := e4
      exact .lst (.of ((hide_off na).trans w1)) (w2.mono big _ _)
    have off : ∀ {j : Nat}, j ≠ i → j ≠ X.N.length + i → ((δ.set i (some d)).set (X.N.length + i) none)[j]? = δ[j]? := fun {j} q1 q2 => by
      rw [List.getElem?_set_ne (Ne.symm q2), List.getElem?_set_ne (Ne.symm q1)]
    have at_i : ((δ.set i (some d)).set (X.N.length + i) none)[i]? = some (some d) := by
      rw [List.getElem?_set_ne (by omega), List.getElem?_set_self hid]
    have at_n : ((δ.set i (some d)).set (X.N.length + i) none)[X.N.length + i]? = some none := by
      rw [List.getElem?_set_self (by simpa using hid2)]
    refine ⟨os.filter (fun c => decide (c ≠ a)), ⟨s.n, by simpa using s.len, fun j e hj q => ?_, fun j e hj q1 q2 => ?_, fun j k e f b hj hk q1 q2 q3 q4 q5 q6 => ?_, fun b hb => s.live b ((mem b).mp hb).1, s.keep⟩, fun b hb => ((mem b).mp hb).1, fun b hb hn => ?_⟩
    · by_cases hji : j = i
      · subst hji
        rw [at_i] at q
        cases q
        exact ⟨_, e1, dn⟩
      · rw [off hji (by omega)] at q
        obtain ⟨v, r1, r2⟩ := s.pl j e hj q
        exact ⟨v, r1, r2.mono big _ _⟩
    · by_cases hji : j = i
      · subst hji; rw [at_i] at q1; cases q1
      · rw [off hji (by omega)] at q1
        rw [off (by omega) (by omega)] at q2
        obtain ⟨b, r1, r2, r3, r4⟩ := s.ow j e hj q1 q2
        have hba : b ≠ a := fun z => by
          subst z
          exact hji (s.inj j i e d b hj hi q1 h1 q2 h2 r1 e1)
        refine ⟨b, r1, (mem b).mpr ⟨r2, hba⟩, r3, ?_⟩
        cases e with
        | lst ds => obtain ⟨xs, w1, w2⟩ := r4; exact ⟨xs, w1, w2.mono big _ _⟩
        | dic t ks vs => obtain ⟨xs, w1, w2⟩ := r4; exact ⟨xs, w1, w2.mono big _ _⟩
        | _ => exact r4
    · by_cases hji : j = i
      · subst hji; rw [at_i] at q1; cases q1
      · by_cases hki : k = i
        · subst hki; rw [at_i] at q2; cases q2
        · rw [off hji (by omega)] at q1
          rw [off hki (by omega)] at q2
          rw [off (by omega) (by omega)] at q3 q4
          exact s.inj j k e f b hj hk q1 q2 q3 q4 q5 q6
    · have : b = a := Classical.byContradiction fun z => hn ((mem b).mpr ⟨hb, z⟩)
      subst this
      exact ⟨e3, d, e4⟩
  · have ef : DL.frz n i δ = δ := by
      unfold DL.frz
      split
      · rename_i ds h
        exact absurd ⟨ds, h⟩ hl
      · rfl
    rw [ef]
    exact ⟨os, s, fun _ z => z, fun b h1 h2 => absurd h1 h2⟩
theorem Sl.frzs {n : Nat} (hn : X.N.length = n) : ∀ (is : List Nat) {os : List Addr} {δ : Ev}, (∀ i ∈ is, i < n) → Sl X os H δ σ → ∃ os', Sl X os' H (frzs n is δ) σ ∧ (∀ b ∈ os', b ∈ os) ∧ (∀ b ∈ os, b ∉ os' → (X.fn "" = true → X.H₀ b = none) ∧ ∃ B d, Own X.K B H b d)
  | [], os, δ, _, s => ⟨os, s, fun _ z => z, fun b h1 h2 => absurd h1 h2⟩
  | i :: is, os, δ, hi, s => by
    obtain ⟨os1, s1, a1, b1⟩ := s.frz hn (hi i List.mem_cons_self)
    obtain ⟨os2, s2, a2, b2⟩ := Sl.frzs hn is (fun j h => hi j (List.mem_cons_of_mem _ h)) s1
    refine ⟨os2, s2, fun b h => a1 b (a2 b h), fun b h h' => ?_⟩
    by_cases h1 : b ∈ os1
    · exact b2 b h1 h'
    · obtain ⟨q1, d, q2⟩ := b1 b h h1
      exact ⟨q1, _, d, q2⟩
theorem fr_frz {os' : List Addr} (hfn : X.fn "" = true) (h1 : ∀ b ∈ os', b ∈ os) (h2 : ∀ b ∈ os, b ∉ os' → (X.fn "" = true → X.H₀ b = none) ∧ ∃ B d, Own X.K B H b d) : Fr X os H os' H := by
  refine ⟨fun b u e => ?_, fun b h n => ?_⟩
  · have hb : b ∉ os := fun z => by rw [hide_on z] at e; cases e
    rw [hide_off hb] at e
    rw [hide_off (fun z => hb (h1 b z))]
    exact e
  · exact Classical.byContradiction fun z => n ((h2 b h z).1 hfn)
mutual
theorem Den.fl {K : PySem.W.Frag} {B B' : Hp} (h : ∀ a xs, B a = some (.tup xs) → B' a = some (.tup xs)) : ∀ (d : D) (v : V), DL.flat d = true → Den K B d v → Den K B' d v
  | .non, _, _, q => by simp only [Den] at q ⊢; exact q
  | .bl _, _, _, q => by simp only [Den] at q ⊢; exact q
  | .int _, _, _, q => by simp only [Den] at q ⊢; exact q
  | .str _, _, _, q => by simp only [Den] at q ⊢; exact q
  | .tup ds, _, f, q => by
    simp only [Den] at q ⊢
    obtain ⟨a, xs, e1, h1, h2⟩ := q
    exact ⟨a, xs, e1, h a xs h1, Dens.fl h ds xs (by simpa only [DL.flat] using f) h2⟩
  | .lst ds, _, f, _ => by simp [DL.flat] at f
  | .dic t ks ds, _, f, _ => by simp [DL.flat] at f
theorem Dens.fl {K : PySem.W.Frag} {B B' : Hp} (h : ∀ a xs, B a = some (.tup xs) → B' a = some (.tup xs)) : ∀ (ds : List D) (xs : List V), DL.flats ds = true → Dens K B ds xs → Dens K B' ds xs
  | [], _, _, q => by simp only [Dens] at q ⊢; exact q
  | d :: ds, _, f, q => by
    simp only [Dens] at q ⊢
    obtain ⟨x, r, e1, h1, h2⟩ := q
    simp only [DL.flats, Bool.and_eq_true] at f
    exact ⟨x, r, e1, Den.fl h d x f.1 h1, Dens.fl h ds r f.2 h2⟩
end
theorem tup_hid {os os' : List Addr} {H' : Hp} (l : Live os H') (a : Addr) (xs : List V) (q : hide os' H' a = some (.tup xs)) : hide os H' a = some (.tup xs) := hide_tup l (hide_le _ _ q)
variable {e : Expr} {ma mb : ME} {mc : MT} {m : MS} {PX : Prop} {pos p2 p3 : Pos}
theorem de_bor {n : Nat} {is : List Nat} (hn : X.N.length = n) (his : ∀ i ∈ is, i < n) (h : DE X e ma) : DE X e (eBor n is ma) := by
  obtain ⟨t, p, q⟩ := h
  refine ⟨t, p, fun os σ H δ d Q s m k => ?_⟩
  obtain ⟨d', e1, m⟩ := bind_inv m
  split at m
  · rename_i hf
    cases m
    obtain ⟨os', s', a1, b1⟩ := Sl.frzs hn is his s
    refine q os' σ H _ d Q s' e1 fun v H' g r => k v H' g (Den.fl (tup_hid (s.live.mono g)) d v hf r)
  · cases m
theorem dss_frz {n : Nat} {is : List Nat} {sts : List Stmt} (hn : X.N.length = n) (his : ∀ i ∈ is, i < n) (hfn : X.fn "" = true) (h : DSs X PX sts m) : DSs X PX sts (sFrz n is m) := by
  obtain ⟨t, p, q⟩ := h
  refine ⟨t, p, fun os σ H δ r D s me k => ?_⟩
  obtain ⟨os', s', a1, b1⟩ := Sl.frzs hn is his s
  exact q os' σ H _ r D s' me (k.mono (fr_frz hfn a1 b1))
theorem ds_own {n i : Nat} {x : Str} (hn : X.N.length = n) (hi : i < n) (he : DF X e ma) (hg : PG X (.Name x p2) (gName i)) (hs : swapsWithSole [.Name x p2] e pos.line X.env = pure false := by rfl) (hw : swappedStores [.Name x p2] e X.env = pure none := by rfl)
    (h1 : (assignEach [.Name x p2] X.env).map (·.2) = [assign (.Name x p2) X.env] := by rfl) : DS X PX (.Assign [.Name x p2] e pos) (sOwn n i ma) := by
  obtain ⟨t, p, q⟩ := he
  refine ⟨_, ps_asg p hg hs hw h1, fun os σ H δ r D s m k => ?_⟩
  obtain ⟨d, e1, m⟩ := bind_inv m
  cases m
  exact q os σ H δ d _ s e1 fun a H' g ha o => k _ H' (a :: os) (fr_make g ha) (s.make hn hi g ha o)
theorem ds_app {n i : Nat} {xo : Expr} {p4 : Pos} (hn : X.N.length = n) (hi : i < n) (hfn : X.fn "" = true) (hv : PE X xo (tVar i)) (he : DE X e ma)
    (hbase : attributeBase xo "append" X.env (eval xo X.env) = eval xo X.env := by rfl)
    (hfew : ((backTo p3 (starEach [e] X.env)).all (fun x => !x.1) && (backToKw p3 (keywordEach [] X.env)).all (fun x => x.1.isSome)
      && decide ([e].length + ([] : List Keyword).length + (if ([] : List Keyword).isEmpty then 0 else 1) < 30)) = true := by rfl)
    (hline : (p2.endLine == p3.line) = true := by rfl) (hs : starEach [e] X.env = (false, eval e X.env) :: starEach [] X.env := by rfl) (hplain : (backTo p3 (starEach [] X.env)).any (·.1) = false := by rfl) :
    DS X PX (.Expr (.Call (.Attribute xo "append" p2) [e] [] p3) p4) (sApp n i ma) := by
  obtain ⟨t, p, q⟩ := he
  refine ⟨_, ps_expr (pe_bm PySem.F.plainAttrs_list PySem.F.slot_list_append PySem.F.type_list_append mt_append hv (pa_cons p pa_nil hs) hbase hfew hline hs hplain), fun os σ H δ r D s m k => ?_⟩
  obtain ⟨y, e1, m⟩ := bind_inv m
  split at m
  · rename_i ds ho
    split at m
    · rename_i hl
      cases m
      obtain ⟨w1, w2, a, w3, w4, w5, xs, w6, w7⟩ := s.own_at hn hi ho
      refine ⟨_, w3, .inl ⟨rfl, xs, .of w6⟩, q os σ H δ y _ s e1 fun v H' g rv => ?_⟩
      refine ⟨a, xs, v, rfl, rfl, g _ _ w6, by rw [← w7.length, sizeLine_eq]; exact hl, ?_⟩
      obtain ⟨s2, f2⟩ := (s.mono g).chg (d' := .lst (ds ++ [y])) (o := .lst (xs ++ [v])) hn hi hfn ho w3 ⟨_, upd_same, (w7.mono g.hd _ _).append (.cons rv .nil)⟩
      exact k σ _ os ((Fr.of g).trans f2) s2
    · cases m
  · cases m
end
end DL

set_option Elab.async false
set_option linter.all false
set_option maxRecDepth 100000
namespace DL
open PySem PySem.Spec PyProof.Rows L2

def clOf (cells : List (Str × Addr)) : List (Str × NameKind) → List (Str × Addr)
  | [] => []
  | (n, k) :: r => clOf cells r ++ (if k == .free then (match cells.lookup n with | some c => [(n, c)] | none => []) else [])
theorem clOf_mem {cells : List (Str × Addr)} {x : Str} {c : Addr} : ∀ {names : List (Str × NameKind)}, (x, c) ∈ clOf cells names → cells.lookup x = some c
  | [], h => by cases h
  | (n, k) :: r, h => by
    unfold clOf at h
    rcases List.mem_append.mp h with h | h
    · exact clOf_mem h
    · split at h
      · split at h
        · rename_i c' e
          have := List.mem_singleton.mp h
          cases this
          exact e
        · cases h
      · cases h
theorem clOf_has {cells : List (Str × Addr)} {x : Str} {c : Addr} (hc : cells.lookup x = some c) : ∀ {names : List (Str × NameKind)}, (x, NameKind.free) ∈ names → (x, c) ∈ clOf cells names
  | [], h => by cases h
  | (n, k) :: r, h => by
    unfold clOf
    rcases List.mem_cons.mp h with h | h
    · cases h
      refine List.mem_append_right _ ?_
      rw [if_pos (by rfl), hc]
      exact List.mem_singleton.mpr rfl
    · exact List.mem_append_left _ (clOf_has hc h)
theorem lookup_of_mem {x : Str} {c : Addr} : ∀ {l : List (Str × Addr)}, (x, c) ∈ l → ∃ c', l.lookup x = some c'
  | [], h => by cases h
  | (n, d) :: r, h => by
    rw [List.lookup_cons]
    cases hx : x == n with
    | true => exact ⟨d, rfl⟩
    | false =>
      rcases List.mem_cons.mp h with h | h
      · cases h
        rw [beq_self_eq_true] at hx
        cases hx
      · exact lookup_of_mem h
theorem closure_ok {sc : Scope} {env : Env} (h : ∀ y ∈ sc.names, y.2 = .free → ∃ c, env.cells.lookup y.1 = some c) : closureFor sc env = pure (clOf env.cells sc.names) := by
  have go : ∀ (names : List (Str × NameKind)), (∀ y ∈ names, y.2 = .free → ∃ c, env.cells.lookup y.1 = some c) → ∀ (acc : List (Str × Addr)),
      (forIn names acc fun (x : Str × NameKind) (r : List (Str × Addr)) => (if (x.2 == NameKind.free) = true then do let c ← cellOf env x.1; pure (ForInStep.yield ((x.1, c) :: r)) else pure (ForInStep.yield r) : Sem (ForInStep (List (Str × Addr))))) = pure (clOf env.cells names ++ acc) := by
    intro names
    induction names with
    | nil => intro _ acc; rfl
    | cons y r ih =>
      intro h acc
      obtain ⟨n, k⟩ := y
      rw [List.forIn_cons]
      unfold clOf
      by_cases hk : k = .free
      · subst hk
        obtain ⟨c, hc⟩ := h (n, .free) List.mem_cons_self rfl
        have e1 : cellOf env n = pure c := by unfold cellOf; rw [hc]
        simp only [beq_self_eq_true, if_true, e1, pure_bind, hc]
        rw [ih (fun y hy => h y (List.mem_cons_of_mem _ hy))]
        rw [List.append_assoc]
        rfl
      · have hk' : (k == NameKind.free) = false := by simpa using hk
        simp only [hk', Bool.false_eq_true, if_false, pure_bind, List.append_nil]
        exact ih (fun y hy => h y (List.mem_cons_of_mem _ hy)) acc
  have := go sc.names h []
  rw [List.append_nil] at this
  unfold closureFor
  first
    | (rw [show (pure (clOf env.cells sc.names) : Sem _) = (pure (clOf env.cells sc.names) >>= fun cs => pure cs) from rfl, ← this]; rfl)
    | (simp only [this, pure_bind]; done)
    | (refine Eq.trans ?_ this; simp)

abbrev cxB (X : Cx) (sc : Scope) (N : List Str) (C : Addr) (s : Shared) (H : Hp) (fp : List Addr) : Cx where
  prog := X.prog
  w := X.w
  K := X.K
  mg := X.mg
  base := X.base
  A := X.A
  N := N
  s₀ := s
  H₀ := H
  env := compEnvC sc (clOf X.env.cells sc.names) C X.env
  outer := X.stack
  stack := X.stack
  ex := fp
  fn := fun _ => false
  calm := X.calm
  pn := []
  xe := fun _ _ => False
structure CompScope (scX sc : Scope) (NX N : List Str) (k : Nat) (fv : List Nat) : Prop where
  kind : sc.kind = .function
  nocell : ∀ y ∈ sc.names, y.2 ≠ .cell
  names : ∀ y ∈ sc.names, y.2 = .local → sc.names.lookup y.1 = some .local
  freeX : ∀ y ∈ sc.names, y.2 = .free → scX.names.lookup y.1 = some .cell
  len : N.length = k + fv.length
  nd : N.Nodup
  fvs : ∀ t, t < fv.length → NX[fv.getD t 0]? = N[k + t]? ∧ (N[k + t]?.bind fun x => sc.names.lookup x) = some .free
def DIfs (Y : Cx) : List Expr → MT → Prop
  | [], m => m = tT
  | [c], m => DT Y c m
  | _, _ => False
def Below (k : Nat) (g : MG) : Prop := ∀ d δ δ', g d δ = some δ' → δ'.length = δ.length ∧ ∀ i, k ≤ i → δ'[i]? = δ[i]?
theorem below_name {k i : Nat} (h : i < k) : Below k (gN i) := by
  intro d δ δ' e
  cases e
  exact ⟨by simp, fun j hj => by rw [List.getElem?_set_ne (by omega)]⟩
def Belows (k : Nat) (g : MGs) : Prop := ∀ ds δ δ', g ds δ = some δ' → δ'.length = δ.length ∧ ∀ i, k ≤ i → δ'[i]? = δ[i]?
theorem belows_nil {k : Nat} : Belows k gsNil := by
  intro ds δ δ' e
  cases ds with
  | nil => cases e; exact ⟨rfl, fun _ _ => rfl⟩
  | cons _ _ => cases e
theorem belows_cons {k : Nat} {g : MG} {gs : MGs} (h : Below k g) (hs : Belows k gs) : Belows k (gsCons g gs) := by
  intro ds δ δ' e
  cases ds with
  | nil => cases e
  | cons d ds =>
    obtain ⟨δ1, e1, e⟩ := bind_inv e
    obtain ⟨a1, a2⟩ := h d δ δ1 e1
    obtain ⟨b1, b2⟩ := hs ds δ1 δ' e
    exact ⟨b1.trans a1, fun i hi => (b2 i hi).trans (a2 i hi)⟩
theorem below_tup {k : Nat} {gs : MGs} (h : Belows k gs) : Below k (gT gs) := by
  intro d δ δ' e
  cases d with
  | tup ds => exact h ds δ δ' e
  | _ => cases e

section
variable {X : Cx} {scX sc : Scope} {NX N : List Str} {k : Nat} {fv : List Nat}
theorem pick_length {α : Type} (k : Nat) (fv : List Nat) (δ : List (Option α)) : (pick k fv δ).length = k + fv.length := by simp [pick]
theorem pick_some {α : Type} {k : Nat} {fv : List Nat} {δ : List (Option α)} {i : Nat} {d : α} (h : (pick k fv δ)[i]? = some (some d)) : ∃ t j, i = k + t ∧ fv[t]? = some j ∧ δ[j]? = some (some d) := by
  unfold pick at h
  by_cases hi : i < k
  · rw [List.getElem?_append_left (by simpa using hi), List.getElem?_replicate] at h
    split at h <;> cases h
  · rw [List.getElem?_append_right (by simpa using hi), List.length_replicate, List.getElem?_map] at h
    cases q : fv[i - k]? with
    | none => rw [q] at h; cases h
    | some j =>
      rw [q] at h
      refine ⟨i - k, j, by omega, q, ?_⟩
      exact slot_some (Option.some.inj h)
theorem pick_at {α : Type} {k : Nat} {fv : List Nat} {δ : List (Option α)} {t j : Nat} {d : α} (h : fv[t]? = some j) (hd : δ[j]? = some (some d)) : (pick k fv δ)[k + t]? = some (some d) := by
  unfold pick
  rw [List.getElem?_append_right (by simp), List.length_replicate, List.getElem?_map, show k + t - k = t by omega, h]
  simp [slot, hd]
theorem nd_inj {α : Type} : ∀ {l : List α} {i j : Nat}, l.Nodup → (hi : i < l.length) → (hj : j < l.length) → l[i] = l[j] → i = j
  | [], _, _, _, hi, _, _ => absurd hi (by simp)
  | a :: l, 0, 0, _, _, _, _ => rfl
  | a :: l, 0, j + 1, nd, _, hj, e => by
    rw [List.nodup_cons] at nd
    exact absurd (by rw [show a = l[j]'(by simpa using hj) from by simpa using e]; exact List.getElem_mem _) nd.1
  | a :: l, i + 1, 0, nd, hi, _, e => by
    rw [List.nodup_cons] at nd
    exact absurd (by rw [show a = l[i]'(by simpa using hi) from by simpa using e.symm]; exact List.getElem_mem _) nd.1
  | a :: l, i + 1, j + 1, nd, hi, hj, e => by
    rw [List.nodup_cons] at nd
    exact congrArg (· + 1) (nd_inj (l := l) nd.2 (by simpa using hi) (by simpa using hj) (by simpa using e))
theorem fv_lt (S : CompScope scX sc NX N k fv) {t j : Nat} (h : fv[t]? = some j) : j < NX.length := by
  have ht : t < fv.length := (List.getElem?_eq_some_iff.mp h).1
  obtain ⟨q1, q2⟩ := S.fvs t ht
  have hj : fv.getD t 0 = j := by rw [List.getD_eq_getElem?_getD, h]; rfl
  rw [hj] at q1
  cases e : N[k + t]? with
  | none => rw [e] at q2; cases q2
  | some x => rw [e] at q1; exact (List.getElem?_eq_some_iff.mp q1).1
structure Blk (X : Cx) (k : Nat) (fv : List Nat) (B : Ev → Ev) : Prop where
  len : ∀ δ, k + fv.length ≤ (B δ).length
  pl : ∀ δ i d, i < k + fv.length → (B δ)[i]? = some (some d) → ∃ t j, i = k + t ∧ fv[t]? = some j ∧ δ[j]? = some (some d)
  own : ∀ δ i, i < k → (B δ)[i]? = some none
  ow : ∀ δ i d, X.N.length ≤ δ.length → i < k + fv.length → (B δ)[i]? = some none → (B δ)[k + fv.length + i]? = some (some d) → ∃ t j, i = k + t ∧ fv[t]? = some j ∧ (j < X.N.length → δ[j]? = some none) ∧ δ[X.N.length + j]? = some (some d)
theorem blk_pick : Blk X k fv (pick k fv) := by
  refine ⟨fun δ => Nat.le_of_eq (pick_length k fv δ).symm, fun δ i d _ h => pick_some h, fun δ i h => ?_, fun δ i d _ _ _ h => ?_⟩
  · unfold pick
    rw [List.getElem?_append_left (by simpa using h), List.getElem?_replicate, if_pos h]
  · rw [List.getElem?_eq_none (by rw [pick_length]; omega)] at h
    cases h
theorem blk_sl {B : Ev → Ev} (hB : Blk X k fv B) (S : CompScope scX sc NX N k fv) (hN : X.N = NX) {os : List Addr} {H : Hp} {δ : Ev} {σ : L2.St} {C : Addr} {s : Shared} {fp : List Addr} (sl : Sl X os H δ σ) : Sl (cxB X sc N C s H fp) os H (B δ) (pick k fv σ) := by
  have hl : (cxB X sc N C s H fp).N.length = k + fv.length := S.len
  refine ⟨by rw [pick_length, hl], by rw [hl]; exact hB.len δ, fun i d hi h => ?_, fun i d hi h1 h2 => ?_, fun i i' d e a hi hi' h1 h1' h2 h2' h3 h3' => ?_, sl.live, Same.refl _⟩
  · rw [hl] at hi
    obtain ⟨t, j, rfl, e1, e2⟩ := hB.pl δ i d hi h
    obtain ⟨v, e3, r⟩ := sl.pl j d (by rw [hN]; exact fv_lt S e1) e2
    exact ⟨v, pick_at e1 e3, r⟩
  · rw [hl] at hi h2
    obtain ⟨t, j, rfl, e1, e2, e3⟩ := hB.ow δ i d sl.len hi h1 h2
    have hj : j < X.N.length := by rw [hN]; exact fv_lt S e1
    obtain ⟨a, q1, q2, _, q3⟩ := sl.ow j d hj (e2 hj) e3
    exact ⟨a, pick_at e1 q1, q2, fun z => absurd (show false = true from z) Bool.false_ne_true, q3⟩
  · rw [hl] at hi hi' h2 h2'
    obtain ⟨t, j, rfl, e1, e2, e3⟩ := hB.ow δ i d sl.len hi h1 h2
    obtain ⟨t', j', rfl, e1', e2', e3'⟩ := hB.ow δ i' e sl.len hi' h1' h2'
    have hj : j < X.N.length := by rw [hN]; exact fv_lt S e1
    have hj' : j' < X.N.length := by rw [hN]; exact fv_lt S e1'
    obtain ⟨a1, q1, _⟩ := sl.ow j d hj (e2 hj) e3
    obtain ⟨a2, q1', _⟩ := sl.ow j' e hj' (e2' hj') e3'
    have p1 := pick_at (k := k) e1 q1
    have p2 := pick_at (k := k) e1' q1'
    rw [h3] at p1
    rw [h3'] at p2
    cases p1
    cases p2
    have ej := sl.inj j j' d e a hj hj' (e2 hj) (e2' hj') e3 e3' q1 q1'
    subst ej
    obtain ⟨f1, _⟩ := S.fvs t (List.getElem?_eq_some_iff.mp e1).1
    obtain ⟨f2, _⟩ := S.fvs t' (List.getElem?_eq_some_iff.mp e1').1
    have g1 : fv.getD t 0 = j := by rw [List.getD_eq_getElem?_getD, e1]; rfl
    have g2 : fv.getD t' 0 = j := by rw [List.getD_eq_getElem?_getD, e1']; rfl
    rw [g1] at f1
    rw [g2] at f2
    have nd := S.nd
    have l1 : k + t < N.length := by rw [S.len]; omega
    have l2 : k + t' < N.length := by rw [S.len]; omega
    rw [f1, List.getElem?_eq_getElem l1, List.getElem?_eq_getElem l2] at f2
    exact nd_inj nd l1 l2 (Option.some.inj f2)
theorem Sl.back {B : Ev → Ev} {Y : Cx} (hB : Blk X k fv B) (hY : Y.N.length = k + fv.length) {os : List Addr} {H : Hp} {δ δ1 : Ev} {σ : L2.St} (s : Sl Y os H δ1 σ) (hx : X.N.length ≤ δ.length) (hl : δ1.length = (B δ).length) (hb : ∀ i, k ≤ i → δ1[i]? = (B δ)[i]?) : Sl Y os H (B δ) σ := by
  have go : ∀ i d, i < Y.N.length → (B δ)[i]? = some none → (B δ)[Y.N.length + i]? = some (some d) → δ1[i]? = some none ∧ δ1[Y.N.length + i]? = some (some d) := fun i d hi h1 h2 => by
    rw [hY] at hi
    obtain ⟨t, j, rfl, _⟩ := hB.ow δ i d hx hi h1 (by rw [← hY]; exact h2)
    exact ⟨(hb _ (Nat.le_add_right _ _)).trans h1, (hb _ (by rw [hY]; omega)).trans h2⟩
  refine ⟨s.n, by rw [hY]; exact hB.len δ, fun i d hi h => ?_, fun i d hi h1 h2 => ?_, fun i j d e a hi hj h1 h2 h3 h4 h5 h6 => ?_, s.live, s.keep⟩
  · obtain ⟨t, j, rfl, _, _⟩ := hB.pl δ i d (by rw [← hY]; exact hi) h
    exact s.pl _ d hi ((hb _ (Nat.le_add_right _ _)).trans h)
  · obtain ⟨q1, q2⟩ := go i d hi h1 h2
    exact s.ow i d hi q1 q2
  · obtain ⟨q1, q2⟩ := go i d hi h1 h3
    obtain ⟨q3, q4⟩ := go j e hj h2 h4
    exact s.inj i j d e a hi hj q1 q3 q2 q4 h5 h6

theorem relabel_kind {env : Env} : ∀ {names : List (Str × NameKind)} {x : Str}, (∀ y ∈ names, y.2 ≠ .cell) →
    ((names.map fun (n, k) => if (k == NameKind.free && env.scope.kind == .function && env.kindOf n == some .cell) then (n, NameKind.cell) else (n, k)).lookup x = some .cell ∨
     (names.map fun (n, k) => if (k == NameKind.free && env.scope.kind == .function && env.kindOf n == some .cell) then (n, NameKind.cell) else (n, k)).lookup x = some .free) → names.lookup x = some .free
  | [], _, _, h => by rcases h with h | h <;> cases h
  | (n, k) :: r, x, hc, h => by
    have ih := @relabel_kind env r x fun y hy => hc y (List.mem_cons_of_mem _ hy)
    rw [List.map_cons] at h
    have e1 : ∀ q : Str × NameKind, q = (if (k == NameKind.free && env.scope.kind == .function && env.kindOf n == some .cell) then (n, NameKind.cell) else (n, k)) → q.1 = n := fun q hq => by rw [hq]; split <;> rfl
    rw [List.lookup_cons]
    have hk := hc (n, k) List.mem_cons_self
    cases hx : x == n with
    | true =>
      by_cases hf : k = .free
      · subst hf; rfl
      · have hf' : (k == NameKind.free) = false := by simpa using hf
        simp only [hf', Bool.false_and, Bool.false_eq_true, if_false, List.lookup_cons, hx] at h
        rcases h with h | h
        · cases h; exact absurd rfl hk
        · cases h; exact absurd rfl hf
    | false =>
      refine ih ?_
      by_cases hq : (k == NameKind.free && env.scope.kind == .function && env.kindOf n == some .cell) = true
      · simpa only [hq, if_true, List.lookup_cons, hx] using h
      · simpa only [hq, Bool.false_eq_true, if_false, List.lookup_cons, hx] using h
theorem free_mem {x : Str} {k : NameKind} : ∀ {names : List (Str × NameKind)}, names.lookup x = some k → (x, k) ∈ names
  | [], h => by cases h
  | (n, j) :: r, h => by
    rw [List.lookup_cons] at h
    cases hx : x == n with
    | true =>
      rw [hx] at h
      cases h
      have := eq_of_beq hx
      subst this
      exact List.mem_cons_self
    | false =>
      rw [hx] at h
      exact List.mem_cons_of_mem _ (free_mem h)

theorem inv_block {pins : List (Addr × Obj)} {σ : L2.St} {H : Hp} {s : Shared} {fp : List Addr} {h1 : Heap} {tk : Nat} {m : Str → Option Value} {C : Addr} (I : Inv X pins σ H s) (S : CompScope scX sc NX N k fv) (hX : X.env.scope = scX) (hN : X.N = NX)
    (hf : ∀ b ∈ fp, FpOk X pins H b) (hfl : ∀ b ∈ fp, b < s.heap.objs.size) (hC : s.heap.objs.size ≤ C) (hns : h1.Ns C m) (kept : ∀ b o, s.heap.get? b = some o → h1.get? b = some o) :
    Inv (cxB X sc N C s H fp) [] (pick k fv σ) H { s with heap := h1, toks := tk } := by
  have hcl : ∀ x c, (clOf X.env.cells sc.names).lookup x = some c → X.env.cells.lookup x = some c := fun x c h => clOf_mem (PySem.mem_of_lookup h)
  have hfree : ∀ x, sc.names.lookup x = some .free → X.env.kindOf x = some .cell := fun x h => by
    have := S.freeX (x, .free) (free_mem h) rfl
    show X.env.scope.names.lookup x = _
    rw [hX]
    exact this
  have hkind : X.env.scope.kind = .function := I.ok.kind
  have hrel : ∀ x, sc.names.lookup x = some .free → (relabel sc X.env).names.lookup x = some .cell ∨ (relabel sc X.env).names.lookup x = some .free := fun x h => by
    have go : ∀ (names : List (Str × NameKind)), names.lookup x = some .free → (names.map fun (n, k) => if (k == NameKind.free && X.env.scope.kind == .function && X.env.kindOf n == some .cell) then (n, NameKind.cell) else (n, k)).lookup x = some .cell ∨
        (names.map fun (n, k) => if (k == NameKind.free && X.env.scope.kind == .function && X.env.kindOf n == some .cell) then (n, NameKind.cell) else (n, k)).lookup x = some .free := by
      intro names
      induction names with
      | nil => intro h; cases h
      | cons y r ih =>
        obtain ⟨n, j⟩ := y
        intro h
        rw [List.lookup_cons] at h
        rw [List.map_cons]
        by_cases hq : (j == NameKind.free && X.env.scope.kind == .function && X.env.kindOf n == some .cell) = true
        · simp only [hq, if_true, List.lookup_cons]
          cases hx : x == n with
          | true => exact .inl rfl
          | false => rw [hx] at h; exact ih h
        · simp only [hq, Bool.false_eq_true, if_false, List.lookup_cons]
          cases hx : x == n with
          | true => rw [hx] at h; cases h; exact .inr rfl
          | false => rw [hx] at h; exact ih h
    exact go sc.names h
  have stk : ∀ b ∈ frs X.stack, b ∈ X.env.locals :: X.fs := I.stkSub
  have neC : ∀ b, b < s.heap.objs.size → b ≠ C := fun b hb => Nat.ne_of_lt (Nat.lt_of_lt_of_le hb hC)
  have hall : ∀ x, (X.env.kindOf x = some .cell ∨ X.env.kindOf x = some .free) → ∃ c, X.env.cells.lookup x = some c := I.ok.has
  have okY : (cxB X sc N C s H fp).Ok := by
    refine ⟨I.ok.mod, S.kind, I.ok.glob, I.ok.blt, hC, fun x y c h1 h2 => I.ok.inj x y c (hcl x c h1) (hcl y c h2), fun x hx => ?_, fun x c h _ => ?_, I.ok.hd, I.ok.frames, .inl rfl, fun b hb => ?_, I.bs, Nat.le_trans I.ok.bsz I.sz, fun b o e hb => ?_, fun b hb hb' => ?_, I.stack, I.stkFree⟩
    · have hx' : sc.names.lookup x = some .free := relabel_kind (env := X.env) S.nocell hx
      obtain ⟨c, hc⟩ := hall x (.inl (hfree x hx'))
      exact lookup_of_mem (clOf_has hc (free_mem hx'))
    · exact absurd (show false = true from h) Bool.false_ne_true
    · exact ⟨neC b (hfl b hb), fun x c e => (hf b hb).2.2.2.2.1 x c (hcl x c e)⟩
    · have hf' := (hf b hb).2.2.2.1
      rcases hf' with z | z
      · exact I.ok.noex b o e z
      · exact absurd (Nat.lt_of_lt_of_le (Heap.lt_size e) (Nat.le_trans I.ok.bsz z)) (Nat.lt_irrefl _)
    · rcases List.mem_cons.mp (stk b hb') with z | z
      · exact (hf b hb).2.1 z
      · exact (hf b hb).2.2.1 z
  refine ⟨okY, rfl, I.bare, Un.kept kept, ⟨m, hns, fun i x v e1 e2 e3 => ?_⟩, fun x c e => ?_, I.hok.fresh hC, fun x c e => I.freeC x c (hcl x c e), fun p hp => absurd (show p ∈ ([] : List (Addr × Obj)) from hp) (by simp), I.hok.kept kept, ?_⟩
  · obtain ⟨t, j, rfl, f1, f2⟩ := pick_some e2
    have ht : t < fv.length := (List.getElem?_eq_some_iff.mp f1).1
    obtain ⟨q1, q2⟩ := S.fvs t ht
    have hj : fv.getD t 0 = j := by rw [List.getD_eq_getElem?_getD, f1]; rfl
    rw [hj] at q1
    have e1' : N[k + t]? = some x := e1
    rw [e1'] at q1 q2
    have q2' : sc.names.lookup x = some .free := q2
    obtain ⟨m0, _, hl⟩ := I.loc
    obtain ⟨u, r, l⟩ := hl j x v (by rw [hN]; exact q1) f2 (.inr (.inl (hfree x q2')))
    refine ⟨u, r, .inr ⟨hrel x q2', ?_⟩⟩
    rcases l with ⟨kx, _⟩ | ⟨_, c, ec, ic⟩
    · rw [hfree x q2'] at kx; cases kx
    · obtain ⟨c', hc'⟩ := lookup_of_mem (clOf_has ec (free_mem q2'))
      have : c' = c := by
        have := hcl x c' hc'
        rw [ec] at this
        exact (Option.some.inj this).symm
      subst this
      obtain ⟨o, ho, hd⟩ := ic
      exact ⟨c', hc', o, kept _ _ ho, hd⟩
  · obtain ⟨v, o, ho, hd⟩ := I.cell x c (hcl x c e)
    exact ⟨v, o, kept _ _ ho, hd⟩
  · rw [pick_length]
    exact S.len.symm
end
end DL

set_option Elab.async false
set_option linter.all false
set_option maxRecDepth 100000
namespace DL
open PySem PySem.Spec PyProof.Rows L2
section
variable {X : Cx} {scX sc : Scope} {NX N : List Str} {k : Nat} {fv : List Nat}

def Tested (M : Model) (A : Around) (env : Env) (Er : Value → Shared → Prop) (k : Bool → Shared → Prop) : List Expr → Shared → Prop
  | [], s => k true s
  | [c], s => wpAny M A (isTrue c env (eval c env)) k Er s
  | _, _ => False
theorem tested_by {Y : Cx} {os : List Addr} {pins : List (Addr × Obj)} {σ : L2.St} {H : Hp} {s : Shared} {δ : Ev} {b : Bool} {mc : MT} {Er : Value → Shared → Prop} {k : Bool → Shared → Prop} {ifs : List Expr} (h : DIfs Y ifs mc) (I : Inv Y pins σ H s) (sl : Sl Y os H δ σ) (e : mc δ = some b)
    (hk : ∀ s' H', Inv Y pins σ H' s' → Same H H' → k b s') (hx : ∀ v s', Y.xe v s' → Er v s') : Tested (model Y.prog Y.w) Y.A Y.env Er k ifs s := by
  match ifs, h with
  | [], h =>
    have h' : mc = tT := h
    subst h'
    cases e
    exact hk s H I (Same.refl _)
  | [c], h =>
    obtain ⟨t, p, q⟩ := (show DT Y c mc from h)
    refine wpAny_mono (p pins s σ H (fun z H' => z = b ∧ Same H H') I (q os σ H δ b _ sl e fun H' g => ⟨rfl, g⟩)) (fun z s' r => ?_) hx
    obtain ⟨H', I', rfl, g'⟩ := r
    exact hk s' H' I' g'
theorem loop_by {prog : Program} {w : World} {A : Around} {R : Result → Shared → Prop} {s : Shared} {elt target iter : Expr} {ifs : List Expr} {scope : Scope} {pos : Pos} {it acc : Value} {env : Env} (hi : ifs.length ≤ 1) (J : Nat → Shared → Prop)
    (round : ∀ n s, J n s → wpAny (model prog w) A (pyNext it) (fun r s1 => r.elim (R (.ok .next) s1) fun v =>
      wpAny (model prog w) A (letOwnedTupleGo target it v) (fun _ s2 => wpAny (model prog w) A (assign target env v) (fun _ s3 =>
        Tested (model prog w) A env (notedBy (model prog w) A env fun x z => R (.error x) z) (fun ok s4 => if ok = true then
          wpAny (model prog w) A (eval elt env) (fun x s5 => wpAny (model prog w) A (call (.builtin "list.append") [acc, x]) (fun _ s6 => ∃ m, m < n ∧ J m s6) (notedBy (model prog w) A env fun x z => R (.error x) z) s5) (notedBy (model prog w) A env fun x z => R (.error x) z) s4
          else ∃ m, m < n ∧ J m s4) ifs s3)
        (notedBy (model prog w) A env fun x z => R (.error x) z) s2) (notedBy (model prog w) A env fun x z => R (.error x) z) s1) (notedBy (model prog w) A env fun x z => R (.error x) z) s)
    (n : Nat) (h : J n s) : codeAny (model prog w) A (.compLoop (.ListComp elt [⟨target, iter, ifs, 0⟩] scope pos) 0 it acc env) R s := by
  match ifs, hi, round with
  | [], _, round =>
    refine PySem.W.kcp_loop J (fun n s hJ => wpAny_mono (round n s hJ) (fun r s1 q => ?_) fun _ _ q => q) n h
    cases r with
    | none => exact q
    | some v => exact wpAny_mono q (fun _ s2 q => wpAny_mono q (fun _ s3 q => by simpa only [Tested, if_true] using q) fun _ _ q => q) fun _ _ q => q
  | [c], _, round =>
    refine PySem.W.kct_loop J (fun n s hJ => wpAny_mono (round n s hJ) (fun r s1 q => ?_) fun _ _ q => q) n h
    cases r with
    | none => exact q
    | some v => exact q
  | _ :: _ :: _, hi, _ => exact absurd hi (by simp)

theorem block_end {pins : List (Addr × Obj)} {σ σ' : L2.St} {H H' : Hp} {s s' : Shared} {fp : List Addr} {C D : Addr} {its : List Value} {cnt : Nat} {vs : List V} {h' : Heap} (I : Inv X pins σ H s) (hf : ∀ b ∈ fp, FpOk X pins H b) (hD : s.heap.objs.size ≤ D) (hDC : D ≠ C) (hC : s.heap.objs.size ≤ C)
    (J : Inv (cxB X sc N C s H fp) [(D, { cls := .type "list", data := .seq its.toArray cnt })] σ' H' s') (rv : Vals vs its) (hz : vs.length ≤ sizeLine) (sb : Heap.SameBut C s'.heap h') :
    Inv X pins σ (upd H' D (.lst vs)) { s' with heap := h' } := by
  obtain ⟨eD, nD, _, _, _⟩ := J.pin (D, { cls := .type "list", data := .seq its.toArray cnt }) (by simp)
  have nC : H' C = none := J.free
  have kp : ∀ b o, b ≠ C → s'.heap.get? b = some o → h'.get? b = some o := fun b o hb e => (sb.2 b hb).trans e
  have ltC : ∀ b, b < s.heap.objs.size → b ≠ C := fun b hb => Nat.ne_of_lt (Nat.lt_of_lt_of_le hb hC)
  have ltD : ∀ b, b < s.heap.objs.size → b ≠ D := fun b hb => Nat.ne_of_lt (Nat.lt_of_lt_of_le hb hD)
  have un := J.base
  have u2 : Un (frs X.stack) fp H (upd H' D (.lst vs)) s.heap h' := by
    refine ⟨fun b o e n h1 h2 => kp b o (ltC b (Heap.lt_size e)) (un.keep b o e n h1 h2), fun b o e n h1 h2 => ?_, fun b o e n h2 => ?_, fun b o e h2 => ?_, fun b xs e => ?_, fun b o u e => ?_, fun b ps e => ?_⟩
    · obtain ⟨sl, q⟩ := un.slot b o e n h1 h2
      exact ⟨sl, kp b _ (ltC b (Heap.lt_size e)) q⟩
    · rw [upd_ne (ltD b (Heap.lt_size e))]
      exact un.free b o e n h2
    · obtain ⟨o', q⟩ := un.there b o e h2
      exact ⟨o', kp b o' (ltC b (Heap.lt_size e)) q⟩
    · have q := un.tups b xs e
      rw [upd_ne (ne_of_none q nD)]
      exact q
    · have q := un.frzs b o u e
      rw [upd_ne (ne_of_none q nD)]
      exact q
    · obtain ⟨more, q⟩ := un.tbls b ps e
      exact ⟨more, by rw [upd_ne (ne_of_none q nD)]; exact q⟩
  have hok : HOk X.prog X.w (upd H' D (.lst vs)) h' := by
    intro b u e
    by_cases hb : b = D
    · subst hb
      rw [upd_same] at e
      cases e
      exact ⟨hz, its, cnt, rv, kp _ _ hDC eD⟩
    · rw [upd_ne hb] at e
      refine (J.hok b u e).stay (fun c v hc q => kp c v ?_ q) (fun c q => by rw [upd_ne (ne_of_none q nD)]; exact q) fun c xs q => by rw [upd_ne (ne_of_none q nD)]; exact q
      rcases hc with z | z
      · rw [z]; exact ne_of_none e nC
      · exact ne_of_none z nC
  exact I.call' (s' := { s' with heap := h' }) (ch := fp) J.os u2 hok J.bare fun b hb => ⟨(hf b hb).2.2.2.1, (hf b hb).2.1, (hf b hb).2.2.2.2.1, (hf b hb).2.2.2.2.2⟩

theorem comp_core {use : Option (Value → Sem Unit)} {QQ : Value → Shared → Prop} {elt tg iter : Expr} {ifs : List Expr} {pos : Pos} {mi : MI} {g : MG} {mc : MT} {me : ME} {B : Ev → Ev} (hB : Blk X k fv B) (hc : X.calm = true) (S : CompScope scX sc NX N k fv) (hX : X.env.scope = scX) (hN : X.N = NX) (hi : DI X tg iter mi) (hbl : Below k g) (hil : ifs.length ≤ 1)
    (hb : ∀ C s H fp, DG (cxB X sc N C s H fp) tg g ∧ DIfs (cxB X sc N C s H fp) ifs mc ∧ DE (cxB X sc N C s H fp) elt me)
    (hs : ∀ x, foldedSetIterable iter X.env x = pure x := by intro _; rfl)
    {pins : List (Addr × Obj)} {s : Shared} {σ : L2.St} {H : Hp} {os : List Addr} {δ : Ev} {d : D} (I : Inv X pins σ H s) (sl : Sl X os H δ σ) (m : eCompB B mi g mc me δ = some d)
    (fin : ∀ (Cc Dd : Addr) (s4 : Shared) (Hd : Hp), (∀ h', Heap.SameBut Cc s4.heap h' → Inv X pins σ Hd { s4 with heap := h' }) → (∃ m, s4.heap.Ns Cc m) → FpOk X pins Hd Cc → Same H Hd → H Dd = none → Own X.K (hide (Dd :: os) Hd) Hd Dd d →
      compPost (model X.prog X.w) X.A X.xe use QQ (.ref Dd) Cc (.ok .next) s4) :
    wpAny (model X.prog X.w) X.A (comprehension (.ListComp elt [⟨tg, iter, ifs, 0⟩] sc pos) sc X.env (firstIterPos [⟨tg, iter, ifs, 0⟩] pos) (newList []) (firstAsync [⟨tg, iter, ifs, 0⟩]) (firstIter [⟨tg, iter, ifs, 0⟩] X.env) use) QQ X.xe s := by
  obtain ⟨wi, pi, qi⟩ := hi
  obtain ⟨xs, e1, m⟩ := bind_inv m
  have m' : (if xs.length ≤ 16777216 then (compM (fun x => (g x (B δ)).bind fun δ1 => (mc δ1).bind fun b => if b = true then (me δ1).bind fun d => some (some d) else some none) xs).bind fun r => some (D.lst r) else none) = some d := m
  split at m'
  case isFalse => cases m'
  rename_i hlen
  obtain ⟨r, e2, m'⟩ := bind_inv m'
  cases m'
  have hsl : sizeLine = 16777216 := sizeLine_eq
  have hcells : ∀ y ∈ sc.names, y.2 = .free → ∃ c, X.env.cells.lookup y.1 = some c := fun y hy hf => I.ok.has y.1 (.inl (by show X.env.scope.names.lookup y.1 = _; rw [hX]; exact S.freeX y hy hf))
  refine wpAny_comprehension_free (use := use) rfl hs (closure_ok hcells) S.kind S.names (thn (pi pins s σ H (fun J H' => Same H H' ∧ Walk X.K J (hide os H') xs) I (qi os σ H δ xs _ sl e1 fun J H' g w => ⟨g, w⟩)) fun v s1 h1 => thn h1 fun itv s2 h2 => ?_)
  obtain ⟨it, fp, tn, J, H2, rfl, I2, T, st2, f2, g2, wk⟩ := h2
  have hfl : ∀ b ∈ fp, b < s2.heap.objs.size := fun b hb => let ⟨o, e, _⟩ := T.obj _ _ st2 b hb; Heap.lt_size e
  refine wpAny_newObj_type (wpAny_newFunctionEnv S.nocell (by intro y hy; simp at hy) (fun h₁ hns₁ hsb₁ => ?_) S.kind)
  dsimp only at hns₁ hsb₁ ⊢
  generalize hP2 : s2.heap.push { cls := .type "list", dict := none, data := .seq ([] : List Value).toArray } = P2 at hns₁ hsb₁ ⊢
  generalize hDd : s2.heap.objs.size = Dd
  generalize hCc : P2.objs.size = Cc at hns₁ hsb₁ ⊢
  have hC1 : Cc = Dd + 1 := by rw [← hCc, ← hP2, Heap.size_push, hDd]
  have hDC : Dd ≠ Cc := fun e => by rw [hC1] at e; exact absurd e (Nat.ne_of_lt (Nat.lt_succ_self _))
  have ltC : ∀ b : Addr, b < s2.heap.objs.size → b ≠ Cc := fun b hb e => by rw [e, hC1, ← hDd] at hb; exact absurd (Nat.lt_of_succ_lt hb) (Nat.lt_irrefl _)
  have ltD : ∀ b : Addr, b < s2.heap.objs.size → b ≠ Dd := fun b hb e => by rw [e, ← hDd] at hb; exact absurd hb (Nat.lt_irrefl _)
  have leC : s2.heap.objs.size ≤ Cc := by rw [hC1, hDd]; exact Nat.le_succ _
  have old : ∀ b o, s2.heap.get? b = some o → h₁.get? b = some o := fun b o e =>
    hsb₁.extBut b o (ltC b (Heap.lt_size e)) (Heap.get?_push_of_some _ (hP2 ▸ Heap.get?_push_of_some _ e))
  have hacc : h₁.get? Dd = some { cls := .type "list", data := .seq ([] : List Value).toArray 0 } :=
    hsb₁.extBut _ _ hDC (Heap.get?_push_of_some _ (by rw [← hP2, ← hDd]; exact Heap.get?_push_size _ rfl))
  have fpD : ∀ b ∈ fp, b ≠ Dd := fun b hb => ltD b (hfl b hb)
  obtain ⟨⟨tG, pG, qG⟩, hI, ⟨tE, pE, qE⟩⟩ := hb Cc s2 H2 fp
  -- the block's turns
  have loop : ∀ s₃ : Shared, s₃ = { s2 with heap := h₁, toks := s2.toks + ([] : List (Str × Value)).length } →
      codeAny (model X.prog X.w) X.A (.compLoop (.ListComp elt [⟨tg, iter, ifs, 0⟩] sc pos) 0 (.ref it) (.ref Dd) (compEnvC sc (clOf X.env.cells sc.names) Cc X.env))
        (compPost (model X.prog X.w) X.A X.xe use QQ (.ref Dd) Cc) s₃ := by
    rintro s₃ rfl
    have I0 : Inv (cxB X sc N Cc s2 H2 fp) [] (pick k fv σ) H2 { s2 with heap := h₁, toks := s2.toks + ([] : List (Str × Value)).length } :=
      inv_block I2 S hX hN f2 hfl leC hns₁ old
    have nfs : Dd ∉ (cxB X sc N Cc s2 H2 fp).fs := fun z => by
      rcases List.mem_cons.mp (I2.stkSub Dd z) with e | e
      · exact ltD _ I2.lt e.symm
      · exact I2.nofs (Nat.le_of_eq hDd) e
    have cne : ∀ x c, (cxB X sc N Cc s2 H2 fp).env.cells.lookup x = some c → c ≠ Dd := fun x c e z => by
      obtain ⟨v, o, ho, _⟩ := I2.cell x c (clOf_mem (PySem.mem_of_lookup e))
      exact ltD _ (Heap.lt_size ho) z
    have I0' : Inv (cxB X sc N Cc s2 H2 fp) [(Dd, { cls := .type "list", data := .seq ([] : List Value).toArray 0 })] (pick k fv σ) H2 { s2 with heap := h₁, toks := s2.toks + ([] : List (Str × Value)).length } := by
      refine I0.pins_of fun p hp => ?_
      have hp' : p = (Dd, { cls := .type "list", data := .seq ([] : List Value).toArray 0 }) := by simpa using hp
      subst hp'
      exact ⟨hacc, I2.hok.fresh (Nat.le_of_eq hDd), hDC, nfs, fun v z => nomatch z⟩
    have statF : ∀ {H' : Hp} {o : Obj}, (∀ b ∈ fp, H' b = none) → ∀ b ∈ fp, FpOk (cxB X sc N Cc s2 H2 fp) [(Dd, o)] H' b := fun {H' o} hn b hb => by
      refine ⟨hn b hb, ?_, ?_, .inl hb, fun x c e => (f2 b hb).2.2.2.2.1 x c (clOf_mem (PySem.mem_of_lookup e)), fun p hp => ?_⟩
      · exact ltC b (hfl b hb)
      · intro z
        rcases List.mem_cons.mp (I2.stkSub b z) with e | e
        · exact (f2 b hb).2.1 e
        · exact (f2 b hb).2.2.1 e
      · have hp' : p = (Dd, o) := by simpa using hp
        subst hp'
        exact (fpD b hb).symm
    have st1 : tn 0 h₁ := T.keep _ _ _ st2 fun b hb o e => old b o e
    refine loop_by hil (fun n s' => ∃ (i : Nat) (σ' : L2.St) (H' : Hp) (its : List Value) (cnt : Nat) (vs : List V) (ys rest : List D),
      Inv (cxB X sc N Cc s2 H2 fp) [(Dd, { cls := .type "list", data := .seq its.toArray cnt })] σ' H' s' ∧ Vals vs its ∧ tn i s'.heap ∧ (∀ b ∈ fp, H' b = none) ∧ Same H2 H' ∧ Sl (cxB X sc N Cc s2 H2 fp) os H' (B δ) σ' ∧ Dens X.K (hide os H') ys vs ∧
      compM (fun x => (g x (B δ)).bind fun δ1 => (mc δ1).bind fun b => if b = true then (me δ1).bind fun d => some (some d) else some none) (xs.drop i) = some rest ∧ ys ++ rest = r ∧ i ≤ xs.length ∧ ys.length ≤ i ∧ n = xs.length - i) ?_ xs.length
      ⟨0, _, H2, [], 0, [], [], r, I0', .nil, st1, fun b hb => (f2 b hb).1, Same.refl _, blk_sl hB S hN (sl.mono g2), .nil, by simpa using e2, rfl, Nat.zero_le _, Nat.le_refl _, by simp⟩
    rintro n s3 ⟨i, σ3, H3, its, cnt, vs, ys, rest, I3, rv, st3, fr3, g3, sl3, dv, cm, hr, hi, hyl, rfl⟩
    by_cases hlt : i < xs.length
    · have hx : xs[i]? = some xs[i] := List.getElem?_eq_getElem hlt
      obtain ⟨go, yl⟩ := (wk i os H3 sl3.live g3.hd).1 _ hx
      rw [List.drop_eq_getElem_cons hlt, compM] at cm
      obtain ⟨o, e3, cm⟩ := bind_inv cm
      obtain ⟨rest', e4, cm⟩ := bind_inv cm
      obtain ⟨δ1, e5, e3⟩ := bind_inv e3
      obtain ⟨b, e6, e3⟩ := bind_inv e3
      refine thn (T.item (cxB X sc N Cc s2 H2 fp) rfl rfl rfl hc i _ s3 σ3 H3 _ I3 (statF fr3) st3 go) fun rr s4 ⟨u, hrr, h4⟩ => ?_
      subst hrr
      refine thn h4 fun _ s5 ⟨x, H5, I5, r5, y5, st5, fr5⟩ => ?_
      obtain ⟨g5, dx⟩ := yl x H5 y5
      have I5' := I5.pinned (statF fr5) (T.obj _ _ st5)
      refine wpAny_mono (pG _ s5 σ3 H5 x u (fun σ6 H6 => Same H5 H6 ∧ Sl (cxB X sc N Cc s2 H2 fp) os H6 δ1 σ6) I5' r5 (qG os x σ3 H5 _ (B δ) δ1 _ (sl3.mono g5) dx e5 fun σ6 H6 g6 s6 => ⟨g6, s6⟩)) (fun _ s6 r6 => ?_) fun _ _ z => z.elim
      obtain ⟨σ6, H6, I6, g6, sl6⟩ := r6
      refine tested_by hI I6 sl6 e6 (fun s7 H7 I7 g7 => ?_) fun _ _ z => z.elim
      obtain ⟨bl1, bl2⟩ := hbl _ _ _ e5
      have g37 : Same H3 H7 := g5.trans (g6.trans g7)
      have sl7 : Sl (cxB X sc N Cc s2 H2 fp) os H7 (B δ) σ6 := (sl6.mono g7).back hB S.len sl.len bl1 bl2
      cases b with
      | false =>
        rw [if_neg Bool.false_ne_true] at e3
        cases e3
        cases cm
        rw [if_neg Bool.false_ne_true]
        refine ⟨xs.length - (i + 1), by omega, i + 1, σ6, H7, its, cnt, vs, ys, rest', ?_, rv, ?_, ?_, g3.trans g37, sl7, dv.mono (g37).hd _ _, e4, hr, hlt, by omega, rfl⟩
        · exact I7.unpinned
        · exact T.keep _ _ _ st5 fun b hb o e => (I7.pin (b, o) (List.mem_append_right _ (List.mem_append_right _ (mem_pinsAt hb e)))).1
        · intro b hb
          obtain ⟨o, e, _⟩ := T.obj _ _ st5 b hb
          exact (I7.pin (b, o) (List.mem_append_right _ (List.mem_append_right _ (mem_pinsAt hb e)))).2.1
      | true =>
        rw [if_pos rfl] at e3
        obtain ⟨dd, e7, e3⟩ := bind_inv e3
        cases e3
        cases cm
        rw [if_pos rfl]
        refine wpAny_mono (pE _ s7 σ6 H7 (fun v H8 => Same H7 H8 ∧ Den X.K (hide os H8) dd v) I7 (qE os σ6 H7 δ1 dd _ (sl6.mono g7) e7 fun v H8 g8 r8 => ⟨g8, r8⟩)) (fun u8 s8 r => ?_) fun _ _ z => z.elim
        obtain ⟨v8, H8, I8, r8, g8, den8⟩ := r
        obtain ⟨eD, nD, neD, nfD, _⟩ := I8.pin (Dd, { cls := .type "list", data := .seq its.toArray cnt }) (List.mem_append_right _ (List.mem_append_left _ (List.mem_singleton.mpr rfl)))
        have hlv : its.length = ys.length := by rw [← rv.length, ← dv.length]
        refine call_meets F.slot_list_append ⟨_, eD, rfl⟩ F.entry_list_append (F.args_list_append_2 _ _) (PySem.list_append Dd its.toArray cnt u8 (by rw [List.size_toArray]; omega)) ⟨eD, ?_⟩
        have hpush : its.toArray.push u8 = (its ++ [u8]).toArray := by simp
        obtain ⟨cnt', q⟩ : ∃ c, (s8.heap.update Dd (Obj.mapSeq (·.push u8))).get? Dd = some { cls := .type "list", data := .seq (its ++ [u8]).toArray c } :=
          ⟨_, by have q := PySem.IsL.update eD (·.push u8); rw [hpush] at q; exact q⟩
        have I9 := (I8.pins_of (pins' := []) fun p hp => absurd hp (by simp)).turned (it := Dd) (h' := s8.heap.update Dd (Obj.mapSeq (·.push u8))) (t' := s8.toks)
          (fun b o hb e => (Heap.get?_update_other s8.heap _ (Ne.symm hb)).trans e) nD neD (.inr (Nat.le_of_eq hDd)) cne (fun p hp => absurd hp (by simp))
        refine ⟨xs.length - (i + 1), by omega, i + 1, σ6, H8, its ++ [u8], cnt', vs ++ [v8], ys ++ [dd], rest', I9.pins_of fun p hp => ?_, rv.append (.cons r8 .nil), ?_, ?_, g3.trans (g37.trans g8), sl7.mono g8, (dv.mono ((g37.trans g8)).hd _ _).append (.cons den8 .nil), e4, ?_, hlt, ?_, rfl⟩
        · have hp' := List.mem_singleton.mp hp
          subst hp'
          exact ⟨q, nD, neD, nfD, fun v z => nomatch z⟩
        · refine T.keep _ _ _ st5 fun b hb o e => ?_
          have := (I8.pin (b, o) (List.mem_append_right _ (List.mem_append_right _ (mem_pinsAt hb e)))).1
          exact (Heap.get?_update_other s8.heap _ (Ne.symm (fpD b hb))).trans this
        · intro b hb
          obtain ⟨o, e, _⟩ := T.obj _ _ st5 b hb
          exact (I8.pin (b, o) (List.mem_append_right _ (List.mem_append_right _ (mem_pinsAt hb e)))).2.1
        · rw [List.append_assoc]
          exact hr
        · rw [List.length_append, List.length_singleton]
          omega
    · have e : i = xs.length := by omega
      subst e
      rw [List.drop_length] at cm
      cases cm
      rw [List.append_nil] at hr
      subst hr
      refine thn (T.done (cxB X sc N Cc s2 H2 fp) rfl rfl rfl hc _ _ s3 σ3 H3 _ I3 (statF fr3) st3 ((wk _ os H3 sl3.live g3.hd).2 rfl)) fun rr s4 ⟨hrr, I4⟩ => ?_
      subst hrr
      obtain ⟨mm, hnn, _⟩ := I4.loc
      have hlv := dv.length
      have nD : H3 Dd = none := (I4.pin (Dd, { cls := .type "list", data := .seq its.toArray cnt }) (List.mem_append_right _ (List.mem_singleton.mpr rfl))).2.1
      exact fin Cc Dd s4 _ (fun h' sb => block_end I2 f2 (Nat.le_of_eq hDd) hDC leC I4 rv (by omega) sb) ⟨mm, hnn⟩ (I2.fpOk leC ((upd_ne hDC.symm).trans I4.free)) (g2.trans (g3.trans (same_new nD _))) ((g2.trans g3).free nD) ⟨vs, upd_same, dv.mono (new_own nD _) _ _⟩
  exact codeAny_compStart_list (loop _ rfl) (T.self X.A 0 _ _ _ (T.keep _ _ _ st2 fun b hb o e => old b o e) (loop _ rfl))
theorem df_compB {elt tg iter : Expr} {ifs : List Expr} {pos : Pos} {mi : MI} {g : MG} {mc : MT} {me : ME} {B : Ev → Ev} (hB : Blk X k fv B) (hc : X.calm = true) (S : CompScope scX sc NX N k fv) (hX : X.env.scope = scX) (hN : X.N = NX) (hi : DI X tg iter mi) (hbl : Below k g) (hil : ifs.length ≤ 1)
    (hb : ∀ C s H fp, DG (cxB X sc N C s H fp) tg g ∧ DIfs (cxB X sc N C s H fp) ifs mc ∧ DE (cxB X sc N C s H fp) elt me)
    (hs : ∀ x, foldedSetIterable iter X.env x = pure x := by intro _; rfl) :
    DF X (.ListComp elt [⟨tg, iter, ifs, 0⟩] sc pos) (eCompB B mi g mc me) := by
  refine ⟨fun σ H Q => ∃ os δ d, Sl X os H δ σ ∧ eCompB B mi g mc me δ = some d ∧ (∀ p H', Same H H' → H p = none → Own X.K (hide (p :: os) H') H' p d → Q (.ref p) H'), ?_, fun os σ H δ d Q s m k => ⟨os, δ, d, s, m, k⟩⟩
  intro pins s σ H Q I h
  obtain ⟨os, δ, d, sl, m, kq⟩ := h
  rw [eval_ListComp]
  refine comp_core (use := none) hB hc S hX hN hi hbl hil hb hs I sl m fun Cc Dd s4 Hd hI hns _ g hn ow => ?_
  obtain ⟨mm, hnn⟩ := hns
  exact ⟨mm, hnn, fun h' sb => ⟨.ref Dd, Hd, hI h' sb, rfl, kq _ _ g hn ow⟩⟩
def tCompU (X : Cx) (i : Nat) (m : ME) : TS := fun D σ H => ∃ os δ d, Sl X os H δ σ ∧ m δ = some d ∧ ∀ p H', Same H H' → H p = none → Own X.K (hide (p :: os) H') H' p d → D.nx (σ.set i (some (.ref p))) H'
theorem ps_compU {x : Str} {p2 spos : Pos} {i : Nat} {elt tg iter : Expr} {ifs : List Expr} {pos : Pos} {mi : MI} {g : MG} {mc : MT} {me : ME} {B : Ev → Ev} (hB : Blk X k fv B) (hc : X.calm = true) (S : CompScope scX sc NX N k fv) (hX : X.env.scope = scX) (hN : X.N = NX) (hi : DI X tg iter mi) (hbl : Below k g) (hil : ifs.length ≤ 1)
    (hb : ∀ C s H fp, DG (cxB X sc N C s H fp) tg g ∧ DIfs (cxB X sc N C s H fp) ifs mc ∧ DE (cxB X sc N C s H fp) elt me) (hpg : PG X (.Name x p2) (gName i))
    (hsw : swapsWith (.ListComp elt [⟨tg, iter, ifs, 0⟩] sc pos) (some (.Name x p2)) spos.line X.env = pure true) (hs : ∀ x, foldedSetIterable iter X.env x = pure x) :
    PS X (.Assign [.Name x p2] (.ListComp elt [⟨tg, iter, ifs, 0⟩] sc pos) spos) (tCompU X i (eCompB B mi g mc me)) := by
  intro pins s σ H D I h
  obtain ⟨os, δ, d, sl, m, kq⟩ := h
  rw [exec_Assign_Name_used _ _ _ _ hsw]
  refine wpAny_bind (wpAny_standAt (wpAny_bind ?_))
  show wpAny _ _ (comprehension (.ListComp elt [⟨tg, iter, ifs, 0⟩] sc pos) sc X.env (firstIterPos [⟨tg, iter, ifs, 0⟩] pos) (newList []) (firstAsync [⟨tg, iter, ifs, 0⟩]) (firstIter [⟨tg, iter, ifs, 0⟩] X.env) (some (assign (.Name x p2) X.env)) >>= fun _ => pure ()) _ _ _
  refine wpAny_bind (comp_core (use := some (assign (.Name x p2) X.env)) hB hc S hX hN hi hbl hil hb hs I sl m fun Cc Dd s4 Hd hI hns hf gs hn ow => ?_)
  obtain ⟨mm, o, es, ep, ho, hr⟩ := hns
  have J : Inv X pins σ Hd s4 := hI s4.heap (Heap.SameBut.refl _ _)
  have hnc : ∀ v, o.data ≠ .cell v := fun v z => by
    rw [hr.1] at z
    cases z
  have J' := J.pinned (fp := [Cc]) (fun b hb => by rw [List.mem_singleton.mp hb]; exact hf) (fun b hb => by rw [List.mem_singleton.mp hb]; exact ⟨o, ho, hnc⟩)
  refine wpAny_mono (hpg _ s4 σ Hd (.ref Dd) (.ref Dd) (fun σ' H' => D.nx σ' H') J' rfl (kq Dd Hd gs hn ow)) (fun _ s5 q => ?_) fun _ _ z => z
  obtain ⟨σ', H', J5, q5⟩ := q
  have pin := J5.pin (Cc, o) (List.mem_append_right _ (List.mem_append_right _ (mem_pinsAt (by simp) ho)))
  refine ⟨mm, ⟨o, es, ep, pin.1, hr⟩, fun h' sb => wpAny_pure (wpAny_pure ?_)⟩
  have J6 := J5.unpinned
  exact ⟨σ', H', J6.turned (it := Cc) (h' := h') (t' := s5.toks) (fun b ob hb e => (sb.2 b hb).trans e) pin.2.1 hf.2.1 hf.2.2.2.1 hf.2.2.2.2.1 hf.2.2.2.2.2, q5⟩
theorem df_comp {elt tg iter : Expr} {ifs : List Expr} {pos : Pos} {mi : MI} {g : MG} {mc : MT} {me : ME} (hc : X.calm = true) (S : CompScope scX sc NX N k fv) (hX : X.env.scope = scX) (hN : X.N = NX) (hi : DI X tg iter mi) (hbl : Below k g)
    (hb : ∀ C s H fp, DG (cxB X sc N C s H fp) tg g ∧ DIfs (cxB X sc N C s H fp) ifs mc ∧ DE (cxB X sc N C s H fp) elt me)
    (hs : ∀ x, foldedSetIterable iter X.env x = pure x := by intro _; rfl) (hil : ifs.length ≤ 1 := by decide) :
    DF X (.ListComp elt [⟨tg, iter, ifs, 0⟩] sc pos) (eComp k fv mi g mc me) := df_compB (B := pick k fv) blk_pick hc S hX hN hi hbl hil hb hs
theorem de_comp {elt tg iter : Expr} {ifs : List Expr} {pos : Pos} {mi : MI} {g : MG} {mc : MT} {me : ME} (hc : X.calm = true) (S : CompScope scX sc NX N k fv) (hX : X.env.scope = scX) (hN : X.N = NX) (hi : DI X tg iter mi) (hbl : Below k g)
    (hb : ∀ C s H fp, DG (cxB X sc N C s H fp) tg g ∧ DIfs (cxB X sc N C s H fp) ifs mc ∧ DE (cxB X sc N C s H fp) elt me)
    (hs : ∀ x, foldedSetIterable iter X.env x = pure x := by intro _; rfl) (hil : ifs.length ≤ 1 := by decide) :
    DE X (.ListComp elt [⟨tg, iter, ifs, 0⟩] sc pos) (eComp k fv mi g mc me) := (df_comp hc S hX hN hi hbl hb hs hil).de (lstM_comp _ mi g mc me)

end
end DL

set_option Elab.async false
set_option linter.all false
set_option maxRecDepth 100000
namespace DL
open PySem PySem.Spec PyProof.Rows L2
section
variable {X : Cx} {scX sc : Scope} {NX N : List Str} {k : Nat} {fv : List Nat} {PX : Prop}
theorem ds_asgC {x : Str} {p2 spos : Pos} {i : Nat} {elt tg iter : Expr} {ifs : List Expr} {pos : Pos} {mi : MI} {g : MG} {mc : MT} {me : ME} (hlt : Nat.blt i X.N.length = true) (hpg : PG X (.Name x p2) (gName i)) (hc : X.calm = true) (S : CompScope scX sc NX N k fv) (hX : X.env.scope = scX) (hN : X.N = NX) (hi : DI X tg iter mi) (hbl : Below k g)
    (hb : ∀ C s H fp, DG (cxB X sc N C s H fp) tg g ∧ DIfs (cxB X sc N C s H fp) ifs mc ∧ DE (cxB X sc N C s H fp) elt me)
    (hsw : swapsWith (.ListComp elt [⟨tg, iter, ifs, 0⟩] sc pos) (some (.Name x p2)) spos.line X.env = pure true := by rfl) (hs : ∀ x, foldedSetIterable iter X.env x = pure x := by intro _; rfl) (hil : ifs.length ≤ 1 := by decide) :
    DS X PX (.Assign [.Name x p2] (.ListComp elt [⟨tg, iter, ifs, 0⟩] sc pos) spos) (sAsg (eComp k fv mi g mc me) (gN i)) := by
  refine ⟨_, ps_compU blk_pick hc S hX hN hi hbl hil hb hpg hsw hs, fun os σ H δ r D s m kq => ?_⟩
  obtain ⟨d, e1, m⟩ := bind_inv m
  cases m
  obtain ⟨ds, rfl⟩ := lstM_comp (pick k fv) mi g mc me δ d e1
  refine ⟨os, δ, _, s, e1, fun p H' g hp ow => ?_⟩
  exact kq _ H' os (.of g) ((s.mono g).set i (lt_of_blt hlt) (ow.den (s.live.ne hp)))
theorem ds_ownC {n : Nat} {x : Str} {p2 spos : Pos} {i : Nat} {elt tg iter : Expr} {ifs : List Expr} {pos : Pos} {mi : MI} {g : MG} {mc : MT} {me : ME} (hn : X.N.length = n) (hi' : i < n) (hpg : PG X (.Name x p2) (gName i)) (hc : X.calm = true) (S : CompScope scX sc NX N k fv) (hX : X.env.scope = scX) (hN : X.N = NX) (hi : DI X tg iter mi) (hbl : Below k g)
    (hb : ∀ C s H fp, DG (cxB X sc N C s H fp) tg g ∧ DIfs (cxB X sc N C s H fp) ifs mc ∧ DE (cxB X sc N C s H fp) elt me)
    (hsw : swapsWith (.ListComp elt [⟨tg, iter, ifs, 0⟩] sc pos) (some (.Name x p2)) spos.line X.env = pure true := by rfl) (hs : ∀ x, foldedSetIterable iter X.env x = pure x := by intro _; rfl) (hil : ifs.length ≤ 1 := by decide) :
    DS X PX (.Assign [.Name x p2] (.ListComp elt [⟨tg, iter, ifs, 0⟩] sc pos) spos) (sOwn n i (eComp k fv mi g mc me)) := by
  refine ⟨_, ps_compU blk_pick hc S hX hN hi hbl hil hb hpg hsw hs, fun os σ H δ r D s m kq => ?_⟩
  obtain ⟨d, e1, m⟩ := bind_inv m
  cases m
  exact ⟨os, δ, d, s, e1, fun p H' g hp ow => kq _ H' (p :: os) (fr_make g hp) (s.make hn hi' g hp ow)⟩
end
end DL

set_option Elab.async false
set_option linter.all false
set_option maxRecDepth 100000
namespace DL
open PySem PySem.Spec PyProof.Rows L2
open AutoSeq1 (wpAny_loadPart')
section
variable {X : Cx} {a b c e : Expr} {es : List Expr} {ma mb mc me : ME} {pos p : Pos}

theorem tuple_mul1 (l : Addr) (items : Array Value) (n : Nat) (u : Tok) (dd : Option Addr) (sl : Array (Option Value)) :
    Meets (Builtin.«tuple.__mul__» ⟨[.ref l, .int 1 u], []⟩) (fun _ R s => s.heap.get? l = some { cls := .type "tuple", dict := dd, data := .seq items n, slots := sl } ∧ R (.ok (.ret (Value.ref l))) s) :=
  .of_wp fun prog w A R s h => by
    obtain ⟨hp, g, d, tk, os⟩ := s; obtain ⟨hl, h⟩ := h
    have f1 := AutoSeq1.idx_int
    have f2 := AutoSeq1.sub_tuple_tuple
    have hc1 : (items.isEmpty || (1 : Int) == 1) = true := by simp
    wp_walk using wpAny_loadPart' hl
    exact ⟨_, rfl, h⟩
theorem tuple_mulN (l : Addr) (items : Array Value) (n : Nat) (x : Int) (u : Tok) (dd : Option Addr) (sl : Array (Option Value)) (hc0 : ¬(decide (x < -(2 ^ 63)) || decide (x ≥ 2 ^ 63)) = true) (hc1 : ¬(items.isEmpty || x == 1) = true) (hc2 : ¬(decide (x ≤ 0) || items.isEmpty) = true)
    (hc3 : ¬(items.size : Int) * x > (2 ^ 63 - 1) / 8) (hc4 : ¬Builtin.Tuple.tupleTooMany ((items.size : Int) * x) = true) (hsz : sizeOk (.seq (List.foldl (fun x1 x2 => x1 ++ x2) #[] (List.replicate x.toNat items)))) :
    Meets (Builtin.«tuple.__mul__» ⟨[.ref l, .int x u], []⟩) (fun _ R s => s.heap.get? l = some { cls := .type "tuple", dict := dd, data := .seq items n, slots := sl } ∧
      R (.ok (.ret (Value.ref s.heap.objs.size))) { s with heap := s.heap.push { cls := Value.type "tuple", data := Data.seq (List.foldl (fun x1 x2 => x1 ++ x2) #[] (List.replicate x.toNat items)) } }) :=
  .of_wp fun prog w A R s h => by
    obtain ⟨hp, g, d, tk, os⟩ := s; obtain ⟨hl, h⟩ := h
    have f1 := AutoSeq1.idx_int
    have f2 := AutoSeq1.sub_tuple_tuple
    wp_walk using wpAny_loadPart' hl
    refine wpAny_ite_false (decide_eq_false hc0) ?_
    wp_walk using wpAny_loadPart' hl
    refine wpAny_ite_false (decide_eq_false hc3) ?_
    wp_walk using wpAny_loadPart' hl
    refine wpAny_ite_false (decide_eq_false (Nat.not_lt.mpr hsz)) ?_
    wp_walk using wpAny_loadPart' hl
    exact ⟨_, rfl, h⟩
def rRepT (K : PySem.W.Frag) : R2 := fun x y H Q => ∃ l k xs, x = .ref l ∧ y = .int k ∧ SqT K H l xs ∧ 0 < k ∧ k ≤ 1000 ∧ 0 < xs.length ∧ xs.length ≤ 1000 ∧ (k = 1 → Q (.ref l) H) ∧
  (k ≠ 1 → ∀ p, H p = none → Q (.ref p) (upd H p (.tup (List.replicate k.toNat xs).flatten)))
theorem op_repT : OpR X (binaryOp .Mult) (rRepT X.K) := by
  intro pins s σ H x y v u Q I rx ry h
  obtain ⟨l, k, xs, rfl, rfl, hl, h0, h1, h2, h3, q1, q2⟩ := h
  cases rx
  obtain ⟨t, rfl⟩ := ry
  obtain ⟨its, r, ⟨⟨c1, d1, dt1, sl1⟩, e1, c1', n1, t1'⟩, _⟩ := I.tuple hl
  simp only at c1' t1'
  subst c1' t1'
  have hlen := r.length
  refine wpAny_binaryOp_repeat_ref (T := "tuple") (U := "int") (by decide) ⟨_, e1, rfl⟩ (fun s' => typeIs_int s' k t) noFill_tuple_mul F.fills_int_mul F.slot_int_rmul repeat_tuple F.slot_int_index.lookup
    (call_meets F.slot_int_rmul (typeIs_int s k t) F.entry_int_rmul (F.args_int_rmul_2 _ _) (int_rmul_tuple k t l its.toArray n1 d1 sl1) ⟨e1, rfl, ⟨_, e1, rfl⟩, ?_⟩)
  by_cases hk : k = 1
  · subst hk
    exact call_meets F.slot_tuple_mul ⟨_, e1, rfl⟩ F.entry_tuple_mul (F.args_tuple_mul_2 _ _) (tuple_mul1 l its.toArray n1 t d1 sl1) ⟨e1, ⟨.ref l, H, I, rfl, q1 rfl⟩⟩
  · have hnew : List.foldl (fun x1 x2 => x1 ++ x2) #[] (List.replicate k.toNat its.toArray) = (List.replicate k.toNat its).flatten.toArray := by
      have := foldl_rep its k.toNat []
      rw [List.nil_append] at this
      exact this
    have hfl : (List.replicate k.toNat its).flatten.length = k.toNat * its.length := len_rep its k.toNat
    have hb : k.toNat * its.length ≤ 1000 * 1000 := Nat.mul_le_mul (by omega) (by omega)
    have hbi : (its.length : Int) * k ≤ 1000 * 1000 := by
      have e : (its.length : Int) * k = ((k.toNat * its.length : Nat) : Int) := by
        rw [Nat.mul_comm]
        push_cast
        rw [Int.toNat_of_nonneg (by omega)]
      rw [e]
      exact_mod_cast hb
    have hne : its ≠ [] := by intro z; rw [z, List.length_nil] at hlen; omega
    have hie : its.toArray.isEmpty = false := by simpa using hne
    have hz : (List.replicate k.toNat its).flatten.length ≤ sizeLine := by rw [hfl, lim_eq]; omega
    refine call_meets F.slot_tuple_mul ⟨_, e1, rfl⟩ F.entry_tuple_mul (F.args_tuple_mul_2 _ _) (tuple_mulN l its.toArray n1 k t d1 sl1 (by simp; omega) (by rw [hie]; simpa using hk) (by rw [hie]; simp; omega)
      (by rw [List.size_toArray]; omega) (by rw [List.size_toArray]; have hsz := lim_eq; simp [Builtin.Tuple.tupleTooMany]; omega) (by rw [hnew]; show (List.replicate k.toNat its).flatten.toArray.size ≤ sizeLine; rw [List.size_toArray]; exact hz)) ⟨e1, ?_⟩
    rw [hnew]
    refine ⟨.ref s.heap.objs.size, _, I.laid (t' := s.toks) (o := .tup (List.replicate k.toNat xs).flatten) (fun b ob q => Heap.get?_push_of_some _ q) (Nat.le_refl _) ?_, rfl, q2 hk _ (I.hok.fresh (Nat.le_refl _))⟩
    exact ⟨by rw [len_rep, hlen, ← hfl]; exact hz, _, r.rep k.toNat, IsTup.new _ _⟩
theorem od_mul : OpD X (binaryOp .Mult) oMul := by
  refine ⟨_, op_mul.or op_repT, fun os H L dx dy d x y Q rx ry m k => ?_⟩
  cases dy with
  | int j =>
    cases dx with
    | int i =>
      have m' : (if (small j || small i) = true then some (D.int (i * j)) else none) = some d := m
      split at m'
      · rename_i hs
        cases m'
        refine .inl ⟨i, j, rx.int_inv, ry.int_inv, ?_, k _ H (Same.refl _) (.int _)⟩
        simp [small] at hs
        rcases hs with hs | hs
        · exact .inr ⟨hs.1, hs.2⟩
        · exact .inl ⟨hs.1, hs.2⟩
      · cases m'
    | tup xs =>
      have m' : (if (decide (0 < j) && decide (j ≤ 1000) && decide (0 < xs.length) && decide (xs.length ≤ 1000)) = true then some (D.tup (List.replicate j.toNat xs).flatten) else none) = some d := m
      split at m'
      · rename_i hs
        cases m'
        simp only [Bool.and_eq_true, decide_eq_true_eq] at hs
        obtain ⟨⟨⟨h1, h2⟩, h3⟩, h4⟩ := hs
        obtain ⟨a, vs, rfl, g1, g2⟩ := rx.tup_up
        have hl := g2.length
        refine .inr ⟨a, j, vs, rfl, ry.int_inv, g1, h1, h2, by omega, by omega, fun e => ?_, fun _ p hp => ?_⟩
        · subst e
          exact k _ H (Same.refl _) (by simpa using rx)
        · exact k _ _ (same_new hp (.tup (List.replicate j.toNat vs).flatten)) (.newT L hp (g2.flat j.toNat))
      · cases m'
    | _ => cases m
  | _ => cases dx <;> cases m
theorem od_lt : OpD X (compareOp .Lt) oLt := by
  refine ⟨_, op_lt, fun os H L dx dy d x y Q rx ry m k => ?_⟩
  obtain ⟨i, j, rfl, rfl, m⟩ := oi_inv m
  cases m
  exact ⟨i, j, rx.int_inv, ry.int_inv, k _ H (Same.refl _) (.bl _)⟩
theorem od_ge : OpD X (compareOp .GtE) oGe := by
  refine ⟨_, op_ge, fun os H L dx dy d x y Q rx ry m k => ?_⟩
  obtain ⟨i, j, rfl, rfl, m⟩ := oi_inv m
  cases m
  exact ⟨i, j, rx.int_inv, ry.int_inv, k _ H (Same.refl _) (.bl _)⟩
theorem ud_neg : UnD X (unaryOp .USub) uNeg := by
  refine ⟨_, un_neg, fun os H L dx d x Q rx m k => ?_⟩
  cases dx with
  | int i => cases m; exact ⟨i, rx.int_inv, k _ H (Same.refl _) (.int _)⟩
  | _ => cases m
theorem bl_oi {g : Int → Int → Bool} {dx dy d : D} (h : oI (fun i j => some (.bl (g i j))) dx dy = some d) : ∃ k, d = .bl k := by
  obtain ⟨i, j, rfl, rfl, m⟩ := oi_inv h
  cases m
  exact ⟨_, rfl⟩
theorem bl_lt (x y d : D) (h : oLt x y = some d) : ∃ k, d = .bl k := bl_oi h
theorem bl_ge (x y d : D) (h : oGe x y = some d) : ∃ k, d = .bl k := bl_oi h
theorem bl_eq (x y d : D) (h : oEq x y = some d) : ∃ k, d = .bl k := by
  unfold oEq at h
  split at h
  · cases h; exact ⟨_, rfl⟩
  · cases h
theorem bl_ne (x y d : D) (h : oNe x y = some d) : ∃ k, d = .bl k := by
  unfold oNe at h
  split at h
  · cases h; exact ⟨_, rfl⟩
  · cases h
theorem bl_in (x y d : D) (h : oIn x y = some d) : ∃ k, d = .bl k := by
  unfold oIn at h
  split at h
  · split at h
    · cases h; exact ⟨_, rfl⟩
    · cases h
  · split at h
    · cases h; exact ⟨_, rfl⟩
    · cases h
  · cases h; exact ⟨_, rfl⟩
  · cases h
end
end DL

set_option Elab.async false
set_option linter.all false
set_option maxRecDepth 100000
namespace DL
open PySem PySem.Spec PyProof.Rows L2
section
variable {X : Cx} {pins : List (Addr × Obj)} {σ : L2.St} {H : Hp} {s : Shared}
theorem not_both (I : Inv X pins σ H s) {a : Addr} {xs ys : List V} (h1 : SqL X.K H a xs) (h2 : SqT X.K H a ys) : False := by
  obtain ⟨i1, _, p1, _⟩ := I.list h1
  obtain ⟨i2, _, p2, _⟩ := I.tuple h2
  exact (SeqAt.ne_of_list_tuple (s := s) p1.isList p2) rfl
mutual
theorem Den.inj (I : Inv X pins σ H s) : ∀ {d e : D} {v : V}, depD d ≤ 30 → depD e ≤ 30 → Den X.K H d v → Den X.K H e v → d = e
  | .non, e, v, _, he, h, g => by
    rw [h.non_inv] at g
    cases e with
    | non => rfl
    | bl z => cases g.bl_inv
    | int z => cases g.int_inv
    | str z => cases g.str_inv
    | tup z => obtain ⟨_, _, q, _⟩ := g.tup_sq; cases q
    | lst z => obtain ⟨_, _, q, _⟩ := g.lst_inv; cases q
    | dic z0 z w => simp [depD] at he
  | .bl b, e, v, _, he, h, g => by
    rw [h.bl_inv] at g
    cases e with
    | non => cases g.non_inv
    | bl z => cases g.bl_inv; rfl
    | int z => cases g.int_inv
    | str z => cases g.str_inv
    | tup z => obtain ⟨_, _, q, _⟩ := g.tup_sq; cases q
    | lst z => obtain ⟨_, _, q, _⟩ := g.lst_inv; cases q
    | dic z0 z w => simp [depD] at he
  | .int b, e, v, _, he, h, g => by
    rw [h.int_inv] at g
    cases e with
    | non => cases g.non_inv
    | bl z => cases g.bl_inv
    | int z => cases g.int_inv; rfl
    | str z => cases g.str_inv
    | tup z => obtain ⟨_, _, q, _⟩ := g.tup_sq; cases q
    | lst z => obtain ⟨_, _, q, _⟩ := g.lst_inv; cases q
    | dic z0 z w => simp [depD] at he
  | .str b, e, v, _, he, h, g => by
    rw [h.str_inv] at g
    cases e with
    | non => cases g.non_inv
    | bl z => cases g.bl_inv
    | int z => cases g.int_inv
    | str z => cases g.str_inv; rfl
    | tup z => obtain ⟨_, _, q, _⟩ := g.tup_sq; cases q
    | lst z => obtain ⟨_, _, q, _⟩ := g.lst_inv; cases q
    | dic z0 z w => simp [depD] at he
  | .tup ds, e, v, hd, he, h, g => by
    obtain ⟨a, xs, rfl, h1, h2⟩ := h.tup_sq
    simp only [depD] at hd
    cases e with
    | non => cases g.non_inv
    | bl z => cases g.bl_inv
    | int z => cases g.int_inv
    | str z => cases g.str_inv
    | dic z0 z w => simp [depD] at he
    | tup es =>
      simp only [depD] at he
      obtain ⟨b, ys, q, g1, g2⟩ := g.tup_sq
      cases q
      rw [← I.tuple_inj h1 g1] at g2
      rw [Dens.inj I (by omega) (by omega) h2 g2]
    | lst es =>
      obtain ⟨b, ys, q, g1, g2⟩ := g.lst_inv
      cases q
      exact (not_both I g1 h1).elim
  | .lst ds, e, v, hd, he, h, g => by
    obtain ⟨a, xs, rfl, h1, h2⟩ := h.lst_inv
    simp only [depD] at hd
    cases e with
    | non => cases g.non_inv
    | bl z => cases g.bl_inv
    | int z => cases g.int_inv
    | str z => cases g.str_inv
    | dic z0 z w => simp [depD] at he
    | lst es =>
      simp only [depD] at he
      obtain ⟨b, ys, q, g1, g2⟩ := g.lst_inv
      cases q
      rw [← I.list_inj h1 g1] at g2
      rw [Dens.inj I (by omega) (by omega) h2 g2]
    | tup es =>
      obtain ⟨b, ys, q, g1, g2⟩ := g.tup_sq
      cases q
      exact (not_both I h1 g1).elim
  | .dic t ks vs, e, v, hd, _, _, _ => by simp [depD] at hd
theorem Dens.inj (I : Inv X pins σ H s) : ∀ {ds es : List D} {xs : List V}, depDs ds ≤ 30 → depDs es ≤ 30 → Dens X.K H ds xs → Dens X.K H es xs → ds = es
  | [], [], _, _, _, _, _ => rfl
  | [], e :: es, _, _, _, h, g => by obtain ⟨x, r, q, _⟩ := g.uncons; rw [h.unnil] at q; cases q
  | d :: ds, [], _, _, _, h, g => by obtain ⟨x, r, q, _⟩ := h.uncons; rw [g.unnil] at q; cases q
  | d :: ds, e :: es, _, hd, he, h, g => by
    obtain ⟨x, r, rfl, h1, h2⟩ := h.uncons
    obtain ⟨y, t, q, g1, g2⟩ := g.uncons
    cases q
    simp only [depDs] at hd he
    rw [Den.inj I (by omega) (by omega) h1 g1, Dens.inj I (by omega) (by omega) h2 g2]
end
abbrev El (A : Around) (s : Shared) (ds es : List D) (its its2 : List Value) : Prop :=
  ∀ j (h1 : j < its.toArray.size) (h2 : j < its2.toArray.size), SeqAt.EqAt A.in1 s its.toArray[j] its2.toArray[j] (eqD (ds.getD j .non) (es.getD j .non))
theorem rc_tup {A : Around} {l b : Addr} {its its2 : List Value} {ds es : List D} {xs ys : List V} (I : Inv X pins σ H s) (hu : A.units < cLine) (hl : IsTup s.heap l its.toArray) (hb : IsTup s.heap b its2.toArray) (r1 : Vals xs its) (r2 : Vals ys its2) (d1 : Dens X.K H ds xs) (d2 : Dens X.K H es ys) (he : El A s ds es its its2) :
    SeqAt.RcAt A s (.ref l) (.ref b) (eqD (.tup ds) (.tup es)) := by
  have q := SeqAt.RcAt.tuples (A := A) (s := s) hl hb hu he
  have e1 : its.toArray.size = ds.length := by rw [List.size_toArray, ← r1.length, d1.length]
  have e2 : its2.toArray.size = es.length := by rw [List.size_toArray, ← r2.length, d2.length]
  rw [e1, e2, eqDs_range] at q
  rw [eqD]
  exact q
theorem rn_tup {A : Around} {l b : Addr} {its its2 : List Value} {ds es : List D} {xs ys : List V} (I : Inv X pins σ H s) (hu : A.units < cLine) (hl : IsTup s.heap l its.toArray) (hb : IsTup s.heap b its2.toArray) (r1 : Vals xs its) (r2 : Vals ys its2) (d1 : Dens X.K H ds xs) (d2 : Dens X.K H es ys) (he : El A s ds es its its2) :
    SeqAt.RcNeAt A s (.ref l) (.ref b) (!eqD (.tup ds) (.tup es)) := by
  have q := SeqAt.RcNeAt.tuples (A := A) (s := s) hl hb hu he
  have e1 : its.toArray.size = ds.length := by rw [List.size_toArray, ← r1.length, d1.length]
  have e2 : its2.toArray.size = es.length := by rw [List.size_toArray, ← r2.length, d2.length]
  rw [e1, e2, eqDs_range] at q
  rw [eqD]
  exact q
theorem rc_lst {A : Around} {l b : Addr} {its its2 : List Value} {ds es : List D} {xs ys : List V} (I : Inv X pins σ H s) (hu : A.units < cLine) (hl : PlainL s.heap l its.toArray) (hb : PlainL s.heap b its2.toArray) (r1 : Vals xs its) (r2 : Vals ys its2) (d1 : Dens X.K H ds xs) (d2 : Dens X.K H es ys) (he : El A s ds es its its2) :
    SeqAt.RcAt A s (.ref l) (.ref b) (eqD (.lst ds) (.lst es)) := by
  have e1 : its.toArray.size = ds.length := by rw [List.size_toArray, ← r1.length, d1.length]
  have e2 : its2.toArray.size = es.length := by rw [List.size_toArray, ← r2.length, d2.length]
  have er := eqDs_range ds es
  rw [eqD, ← er]
  by_cases hs : ds.length = es.length
  · have q := SeqAt.RcAt.lists (A := A) (s := s) hl.isList hb.isList (by rw [e1, e2]; exact hs) hu he
    rw [e1] at q
    rw [hs, Nat.min_self, beq_self_eq_true, Bool.and_true, ← hs]
    exact q
  · have q := SeqAt.RcAt.lists_lengths (A := A) (s := s) hl.isList hb.isList (by rw [e1, e2]; simpa using hs) hu
    have hb' : (ds.length == es.length) = false := by simpa using hs
    rw [hb', Bool.and_false]
    exact q
theorem rn_lst {A : Around} {l b : Addr} {its its2 : List Value} {ds es : List D} {xs ys : List V} (I : Inv X pins σ H s) (hu : A.units < cLine) (hl : PlainL s.heap l its.toArray) (hb : PlainL s.heap b its2.toArray) (r1 : Vals xs its) (r2 : Vals ys its2) (d1 : Dens X.K H ds xs) (d2 : Dens X.K H es ys) (he : El A s ds es its its2) :
    SeqAt.RcNeAt A s (.ref l) (.ref b) (!eqD (.lst ds) (.lst es)) := by
  have e1 : its.toArray.size = ds.length := by rw [List.size_toArray, ← r1.length, d1.length]
  have e2 : its2.toArray.size = es.length := by rw [List.size_toArray, ← r2.length, d2.length]
  have er := eqDs_range ds es
  rw [eqD, ← er]
  by_cases hs : ds.length = es.length
  · have q := SeqAt.RcNeAt.lists (A := A) (s := s) hl.isList hb.isList (by rw [e1, e2]; exact hs) hu he
    rw [e1] at q
    rw [hs, Nat.min_self, beq_self_eq_true, Bool.and_true, ← hs]
    exact q
  · have q := SeqAt.RcNeAt.lists_lengths (A := A) (s := s) hl.isList hb.isList (by rw [e1, e2]; simpa using hs) hu
    have hb' : (ds.length == es.length) = false := by simpa using hs
    rw [hb', Bool.and_false]
    exact q
theorem items_of {A : Around} {n : Nat} (el : ∀ (A : Around) (dx dy : D) (x y : V) (v u : Value), depD dx ≤ n → (depD dx ≤ 30 ∧ depD dy ≤ 30) → A.units + n < cLine → Den X.K H dx x → Den X.K H dy y → RelV x v → RelV y u → SeqAt.EqAt A s v u (eqD dx dy))
    {ds es : List D} {xs ys : List V} {its its2 : List Value} (hd : ∀ d ∈ ds, depD d ≤ n) (hb : (∀ d ∈ ds, depD d ≤ 30) ∧ (∀ d ∈ es, depD d ≤ 30)) (hu : A.units + 1 + n < cLine) (d1 : Dens X.K H ds xs) (d2 : Dens X.K H es ys) (r1 : Vals xs its) (r2 : Vals ys its2) : El A s ds es its its2 := by
  intro j h1 h2
  rw [List.size_toArray] at h1 h2
  have l1 := r1.length
  have l2 := r2.length
  have m1 := d1.length
  have m2 := d2.length
  have j1 : j < ds.length := by omega
  have j2 : j < es.length := by omega
  obtain ⟨x, hx, q1⟩ := d1.get (i := j) (d := ds[j]) (List.getElem?_eq_getElem j1)
  obtain ⟨y, hy, q2⟩ := d2.get (i := j) (d := es[j]) (List.getElem?_eq_getElem j2)
  obtain ⟨v, hv, w1⟩ := r1.get hx
  obtain ⟨u, hu', w2⟩ := r2.get hy
  have ev : its.toArray[j] = v := by
    rw [List.getElem?_eq_getElem h1] at hv
    simpa using hv
  have eu : its2.toArray[j] = u := by
    rw [List.getElem?_eq_getElem h2] at hu'
    simpa using hu'
  rw [ev, eu, List.getD_eq_getElem?_getD, List.getD_eq_getElem?_getD, List.getElem?_eq_getElem j1, List.getElem?_eq_getElem j2]
  exact el A.in1 ds[j] es[j] x y v u (hd _ (List.getElem_mem j1)) ⟨hb.1 _ (List.getElem_mem j1), hb.2 _ (List.getElem_mem j2)⟩ hu q1 q2 w1 w2
theorem el_at (I : Inv X pins σ H s) : ∀ (n : Nat) (A : Around) (dx dy : D) (x y : V) (v u : Value), depD dx ≤ n → (depD dx ≤ 30 ∧ depD dy ≤ 30) → A.units + n < cLine → Den X.K H dx x → Den X.K H dy y → RelV x v → RelV y u → SeqAt.EqAt A s v u (eqD dx dy) := by
  intro n
  induction n with
  | zero =>
    intro A dx dy x y v u hd hb hu0 rx ry vx vy
    have hu : A.units < cLine := by omega
    cases dx with
    | dic z0 z1 z2 => exact absurd hb.1 (by simp [depD])
    | non =>
      rw [rx.non_inv] at vx; cases vx
      cases dy with
      | dic z0 z1 z2 => exact absurd hb.2 (by simp [depD])
      | non =>
        rw [ry.non_inv] at vy; cases vy
        exact (SeqAt.EqAt.same _)
      | bl z2 =>
        rw [ry.bl_inv] at vy; cases vy
        exact (SeqAt.EqAt.none_bool _)
      | int z2 =>
        rw [ry.int_inv] at vy; obtain ⟨ty, rfl⟩ := vy
        exact (SeqAt.EqAt.none_int _ _)
      | str z2 =>
        rw [ry.str_inv] at vy; obtain ⟨ty, rfl⟩ := vy
        exact (SeqAt.EqAt.none_str _ _)
      | lst ds2 =>
        obtain ⟨ay, xsy, rfl, hy1, hy2⟩ := ry.lst_inv; cases vy; obtain ⟨itsy, ry', py, _⟩ := I.list hy1
        exact (SeqAt.EqAt.none_list py.isList hu)
      | tup ds2 =>
        obtain ⟨ay, xsy, rfl, hy1, hy2⟩ := ry.tup_sq; cases vy; obtain ⟨itsy, ry', py, _⟩ := I.tuple hy1
        exact (SeqAt.EqAt.none_tuple py hu)
    | bl z1 =>
      rw [rx.bl_inv] at vx; cases vx
      cases dy with
      | dic z0 z1 z2 => exact absurd hb.2 (by simp [depD])
      | non =>
        rw [ry.non_inv] at vy; cases vy
        exact (SeqAt.EqAt.bool_none _)
      | bl z2 =>
        rw [ry.bl_inv] at vy; cases vy
        exact (SeqAt.EqAt.bool_bool _ _)
      | int z2 =>
        rw [ry.int_inv] at vy; obtain ⟨ty, rfl⟩ := vy
        exact (SeqAt.EqAt.bool_int _ _ _)
      | str z2 =>
        rw [ry.str_inv] at vy; obtain ⟨ty, rfl⟩ := vy
        exact (SeqAt.EqAt.bool_str _ _ _)
      | lst ds2 =>
        obtain ⟨ay, xsy, rfl, hy1, hy2⟩ := ry.lst_inv; cases vy; obtain ⟨itsy, ry', py, _⟩ := I.list hy1
        exact (SeqAt.EqAt.bool_list _ py.isList hu)
      | tup ds2 =>
        obtain ⟨ay, xsy, rfl, hy1, hy2⟩ := ry.tup_sq; cases vy; obtain ⟨itsy, ry', py, _⟩ := I.tuple hy1
        exact (SeqAt.EqAt.bool_tuple _ py hu)
    | int z1 =>
      rw [rx.int_inv] at vx; obtain ⟨tx, rfl⟩ := vx
      cases dy with
      | dic z0 z1 z2 => exact absurd hb.2 (by simp [depD])
      | non =>
        rw [ry.non_inv] at vy; cases vy
        exact (SeqAt.EqAt.int_none _ _)
      | bl z2 =>
        rw [ry.bl_inv] at vy; cases vy
        exact (SeqAt.EqAt.int_bool _ _ _)
      | int z2 =>
        rw [ry.int_inv] at vy; obtain ⟨ty, rfl⟩ := vy
        exact (SeqAt.EqAt.int_int _ _ _ _)
      | str z2 =>
        rw [ry.str_inv] at vy; obtain ⟨ty, rfl⟩ := vy
        exact (SeqAt.EqAt.int_str _ _ _ _)
      | lst ds2 =>
        obtain ⟨ay, xsy, rfl, hy1, hy2⟩ := ry.lst_inv; cases vy; obtain ⟨itsy, ry', py, _⟩ := I.list hy1
        exact (SeqAt.EqAt.int_list _ _ py.isList hu)
      | tup ds2 =>
        obtain ⟨ay, xsy, rfl, hy1, hy2⟩ := ry.tup_sq; cases vy; obtain ⟨itsy, ry', py, _⟩ := I.tuple hy1
        exact (SeqAt.EqAt.int_tuple _ _ py hu)
    | str z1 =>
      rw [rx.str_inv] at vx; obtain ⟨tx, rfl⟩ := vx
      cases dy with
      | dic z0 z1 z2 => exact absurd hb.2 (by simp [depD])
      | non =>
        rw [ry.non_inv] at vy; cases vy
        exact (SeqAt.EqAt.str_none _ _)
      | bl z2 =>
        rw [ry.bl_inv] at vy; cases vy
        exact (SeqAt.EqAt.str_bool _ _ _)
      | int z2 =>
        rw [ry.int_inv] at vy; obtain ⟨ty, rfl⟩ := vy
        exact (SeqAt.EqAt.str_int _ _ _ _)
      | str z2 =>
        rw [ry.str_inv] at vy; obtain ⟨ty, rfl⟩ := vy
        exact (SeqAt.EqAt.str_str _ _ _ _)
      | lst ds2 =>
        obtain ⟨ay, xsy, rfl, hy1, hy2⟩ := ry.lst_inv; cases vy; obtain ⟨itsy, ry', py, _⟩ := I.list hy1
        exact (SeqAt.EqAt.str_list _ _ py.isList hu)
      | tup ds2 =>
        obtain ⟨ay, xsy, rfl, hy1, hy2⟩ := ry.tup_sq; cases vy; obtain ⟨itsy, ry', py, _⟩ := I.tuple hy1
        exact (SeqAt.EqAt.str_tuple _ _ py hu)
    | lst ds1 => simp [depD] at hd
    | tup ds1 => simp [depD] at hd
  | succ n ih =>
    intro A dx dy x y v u hd hb hu0 rx ry vx vy
    have hu : A.units < cLine := by omega
    cases dx with
    | dic z0 z1 z2 => exact absurd hb.1 (by simp [depD])
    | non =>
      rw [rx.non_inv] at vx; cases vx
      cases dy with
      | dic z0 z1 z2 => exact absurd hb.2 (by simp [depD])
      | non =>
        rw [ry.non_inv] at vy; cases vy
        exact (SeqAt.EqAt.same _)
      | bl z2 =>
        rw [ry.bl_inv] at vy; cases vy
        exact (SeqAt.EqAt.none_bool _)
      | int z2 =>
        rw [ry.int_inv] at vy; obtain ⟨ty, rfl⟩ := vy
        exact (SeqAt.EqAt.none_int _ _)
      | str z2 =>
        rw [ry.str_inv] at vy; obtain ⟨ty, rfl⟩ := vy
        exact (SeqAt.EqAt.none_str _ _)
      | lst ds2 =>
        obtain ⟨ay, xsy, rfl, hy1, hy2⟩ := ry.lst_inv; cases vy; obtain ⟨itsy, ry', py, _⟩ := I.list hy1
        exact (SeqAt.EqAt.none_list py.isList hu)
      | tup ds2 =>
        obtain ⟨ay, xsy, rfl, hy1, hy2⟩ := ry.tup_sq; cases vy; obtain ⟨itsy, ry', py, _⟩ := I.tuple hy1
        exact (SeqAt.EqAt.none_tuple py hu)
    | bl z1 =>
      rw [rx.bl_inv] at vx; cases vx
      cases dy with
      | dic z0 z1 z2 => exact absurd hb.2 (by simp [depD])
      | non =>
        rw [ry.non_inv] at vy; cases vy
        exact (SeqAt.EqAt.bool_none _)
      | bl z2 =>
        rw [ry.bl_inv] at vy; cases vy
        exact (SeqAt.EqAt.bool_bool _ _)
      | int z2 =>
        rw [ry.int_inv] at vy; obtain ⟨ty, rfl⟩ := vy
        exact (SeqAt.EqAt.bool_int _ _ _)
      | str z2 =>
        rw [ry.str_inv] at vy; obtain ⟨ty, rfl⟩ := vy
        exact (SeqAt.EqAt.bool_str _ _ _)
      | lst ds2 =>
        obtain ⟨ay, xsy, rfl, hy1, hy2⟩ := ry.lst_inv; cases vy; obtain ⟨itsy, ry', py, _⟩ := I.list hy1
        exact (SeqAt.EqAt.bool_list _ py.isList hu)
      | tup ds2 =>
        obtain ⟨ay, xsy, rfl, hy1, hy2⟩ := ry.tup_sq; cases vy; obtain ⟨itsy, ry', py, _⟩ := I.tuple hy1
        exact (SeqAt.EqAt.bool_tuple _ py hu)
    | int z1 =>
      rw [rx.int_inv] at vx; obtain ⟨tx, rfl⟩ := vx
      cases dy with
      | dic z0 z1 z2 => exact absurd hb.2 (by simp [depD])
      | non =>
        rw [ry.non_inv] at vy; cases vy
        exact (SeqAt.EqAt.int_none _ _)
      | bl z2 =>
        rw [ry.bl_inv] at vy; cases vy
        exact (SeqAt.EqAt.int_bool _ _ _)
      | int z2 =>
        rw [ry.int_inv] at vy; obtain ⟨ty, rfl⟩ := vy
        exact (SeqAt.EqAt.int_int _ _ _ _)
      | str z2 =>
        rw [ry.str_inv] at vy; obtain ⟨ty, rfl⟩ := vy
        exact (SeqAt.EqAt.int_str _ _ _ _)
      | lst ds2 =>
        obtain ⟨ay, xsy, rfl, hy1, hy2⟩ := ry.lst_inv; cases vy; obtain ⟨itsy, ry', py, _⟩ := I.list hy1
        exact (SeqAt.EqAt.int_list _ _ py.isList hu)
      | tup ds2 =>
        obtain ⟨ay, xsy, rfl, hy1, hy2⟩ := ry.tup_sq; cases vy; obtain ⟨itsy, ry', py, _⟩ := I.tuple hy1
        exact (SeqAt.EqAt.int_tuple _ _ py hu)
    | str z1 =>
      rw [rx.str_inv] at vx; obtain ⟨tx, rfl⟩ := vx
      cases dy with
      | dic z0 z1 z2 => exact absurd hb.2 (by simp [depD])
      | non =>
        rw [ry.non_inv] at vy; cases vy
        exact (SeqAt.EqAt.str_none _ _)
      | bl z2 =>
        rw [ry.bl_inv] at vy; cases vy
        exact (SeqAt.EqAt.str_bool _ _ _)
      | int z2 =>
        rw [ry.int_inv] at vy; obtain ⟨ty, rfl⟩ := vy
        exact (SeqAt.EqAt.str_int _ _ _ _)
      | str z2 =>
        rw [ry.str_inv] at vy; obtain ⟨ty, rfl⟩ := vy
        exact (SeqAt.EqAt.str_str _ _ _ _)
      | lst ds2 =>
        obtain ⟨ay, xsy, rfl, hy1, hy2⟩ := ry.lst_inv; cases vy; obtain ⟨itsy, ry', py, _⟩ := I.list hy1
        exact (SeqAt.EqAt.str_list _ _ py.isList hu)
      | tup ds2 =>
        obtain ⟨ay, xsy, rfl, hy1, hy2⟩ := ry.tup_sq; cases vy; obtain ⟨itsy, ry', py, _⟩ := I.tuple hy1
        exact (SeqAt.EqAt.str_tuple _ _ py hu)
    | lst ds1 =>
      obtain ⟨ax, xsx, rfl, hx1, hx2⟩ := rx.lst_inv; cases vx; obtain ⟨itsx, rx', px, _⟩ := I.list hx1
      cases dy with
      | dic z0 z1 z2 => exact absurd hb.2 (by simp [depD])
      | non =>
        rw [ry.non_inv] at vy; cases vy
        exact (SeqAt.EqAt.list_none px.isList hu)
      | bl z2 =>
        rw [ry.bl_inv] at vy; cases vy
        exact (SeqAt.EqAt.list_bool _ px.isList hu)
      | int z2 =>
        rw [ry.int_inv] at vy; obtain ⟨ty, rfl⟩ := vy
        exact (SeqAt.EqAt.list_int _ _ px.isList hu)
      | str z2 =>
        rw [ry.str_inv] at vy; obtain ⟨ty, rfl⟩ := vy
        exact (SeqAt.EqAt.list_str _ _ px.isList hu)
      | lst ds2 =>
        obtain ⟨ay, xsy, rfl, hy1, hy2⟩ := ry.lst_inv; cases vy; obtain ⟨itsy, ry', py, _⟩ := I.list hy1
        by_cases hab : ax = ay
        · subst hab
          have hxy : ds1 = ds2 := (Dens.inj I (by simp only [depD] at hb; omega) (by simp only [depD] at hb; omega) hx2 (by rw [I.list_inj hx1 hy1]; exact hy2))
          subst hxy
          have e1 : eqD (D.lst ds1) (D.lst ds1) = true := eqD_refl _
          rw [e1]
          exact SeqAt.EqAt.same _
        · exact SeqAt.EqAt.of_refs hab (rc_lst I hu px py rx' ry' hx2 hy2 (items_of ih (by simp only [depD] at hd; exact depDs_le.mp (by omega)) (by simp only [depD] at hb; exact ⟨depDs_le.mp (by omega), depDs_le.mp (by omega)⟩) (by omega) hx2 hy2 rx' ry'))
      | tup ds2 =>
        obtain ⟨ay, xsy, rfl, hy1, hy2⟩ := ry.tup_sq; cases vy; obtain ⟨itsy, ry', py, _⟩ := I.tuple hy1
        exact SeqAt.EqAt.of_refs (SeqAt.ne_of_list_tuple (s := s) px.isList py) (SeqAt.RcAt.list_tuple px.isList py hu)
    | tup ds1 =>
      obtain ⟨ax, xsx, rfl, hx1, hx2⟩ := rx.tup_sq; cases vx; obtain ⟨itsx, rx', px, _⟩ := I.tuple hx1
      cases dy with
      | dic z0 z1 z2 => exact absurd hb.2 (by simp [depD])
      | non =>
        rw [ry.non_inv] at vy; cases vy
        exact (SeqAt.EqAt.tuple_none px hu)
      | bl z2 =>
        rw [ry.bl_inv] at vy; cases vy
        exact (SeqAt.EqAt.tuple_bool _ px hu)
      | int z2 =>
        rw [ry.int_inv] at vy; obtain ⟨ty, rfl⟩ := vy
        exact (SeqAt.EqAt.tuple_int _ _ px hu)
      | str z2 =>
        rw [ry.str_inv] at vy; obtain ⟨ty, rfl⟩ := vy
        exact (SeqAt.EqAt.tuple_str _ _ px hu)
      | lst ds2 =>
        obtain ⟨ay, xsy, rfl, hy1, hy2⟩ := ry.lst_inv; cases vy; obtain ⟨itsy, ry', py, _⟩ := I.list hy1
        exact SeqAt.EqAt.of_refs ((SeqAt.ne_of_list_tuple (s := s) py.isList px).symm) (SeqAt.RcAt.tuple_list px py.isList hu)
      | tup ds2 =>
        obtain ⟨ay, xsy, rfl, hy1, hy2⟩ := ry.tup_sq; cases vy; obtain ⟨itsy, ry', py, _⟩ := I.tuple hy1
        by_cases hab : ax = ay
        · subst hab
          have hxy : ds1 = ds2 := (Dens.inj I (by simp only [depD] at hb; omega) (by simp only [depD] at hb; omega) hx2 (by rw [I.tuple_inj hx1 hy1]; exact hy2))
          subst hxy
          have e1 : eqD (D.tup ds1) (D.tup ds1) = true := eqD_refl _
          rw [e1]
          exact SeqAt.EqAt.same _
        · exact SeqAt.EqAt.of_refs hab (rc_tup I hu px py rx' ry' hx2 hy2 (items_of ih (by simp only [depD] at hd; exact depDs_le.mp (by omega)) (by simp only [depD] at hb; exact ⟨depDs_le.mp (by omega), depDs_le.mp (by omega)⟩) (by omega) hx2 hy2 rx' ry'))
theorem rc_at (I : Inv X pins σ H s) {n : Nat} {A : Around} {dx dy : D} {x y : V} {v u : Value} (hd : depD dx ≤ n + 1) (hb : depD dx ≤ 30 ∧ depD dy ≤ 30) (hu0 : A.units + (n + 1) < cLine) (rx : Den X.K H dx x) (ry : Den X.K H dy y) (vx : RelV x v) (vy : RelV y u) : SeqAt.RcAt A s v u (eqD dx dy) := by
  have hu : A.units < cLine := by omega
  cases dx with
  | dic z0 z1 z2 => exact absurd hb.1 (by simp [depD])
  | non =>
    rw [rx.non_inv] at vx; cases vx
    cases dy with
    | dic z0 z1 z2 => exact absurd hb.2 (by simp [depD])
    | non =>
      rw [ry.non_inv] at vy; cases vy
      exact (SeqAt.RcAt.none_none)
    | bl z2 =>
      rw [ry.bl_inv] at vy; cases vy
      exact (SeqAt.RcAt.none_bool _)
    | int z2 =>
      rw [ry.int_inv] at vy; obtain ⟨ty, rfl⟩ := vy
      exact (SeqAt.RcAt.none_int _ _)
    | str z2 =>
      rw [ry.str_inv] at vy; obtain ⟨ty, rfl⟩ := vy
      exact (SeqAt.RcAt.none_str _ _)
    | lst ds2 =>
      obtain ⟨ay, xsy, rfl, hy1, hy2⟩ := ry.lst_inv; cases vy; obtain ⟨itsy, ry', py, _⟩ := I.list hy1
      exact (SeqAt.RcAt.none_list py.isList hu)
    | tup ds2 =>
      obtain ⟨ay, xsy, rfl, hy1, hy2⟩ := ry.tup_sq; cases vy; obtain ⟨itsy, ry', py, _⟩ := I.tuple hy1
      exact (SeqAt.RcAt.none_tuple py hu)
  | bl z1 =>
    rw [rx.bl_inv] at vx; cases vx
    cases dy with
    | dic z0 z1 z2 => exact absurd hb.2 (by simp [depD])
    | non =>
      rw [ry.non_inv] at vy; cases vy
      exact (SeqAt.RcAt.bool_none _)
    | bl z2 =>
      rw [ry.bl_inv] at vy; cases vy
      exact (SeqAt.RcAt.bool_bool _ _)
    | int z2 =>
      rw [ry.int_inv] at vy; obtain ⟨ty, rfl⟩ := vy
      exact (SeqAt.RcAt.bool_int _ _ _)
    | str z2 =>
      rw [ry.str_inv] at vy; obtain ⟨ty, rfl⟩ := vy
      exact (SeqAt.RcAt.bool_str _ _ _)
    | lst ds2 =>
      obtain ⟨ay, xsy, rfl, hy1, hy2⟩ := ry.lst_inv; cases vy; obtain ⟨itsy, ry', py, _⟩ := I.list hy1
      exact (SeqAt.RcAt.bool_list _ py.isList hu)
    | tup ds2 =>
      obtain ⟨ay, xsy, rfl, hy1, hy2⟩ := ry.tup_sq; cases vy; obtain ⟨itsy, ry', py, _⟩ := I.tuple hy1
      exact (SeqAt.RcAt.bool_tuple _ py hu)
  | int z1 =>
    rw [rx.int_inv] at vx; obtain ⟨tx, rfl⟩ := vx
    cases dy with
    | dic z0 z1 z2 => exact absurd hb.2 (by simp [depD])
    | non =>
      rw [ry.non_inv] at vy; cases vy
      exact (SeqAt.RcAt.int_none _ _)
    | bl z2 =>
      rw [ry.bl_inv] at vy; cases vy
      exact (SeqAt.RcAt.int_bool _ _ _)
    | int z2 =>
      rw [ry.int_inv] at vy; obtain ⟨ty, rfl⟩ := vy
      exact (SeqAt.RcAt.int_int _ _ _ _)
    | str z2 =>
      rw [ry.str_inv] at vy; obtain ⟨ty, rfl⟩ := vy
      exact (SeqAt.RcAt.int_str _ _ _ _)
    | lst ds2 =>
      obtain ⟨ay, xsy, rfl, hy1, hy2⟩ := ry.lst_inv; cases vy; obtain ⟨itsy, ry', py, _⟩ := I.list hy1
      exact (SeqAt.RcAt.int_list _ _ py.isList hu)
    | tup ds2 =>
      obtain ⟨ay, xsy, rfl, hy1, hy2⟩ := ry.tup_sq; cases vy; obtain ⟨itsy, ry', py, _⟩ := I.tuple hy1
      exact (SeqAt.RcAt.int_tuple _ _ py hu)
  | str z1 =>
    rw [rx.str_inv] at vx; obtain ⟨tx, rfl⟩ := vx
    cases dy with
    | dic z0 z1 z2 => exact absurd hb.2 (by simp [depD])
    | non =>
      rw [ry.non_inv] at vy; cases vy
      exact (SeqAt.RcAt.str_none _ _)
    | bl z2 =>
      rw [ry.bl_inv] at vy; cases vy
      exact (SeqAt.RcAt.str_bool _ _ _)
    | int z2 =>
      rw [ry.int_inv] at vy; obtain ⟨ty, rfl⟩ := vy
      exact (SeqAt.RcAt.str_int _ _ _ _)
    | str z2 =>
      rw [ry.str_inv] at vy; obtain ⟨ty, rfl⟩ := vy
      exact (SeqAt.RcAt.str_str _ _ _ _)
    | lst ds2 =>
      obtain ⟨ay, xsy, rfl, hy1, hy2⟩ := ry.lst_inv; cases vy; obtain ⟨itsy, ry', py, _⟩ := I.list hy1
      exact (SeqAt.RcAt.str_list _ _ py.isList hu)
    | tup ds2 =>
      obtain ⟨ay, xsy, rfl, hy1, hy2⟩ := ry.tup_sq; cases vy; obtain ⟨itsy, ry', py, _⟩ := I.tuple hy1
      exact (SeqAt.RcAt.str_tuple _ _ py hu)
  | lst ds1 =>
    obtain ⟨ax, xsx, rfl, hx1, hx2⟩ := rx.lst_inv; cases vx; obtain ⟨itsx, rx', px, _⟩ := I.list hx1
    cases dy with
    | dic z0 z1 z2 => exact absurd hb.2 (by simp [depD])
    | non =>
      rw [ry.non_inv] at vy; cases vy
      exact (SeqAt.RcAt.list_none px.isList hu)
    | bl z2 =>
      rw [ry.bl_inv] at vy; cases vy
      exact (SeqAt.RcAt.list_bool _ px.isList hu)
    | int z2 =>
      rw [ry.int_inv] at vy; obtain ⟨ty, rfl⟩ := vy
      exact (SeqAt.RcAt.list_int _ _ px.isList hu)
    | str z2 =>
      rw [ry.str_inv] at vy; obtain ⟨ty, rfl⟩ := vy
      exact (SeqAt.RcAt.list_str _ _ px.isList hu)
    | lst ds2 =>
      obtain ⟨ay, xsy, rfl, hy1, hy2⟩ := ry.lst_inv; cases vy; obtain ⟨itsy, ry', py, _⟩ := I.list hy1
      exact rc_lst I hu px py rx' ry' hx2 hy2 (items_of (el_at I n) (by simp only [depD] at hd; exact depDs_le.mp (by omega)) (by simp only [depD] at hb; exact ⟨depDs_le.mp (by omega), depDs_le.mp (by omega)⟩) (by omega) hx2 hy2 rx' ry')
    | tup ds2 =>
      obtain ⟨ay, xsy, rfl, hy1, hy2⟩ := ry.tup_sq; cases vy; obtain ⟨itsy, ry', py, _⟩ := I.tuple hy1
      exact (SeqAt.RcAt.list_tuple px.isList py hu)
  | tup ds1 =>
    obtain ⟨ax, xsx, rfl, hx1, hx2⟩ := rx.tup_sq; cases vx; obtain ⟨itsx, rx', px, _⟩ := I.tuple hx1
    cases dy with
    | dic z0 z1 z2 => exact absurd hb.2 (by simp [depD])
    | non =>
      rw [ry.non_inv] at vy; cases vy
      exact (SeqAt.RcAt.tuple_none px hu)
    | bl z2 =>
      rw [ry.bl_inv] at vy; cases vy
      exact (SeqAt.RcAt.tuple_bool _ px hu)
    | int z2 =>
      rw [ry.int_inv] at vy; obtain ⟨ty, rfl⟩ := vy
      exact (SeqAt.RcAt.tuple_int _ _ px hu)
    | str z2 =>
      rw [ry.str_inv] at vy; obtain ⟨ty, rfl⟩ := vy
      exact (SeqAt.RcAt.tuple_str _ _ px hu)
    | lst ds2 =>
      obtain ⟨ay, xsy, rfl, hy1, hy2⟩ := ry.lst_inv; cases vy; obtain ⟨itsy, ry', py, _⟩ := I.list hy1
      exact (SeqAt.RcAt.tuple_list px py.isList hu)
    | tup ds2 =>
      obtain ⟨ay, xsy, rfl, hy1, hy2⟩ := ry.tup_sq; cases vy; obtain ⟨itsy, ry', py, _⟩ := I.tuple hy1
      exact rc_tup I hu px py rx' ry' hx2 hy2 (items_of (el_at I n) (by simp only [depD] at hd; exact depDs_le.mp (by omega)) (by simp only [depD] at hb; exact ⟨depDs_le.mp (by omega), depDs_le.mp (by omega)⟩) (by omega) hx2 hy2 rx' ry')
theorem rn_at (I : Inv X pins σ H s) {n : Nat} {A : Around} {dx dy : D} {x y : V} {v u : Value} (hd : depD dx ≤ n + 1) (hb : depD dx ≤ 30 ∧ depD dy ≤ 30) (hu0 : A.units + (n + 1) < cLine) (rx : Den X.K H dx x) (ry : Den X.K H dy y) (vx : RelV x v) (vy : RelV y u) : SeqAt.RcNeAt A s v u (!eqD dx dy) := by
  have hu : A.units < cLine := by omega
  cases dx with
  | dic z0 z1 z2 => exact absurd hb.1 (by simp [depD])
  | non =>
    rw [rx.non_inv] at vx; cases vx
    cases dy with
    | dic z0 z1 z2 => exact absurd hb.2 (by simp [depD])
    | non =>
      rw [ry.non_inv] at vy; cases vy
      exact (SeqAt.RcNeAt.none_none)
    | bl z2 =>
      rw [ry.bl_inv] at vy; cases vy
      exact (SeqAt.RcNeAt.none_bool _)
    | int z2 =>
      rw [ry.int_inv] at vy; obtain ⟨ty, rfl⟩ := vy
      exact (SeqAt.RcNeAt.none_int _ _)
    | str z2 =>
      rw [ry.str_inv] at vy; obtain ⟨ty, rfl⟩ := vy
      exact (SeqAt.RcNeAt.none_str _ _)
    | lst ds2 =>
      obtain ⟨ay, xsy, rfl, hy1, hy2⟩ := ry.lst_inv; cases vy; obtain ⟨itsy, ry', py, _⟩ := I.list hy1
      exact (SeqAt.RcNeAt.none_list py.isList hu)
    | tup ds2 =>
      obtain ⟨ay, xsy, rfl, hy1, hy2⟩ := ry.tup_sq; cases vy; obtain ⟨itsy, ry', py, _⟩ := I.tuple hy1
      exact (SeqAt.RcNeAt.none_tuple py hu)
  | bl z1 =>
    rw [rx.bl_inv] at vx; cases vx
    cases dy with
    | dic z0 z1 z2 => exact absurd hb.2 (by simp [depD])
    | non =>
      rw [ry.non_inv] at vy; cases vy
      exact (SeqAt.RcNeAt.bool_none _)
    | bl z2 =>
      rw [ry.bl_inv] at vy; cases vy
      exact (SeqAt.RcNeAt.bool_bool _ _)
    | int z2 =>
      rw [ry.int_inv] at vy; obtain ⟨ty, rfl⟩ := vy
      exact (SeqAt.RcNeAt.bool_int _ _ _)
    | str z2 =>
      rw [ry.str_inv] at vy; obtain ⟨ty, rfl⟩ := vy
      exact (SeqAt.RcNeAt.bool_str _ _ _)
    | lst ds2 =>
      obtain ⟨ay, xsy, rfl, hy1, hy2⟩ := ry.lst_inv; cases vy; obtain ⟨itsy, ry', py, _⟩ := I.list hy1
      exact (SeqAt.RcNeAt.bool_list _ py.isList hu)
    | tup ds2 =>
      obtain ⟨ay, xsy, rfl, hy1, hy2⟩ := ry.tup_sq; cases vy; obtain ⟨itsy, ry', py, _⟩ := I.tuple hy1
      exact (SeqAt.RcNeAt.bool_tuple _ py hu)
  | int z1 =>
    rw [rx.int_inv] at vx; obtain ⟨tx, rfl⟩ := vx
    cases dy with
    | dic z0 z1 z2 => exact absurd hb.2 (by simp [depD])
    | non =>
      rw [ry.non_inv] at vy; cases vy
      exact (SeqAt.RcNeAt.int_none _ _)
    | bl z2 =>
      rw [ry.bl_inv] at vy; cases vy
      exact (SeqAt.RcNeAt.int_bool _ _ _)
    | int z2 =>
      rw [ry.int_inv] at vy; obtain ⟨ty, rfl⟩ := vy
      exact (SeqAt.RcNeAt.int_int _ _ _ _)
    | str z2 =>
      rw [ry.str_inv] at vy; obtain ⟨ty, rfl⟩ := vy
      exact (SeqAt.RcNeAt.int_str _ _ _ _)
    | lst ds2 =>
      obtain ⟨ay, xsy, rfl, hy1, hy2⟩ := ry.lst_inv; cases vy; obtain ⟨itsy, ry', py, _⟩ := I.list hy1
      exact (SeqAt.RcNeAt.int_list _ _ py.isList hu)
    | tup ds2 =>
      obtain ⟨ay, xsy, rfl, hy1, hy2⟩ := ry.tup_sq; cases vy; obtain ⟨itsy, ry', py, _⟩ := I.tuple hy1
      exact (SeqAt.RcNeAt.int_tuple _ _ py hu)
  | str z1 =>
    rw [rx.str_inv] at vx; obtain ⟨tx, rfl⟩ := vx
    cases dy with
    | dic z0 z1 z2 => exact absurd hb.2 (by simp [depD])
    | non =>
      rw [ry.non_inv] at vy; cases vy
      exact (SeqAt.RcNeAt.str_none _ _)
    | bl z2 =>
      rw [ry.bl_inv] at vy; cases vy
      exact (SeqAt.RcNeAt.str_bool _ _ _)
    | int z2 =>
      rw [ry.int_inv] at vy; obtain ⟨ty, rfl⟩ := vy
      exact (SeqAt.RcNeAt.str_int _ _ _ _)
    | str z2 =>
      rw [ry.str_inv] at vy; obtain ⟨ty, rfl⟩ := vy
      exact (SeqAt.RcNeAt.str_str _ _ _ _)
    | lst ds2 =>
      obtain ⟨ay, xsy, rfl, hy1, hy2⟩ := ry.lst_inv; cases vy; obtain ⟨itsy, ry', py, _⟩ := I.list hy1
      exact (SeqAt.RcNeAt.str_list _ _ py.isList hu)
    | tup ds2 =>
      obtain ⟨ay, xsy, rfl, hy1, hy2⟩ := ry.tup_sq; cases vy; obtain ⟨itsy, ry', py, _⟩ := I.tuple hy1
      exact (SeqAt.RcNeAt.str_tuple _ _ py hu)
  | lst ds1 =>
    obtain ⟨ax, xsx, rfl, hx1, hx2⟩ := rx.lst_inv; cases vx; obtain ⟨itsx, rx', px, _⟩ := I.list hx1
    cases dy with
    | dic z0 z1 z2 => exact absurd hb.2 (by simp [depD])
    | non =>
      rw [ry.non_inv] at vy; cases vy
      exact (SeqAt.RcNeAt.list_none px.isList hu)
    | bl z2 =>
      rw [ry.bl_inv] at vy; cases vy
      exact (SeqAt.RcNeAt.list_bool _ px.isList hu)
    | int z2 =>
      rw [ry.int_inv] at vy; obtain ⟨ty, rfl⟩ := vy
      exact (SeqAt.RcNeAt.list_int _ _ px.isList hu)
    | str z2 =>
      rw [ry.str_inv] at vy; obtain ⟨ty, rfl⟩ := vy
      exact (SeqAt.RcNeAt.list_str _ _ px.isList hu)
    | lst ds2 =>
      obtain ⟨ay, xsy, rfl, hy1, hy2⟩ := ry.lst_inv; cases vy; obtain ⟨itsy, ry', py, _⟩ := I.list hy1
      exact rn_lst I hu px py rx' ry' hx2 hy2 (items_of (el_at I n) (by simp only [depD] at hd; exact depDs_le.mp (by omega)) (by simp only [depD] at hb; exact ⟨depDs_le.mp (by omega), depDs_le.mp (by omega)⟩) (by omega) hx2 hy2 rx' ry')
    | tup ds2 =>
      obtain ⟨ay, xsy, rfl, hy1, hy2⟩ := ry.tup_sq; cases vy; obtain ⟨itsy, ry', py, _⟩ := I.tuple hy1
      exact (SeqAt.RcNeAt.list_tuple px.isList py hu)
  | tup ds1 =>
    obtain ⟨ax, xsx, rfl, hx1, hx2⟩ := rx.tup_sq; cases vx; obtain ⟨itsx, rx', px, _⟩ := I.tuple hx1
    cases dy with
    | dic z0 z1 z2 => exact absurd hb.2 (by simp [depD])
    | non =>
      rw [ry.non_inv] at vy; cases vy
      exact (SeqAt.RcNeAt.tuple_none px hu)
    | bl z2 =>
      rw [ry.bl_inv] at vy; cases vy
      exact (SeqAt.RcNeAt.tuple_bool _ px hu)
    | int z2 =>
      rw [ry.int_inv] at vy; obtain ⟨ty, rfl⟩ := vy
      exact (SeqAt.RcNeAt.tuple_int _ _ px hu)
    | str z2 =>
      rw [ry.str_inv] at vy; obtain ⟨ty, rfl⟩ := vy
      exact (SeqAt.RcNeAt.tuple_str _ _ px hu)
    | lst ds2 =>
      obtain ⟨ay, xsy, rfl, hy1, hy2⟩ := ry.lst_inv; cases vy; obtain ⟨itsy, ry', py, _⟩ := I.list hy1
      exact (SeqAt.RcNeAt.tuple_list px py.isList hu)
    | tup ds2 =>
      obtain ⟨ay, xsy, rfl, hy1, hy2⟩ := ry.tup_sq; cases vy; obtain ⟨itsy, ry', py, _⟩ := I.tuple hy1
      exact rn_tup I hu px py rx' ry' hx2 hy2 (items_of (el_at I n) (by simp only [depD] at hd; exact depDs_le.mp (by omega)) (by simp only [depD] at hb; exact ⟨depDs_le.mp (by omega), depDs_le.mp (by omega)⟩) (by omega) hx2 hy2 rx' ry')
end
end DL

set_option Elab.async false
set_option linter.all false
set_option maxRecDepth 100000
namespace DL
open PySem PySem.Spec PyProof.Rows L2
section
variable {X : Cx} {a b c e : Expr} {es : List Expr} {ma mb mc md me : ME} {pos p p2 p3 : Pos}

theorem od_eq (hu : X.A.units + 64 < cLine) : OpD X (compareOp .Eq) oEq := by
  refine ⟨fun x y H Q => ∃ dx dy, Den X.K H dx x ∧ Den X.K H dy y ∧ (depD dx ≤ 30 ∧ depD dy ≤ 30) ∧ Q (.bl (eqD dx dy)) H, ?_, fun os H L dx dy d x y Q rx ry m k => ?_⟩
  · intro pins s σ H x y v u Q I rx ry h
    obtain ⟨dx, dy, d1, d2, hd, q⟩ := h
    exact rc_at (n := 30) I (Nat.le_succ_of_le hd.1) hd (by omega) d1 d2 rx ry X.prog X.w X.xe _ ⟨.bl _, H, I, rfl, q⟩
  · unfold oEq at m
    split at m
    · rename_i hd
      cases m
      exact ⟨dx, dy, rx.up, ry.up, hd, k _ H (Same.refl _) (.bl _)⟩
    · cases m
theorem od_ne (hu : X.A.units + 64 < cLine) : OpD X (compareOp .NotEq) oNe := by
  refine ⟨fun x y H Q => ∃ dx dy, Den X.K H dx x ∧ Den X.K H dy y ∧ (depD dx ≤ 30 ∧ depD dy ≤ 30) ∧ Q (.bl (!eqD dx dy)) H, ?_, fun os H L dx dy d x y Q rx ry m k => ?_⟩
  · intro pins s σ H x y v u Q I rx ry h
    obtain ⟨dx, dy, d1, d2, hd, q⟩ := h
    exact rn_at (n := 30) I (Nat.le_succ_of_le hd.1) hd (by omega) d1 d2 rx ry X.prog X.w X.xe _ ⟨.bl _, H, I, rfl, q⟩
  · unfold oNe at m
    split at m
    · rename_i hd
      cases m
      exact ⟨dx, dy, rx.up, ry.up, hd, k _ H (Same.refl _) (.bl _)⟩
    · cases m
open Classical in
noncomputable def eqVal (K : PySem.W.Frag) (H : Hp) (dx : D) (u : Value) : Bool := if h : ∃ d v, (RelV v u ∧ depD d ≤ 30) ∧ Den K H d v then eqD (Classical.choose h) dx else false
theorem eqVal_of {pins : List (Addr × Obj)} {σ : L2.St} {H : Hp} {s : Shared} (I : Inv X pins σ H s) {dx d : D} {v : V} {u : Value} (r : RelV v u) (hd : depD d ≤ 30) (h : Den X.K H d v) : eqVal X.K H dx u = eqD d dx := by
  have hx : ∃ d v, (RelV v u ∧ depD d ≤ 30) ∧ Den X.K H d v := ⟨d, v, ⟨r, hd⟩, h⟩
  unfold eqVal
  rw [dif_pos hx]
  obtain ⟨v', ⟨r', hd'⟩, h'⟩ := Classical.choose_spec hx
  rw [RelV.inj r' r] at h'
  rw [Den.inj I hd' hd h' h]
theorem any_eqVal {pins : List (Addr × Obj)} {σ : L2.St} {H : Hp} {s : Shared} (I : Inv X pins σ H s) {dx : D} : ∀ {ds : List D} {xs : List V} {us : List Value}, (∀ d ∈ ds, depD d ≤ 30) → Dens X.K H ds xs → Vals xs us → us.any (eqVal X.K H dx) = ds.any fun y => eqD y dx
  | [], _, _, _, h, r => by rw [h.unnil] at r; cases r; rfl
  | d :: ds, _, _, hd, h, r => by
    obtain ⟨x, t, rfl, h1, h2⟩ := h.uncons
    cases r with
    | cons r1 r2 => rw [List.any_cons, List.any_cons, eqVal_of I r1 (hd d List.mem_cons_self) h1, any_eqVal I (fun d' h' => hd d' (List.mem_cons_of_mem _ h')) h2 r2]
theorem mem_eqVal {A : Around} {pins : List (Addr × Obj)} {σ : L2.St} {H : Hp} {s : Shared} (I : Inv X pins σ H s) (hu : A.units + 40 < cLine) {dx : D} {x : V} {v : Value} (rx : RelV x v) (hx : Den X.K H dx x) (hxd : depD dx ≤ 30) : ∀ {ds : List D} {xs : List V} {us : List Value}, (∀ d ∈ ds, depD d ≤ 30) → Dens X.K H ds xs → Vals xs us → ∀ u ∈ us, SeqAt.EqAt A s u v (eqVal X.K H dx u)
  | [], _, _, _, h, r => fun u hm => by rw [h.unnil] at r; cases r; cases hm
  | d :: ds, _, _, hd, h, r => fun u hm => by
    obtain ⟨y, t, rfl, h1, h2⟩ := h.uncons
    cases r with
    | cons r1 r2 =>
      rcases List.mem_cons.mp hm with rfl | hm
      · rw [eqVal_of I r1 (hd d List.mem_cons_self) h1]
        exact el_at I 30 A d dx y x u v (hd d List.mem_cons_self) ⟨hd d List.mem_cons_self, hxd⟩ (by omega) h1 hx r1 rx
      · exact mem_eqVal I hu rx hx hxd (fun d' h' => hd d' (List.mem_cons_of_mem _ h')) h2 r2 u hm
theorem od_in (hu : X.A.units + 64 < cLine) : OpD X (compareOp .In) oIn := by
  have hu1 : X.A.in1.units + 40 < cLine := by show X.A.units + 1 + 40 < cLine; omega
  refine ⟨fun x y H Q => (∃ i j, x = V.str i ∧ y = V.str j ∧ Q (.bl (!(Builtin.Str.occurrences j i 0 j.length 1).isEmpty)) H) ∨ ∃ dx p ds xs, Den X.K H dx x ∧ y = .ref p ∧ (SqL X.K H p xs ∨ SqT X.K H p xs) ∧ Dens X.K H ds xs ∧ (depDs ds ≤ 30 ∧ depD dx ≤ 30) ∧ Q (.bl (ds.any fun y => eqD y dx)) H, ?_, fun os H L dx dy d x y Q rx ry m k => ?_⟩
  · intro pins s σ H x y v u Q I rx ry h
    rcases h with h | h
    · exact op_in_str pins s σ H x y v u Q I rx ry h
    obtain ⟨dx, p, ds, xs, hx, rfl, hq, hs, hd, q⟩ := h
    cases ry
    have hd' := depDs_le.mp hd.1
    rcases hq with hq | hq
    · obtain ⟨its, r, pl, hz⟩ := I.list hq
      refine SeqAt.in_listAt (eqVal X.K H dx) pl.isList (fun w hw => mem_eqVal I hu1 rx hx hd.2 hd' hs r w (by simpa using hw)) ⟨.bl _, H, I, rfl, ?_⟩
      rw [show its.toArray.any (eqVal X.K H dx) = its.any (eqVal X.K H dx) by simp, any_eqVal I hd' hs r]
      exact q
    · obtain ⟨its, r, pl, hz⟩ := I.tuple hq
      refine SeqAt.in_tupleAt (eqVal X.K H dx) pl (fun w hw => mem_eqVal I hu1 rx hx hd.2 hd' hs r w (by simpa using hw)) ⟨.bl _, H, I, rfl, ?_⟩
      rw [show its.toArray.any (eqVal X.K H dx) = its.any (eqVal X.K H dx) by simp, any_eqVal I hd' hs r]
      exact q
  · cases dy with
    | tup ys =>
      have m' : (if depDs ys ≤ 30 ∧ depD dx ≤ 30 then some (D.bl (ys.any fun y => eqD y dx)) else none) = some d := m
      split at m'
      · rename_i hd
        cases m'
        obtain ⟨p, xs, rfl, h1, h2⟩ := ry.tup_up
        exact .inr ⟨dx, p, ys, xs, rx.up, rfl, .inr h1, h2.up, hd, k _ H (Same.refl _) (.bl _)⟩
      · cases m'
    | lst ys =>
      have m' : (if depDs ys ≤ 30 ∧ depD dx ≤ 30 then some (D.bl (ys.any fun y => eqD y dx)) else none) = some d := m
      split at m'
      · rename_i hd
        cases m'
        obtain ⟨p, xs, rfl, h1, h2⟩ := ry.lst_up
        exact .inr ⟨dx, p, ys, xs, rx.up, rfl, .inl h1, h2.up, hd, k _ H (Same.refl _) (.bl _)⟩
      · cases m'
    | str y =>
      cases dx with
      | str x => cases m; exact .inl ⟨x, y, rx.str_inv, ry.str_inv, k _ H (Same.refl _) (.bl _)⟩
      | _ => cases m
    | _ => cases dx <;> cases m
def tyN : Ty → String
  | .int => "int" | .bool => "bool" | .str => "str" | .list => "list" | .tuple => "tuple"
theorem call_isi (t : Ty) : CallR X (.builtin "isinstance") (fun xs H Q => ∃ x d, xs = [x, .ty (tyN t)] ∧ Den X.K H d x ∧ Q (.bl (isI t d)) H) := by
  intro pins s σ H xs us Q I r h
  obtain ⟨x, d, rfl, hd, q⟩ := h
  obtain ⟨u, w', rfl, rx, rw'⟩ := vals2 r
  cases rw'
  have fin : ∀ tk, EP X pins σ Q (.bool (isI t d)) { s with toks := tk } := fun tk => ⟨.bl _, H, I.tok tk, rfl, q⟩
  cases d with
  | non =>
    rw [hd.non_inv] at rx; cases rx
    cases t <;> exact PySem.W.kia_one PySem.W.kitx_none I.kIn True.intro (by rfl) (fun z => nomatch z) fin
  | bl z =>
    rw [hd.bl_inv] at rx; cases rx
    cases t <;> exact PySem.W.kia_one PySem.W.kitx_bool I.kIn True.intro (by rfl) (fun z => nomatch z) fin
  | int z =>
    rw [hd.int_inv] at rx; obtain ⟨tt, rfl⟩ := rx
    cases t <;> exact PySem.W.kia_one PySem.W.kitx_int I.kIn True.intro (by rfl) (fun z => nomatch z) fin
  | str z =>
    rw [hd.str_inv] at rx; obtain ⟨tt, rfl⟩ := rx
    cases t <;> exact PySem.W.kia_one PySem.W.kitx_str I.kIn True.intro (by rfl) (fun z => nomatch z) fin
  | tup ds =>
    obtain ⟨aa, xs, rfl, h1, _⟩ := hd.tup_sq; cases rx
    obtain ⟨its, _, ⟨o, e1, e2, _⟩, _⟩ := I.tuple h1
    cases t <;> exact PySem.W.kia_one PySem.W.kitx_tuple I.kIn ⟨o, e1, e2⟩ (by rfl) (fun z => nomatch z) fin
  | lst ds =>
    obtain ⟨aa, xs, rfl, h1, _⟩ := hd.lst_inv; cases rx
    obtain ⟨its, _, ⟨o, n, e1, e2, _⟩, _⟩ := I.list h1
    cases t <;> exact PySem.W.kia_one PySem.W.kitx_list I.kIn ⟨o, e1, e2⟩ (by rfl) (fun z => nomatch z) fin
  | dic tk ks ds =>
    obtain ⟨aa, xs, rfl, h1, _⟩ := hd.dic_inv; cases rx
    have z : ∃ o, s.heap.get? aa = some o ∧ o.cls = .type "dict" := by
      rcases h1 with ⟨_, _, kvs, h1, _⟩ | ⟨_, _, kvs, h1, _⟩
      · obtain ⟨_, _, _, _, _, o, _, _, e, ex, _⟩ := I.hok aa _ h1
        exact ⟨o, e, ex.1⟩
      · obtain ⟨_, _, _, _, _, o, _, _, e, ex, _⟩ := I.hok aa _ h1
        exact ⟨o, e, ex.1⟩
    cases t <;> exact PySem.W.kia_one PySem.W.kitx_dict I.kIn z (by rfl) (fun z => nomatch z) fin
theorem de_isi (t : Ty) {tn : Str} (hg : Gl X "isinstance") (hm : X.mg "isinstance" = none) (hgT : Gl X tn) (hmT : X.mg tn = none) (hv : bootBuiltins tn = some (.type (tyN t))) (ha : DE X a ma) (hn : tn ≠ "__name__" := by decide) (hd : (tn == ("__debug__" : Str)) = false := by decide)
    (h1 : starEach [a, .Name tn p2] X.env = (false, eval a X.env) :: starEach [.Name tn p2] X.env := by rfl) (h2 : starEach [.Name tn p2] X.env = (false, eval (.Name tn p2) X.env) :: starEach [] X.env := by rfl)
    (hpl : (backTo pos (starEach [.Name tn p2] X.env)).any (·.1) = false := by rfl) :
    DE X (.Call (.Name "isinstance" p) [a, .Name tn p2] [] pos) (eCall (fIs t) (aCons ma aNil)) := by
  obtain ⟨ta, pa, qa⟩ := ha
  have hT : PE X (.Name tn p2) (L2.tC (.ty (tyN t))) := pe_bltn hgT hmT hv rfl hn hd
  refine ⟨_, pe_callB (call_isi t) hg hm (by rfl) (pa_cons pa (pa_cons hT pa_nil h2) h1) (by decide) (by decide) h1 hpl, fun os σ H δ d Q s m kq => ?_⟩
  rw [call1] at m
  obtain ⟨dx, e1, m⟩ := bind_inv m
  cases m
  exact qa os σ H δ dx _ s e1 fun x H1 g1 r1 => ⟨x, dx, rfl, r1.up, kq _ H1 g1 (.bl _)⟩
theorem one_of {K : PySem.W.Frag} {H : Hp} {d : D} {vs : List V} (h : Dens K H [d] vs) : ∃ v, vs = [v] ∧ Den K H d v := by
  obtain ⟨x, r, rfl, h1, h2⟩ := h.uncons
  exact ⟨x, by rw [h2.unnil], h1⟩
theorem callR_or {f : Value} {r r' : List V → Hp → VK → Prop} (a : CallR X f r) (b : CallR X f r') : CallR X f (fun xs H Q => r xs H Q ∨ r' xs H Q) := fun pins s σ H xs us Q I rel h => by
  rcases h with h | h
  · exact a pins s σ H xs us Q I rel h
  · exact b pins s σ H xs us Q I rel h
theorem cd_len : CallD X (.builtin "len") fLen := by
  refine ⟨_, callR_or call_len_seq call_len_str, fun os H L ds d vs Q r m k => ?_⟩
  match ds, m with
  | [.tup xs], m =>
    cases m
    obtain ⟨v, rfl, h⟩ := one_of r
    obtain ⟨p, ys, rfl, h1, h2⟩ := h.tup_up
    exact .inl ⟨p, ys, rfl, .inr h1, by rw [← h2.length]; exact k _ H (Same.refl _) (.int _)⟩
  | [.lst xs], m =>
    cases m
    obtain ⟨v, rfl, h⟩ := one_of r
    obtain ⟨p, ys, rfl, h1, h2⟩ := h.lst_up
    exact .inl ⟨p, ys, rfl, .inl h1, by rw [← h2.length]; exact k _ H (Same.refl _) (.int _)⟩
  | [.str x], m =>
    have m' : (if x.length ≤ 16777216 then some (D.int x.length) else none) = some d := m
    split at m'
    · rename_i hz
      cases m'
      obtain ⟨v, rfl, h⟩ := one_of r
      exact .inr ⟨x, by rw [h.str_inv], by rw [lim_eq]; exact hz, k _ H (Same.refl _) (.int _)⟩
    · cases m'
theorem cd_list : CallD X (.type "list") fList := by
  refine ⟨_, call_list_of, fun os H L ds d vs Q r m k => ?_⟩
  match ds, m with
  | [.tup xs], m =>
    cases m
    obtain ⟨v, rfl, h⟩ := one_of r
    obtain ⟨p, ys, rfl, h1, h2⟩ := h.tup_up
    refine ⟨p, ys, rfl, .inr h1, fun l hl => ?_⟩
    exact k _ _ (same_new hl (.lst ys)) (.newL L hl h2)
  | [.lst xs], m =>
    cases m
    obtain ⟨v, rfl, h⟩ := one_of r
    obtain ⟨p, ys, rfl, h1, h2⟩ := h.lst_up
    refine ⟨p, ys, rfl, .inl h1, fun l hl => ?_⟩
    exact k _ _ (same_new hl (.lst ys)) (.newL L hl h2)
theorem cd_tuple : CallD X (.type "tuple") fTuple := by
  refine ⟨_, call_tuple_of, fun os H L ds d vs Q r m k => ?_⟩
  match ds, m with
  | [.tup xs], m =>
    cases m
    obtain ⟨v, rfl, h⟩ := one_of r
    obtain ⟨p, ys, rfl, h1, h2⟩ := h.tup_up
    exact ⟨p, ys, rfl, .inr ⟨h1, k _ H (Same.refl _) h⟩⟩
  | [.lst xs], m =>
    cases m
    obtain ⟨v, rfl, h⟩ := one_of r
    obtain ⟨p, ys, rfl, h1, h2⟩ := h.lst_up
    refine ⟨p, ys, rfl, .inl ⟨h1, fun l hl => ?_⟩⟩
    exact k _ _ (same_new hl (.tup ys)) (.newT L hl h2)
theorem call_allL (hc : X.calm = true) : CallR X (.builtin "all") (fun xs H Q => ∃ (p : Addr) (bs : List Bool), xs = [.ref p] ∧ SqL X.K H p (bs.map V.bl) ∧ Q (.bl (bs.all id)) H) := by
  intro pins s σ H xs us Q I r h
  obtain ⟨p, bs, rfl, hq, q⟩ := h
  obtain ⟨u, rfl, ru⟩ := vals1 r
  cases ru
  obtain ⟨its, rv, pl, hz⟩ := I.list hq
  have hlen : its.length = bs.length := by rw [← rv.length, List.length_map]
  have hne : p ≠ s.heap.objs.size := fun e => by
    obtain ⟨o, ho, _⟩ := pl.isList
    rw [e] at ho
    exact absurd (Heap.lt_size ho) (Nat.lt_irrefl _)
  refine call_all_walk (wpAny_pyIter_list pl.isList ?_)
  refine ⟨s.heap.objs.size, _, _, _, _, _, fun i => (bs[i]?).getD true, rfl, Walks.list (A := X.A.in1) (I.ok.hd hc) s.heap.objs.size p hne its.toArray, ⟨⟨_, Heap.get?_push_size _ rfl, rfl, rfl⟩, ?_⟩, ?_, fun h' tk hk => ?_⟩
  · obtain ⟨o, ho, rr⟩ := pl.isList
    exact ⟨o, Heap.get?_push_of_some _ ho, rr⟩
  · intro i v s' Q' E' hP hQ
    have hv : its[i]? = some v := by simpa using hP
    have hi : i < its.length := (List.getElem?_eq_some_iff.mp hv).1
    have hb : (bs.map V.bl)[i]? = some (.bl bs[i]) := by rw [List.getElem?_map, List.getElem?_eq_getElem (by omega)]; rfl
    obtain ⟨u', hu', ru'⟩ := rv.get hb
    rw [hv] at hu'
    cases hu'
    cases ru'
    have : (bs[i]?).getD true = bs[i] := by rw [List.getElem?_eq_getElem (by omega)]; rfl
    have hQ' : Q' ((bs[i]?).getD true) s' := hQ
    rw [this] at hQ'
    exact wpAny_truthy_bool hQ'
  · have I1 : Inv X pins σ H { s with heap := h', toks := tk } := I.kept fun b o e => hk b o (by
      intro z
      have z' : b = s.heap.objs.size := by simpa using z
      rw [z'] at e
      exact absurd (Heap.lt_size e) (Nat.lt_irrefl _)) (Heap.get?_push_of_some _ e)
    refine ⟨.bl _, H, I1, ?_, q⟩
    have e1 : (List.range its.toArray.size).all (fun i => (bs[i]?).getD true) = bs.all id := by
      rw [List.size_toArray, hlen, Bool.eq_iff_iff, List.all_eq_true, List.all_eq_true]
      constructor
      · intro hall z hz'
        obtain ⟨i, hi, rfl⟩ := List.getElem_of_mem hz'
        have := hall i (List.mem_range.mpr hi)
        rw [List.getElem?_eq_getElem hi] at this
        exact this
      · intro hall i hi
        have hi' := List.mem_range.mp hi
        rw [List.getElem?_eq_getElem hi']
        exact hall _ (List.getElem_mem hi')
    show Value.bool _ = Value.bool _
    rw [e1]
theorem allB_inv : ∀ {ds : List D} {k : Bool}, allB ds = some k → ∃ bs : List Bool, ds = bs.map D.bl ∧ k = bs.all id
  | [], k, h => by cases h; exact ⟨[], rfl, rfl⟩
  | .bl b :: r, k, h => by
    obtain ⟨k', e, h⟩ := bind_inv h
    cases h
    obtain ⟨bs, rfl, rfl⟩ := allB_inv e
    exact ⟨b :: bs, rfl, rfl⟩
  | .non :: r, _, h => by cases h
  | .int _ :: r, _, h => by cases h
  | .str _ :: r, _, h => by cases h
  | .tup _ :: r, _, h => by cases h
  | .lst _ :: r, _, h => by cases h
theorem dens_bls {K : PySem.W.Frag} {H : Hp} : ∀ {bs : List Bool} {xs : List V}, Dens K H (bs.map D.bl) xs → xs = bs.map V.bl
  | [], _, h => h.unnil
  | b :: bs, _, h => by
    obtain ⟨x, r, rfl, h1, h2⟩ := h.uncons
    rw [h1.bl_inv, dens_bls h2]
    rfl
theorem cd_all (hc : X.calm = true) : CallD X (.builtin "all") fAll := by
  refine ⟨_, call_allL hc, fun os H L ds d vs Q r m k => ?_⟩
  match ds, m with
  | [.lst xs], m =>
    obtain ⟨z, e1, m⟩ := bind_inv (show (allB xs).bind (fun k => some (D.bl k)) = some d from m)
    cases m
    obtain ⟨v, rfl, h⟩ := one_of r
    obtain ⟨p, ys, rfl, h1, h2⟩ := h.lst_up
    obtain ⟨bs, rfl, rfl⟩ := allB_inv e1
    rw [dens_bls h2] at h1
    exact ⟨p, bs, rfl, h1, k _ H (Same.refl _) (.bl _)⟩
theorem id_ix : IxD X oIx := by
  refine ⟨_, ix_list.or (ix_tup.or ix_str), fun os H L dx dy d x y Q rx ry m k => ?_⟩
  cases dy with
  | int i =>
    cases dx with
    | lst ds =>
      obtain ⟨j, e1, e2⟩ := bind_inv (show (ixD ds.length i).bind (fun j => ds[j]?) = some d from m)
      obtain ⟨a, xs, rfl, h1, h2⟩ := rx.lst_up
      obtain ⟨v, hv, rv⟩ := h2.get e2
      refine .inl ⟨a, xs, i, v, rfl, ry.int_inv, h1, ?_, k v H (Same.refl _) rv⟩
      show (ixD xs.length i).bind (fun j => xs[j]?) = some v
      rw [← h2.length, e1]
      exact hv
    | tup ds =>
      obtain ⟨j, e1, e2⟩ := bind_inv (show (ixD ds.length i).bind (fun j => ds[j]?) = some d from m)
      obtain ⟨a, xs, rfl, h1, h2⟩ := rx.tup_up
      obtain ⟨v, hv, rv⟩ := h2.get e2
      refine .inr (.inl ⟨a, xs, i, v, rfl, ry.int_inv, h1, ?_, k v H (Same.refl _) rv⟩)
      show (ixD xs.length i).bind (fun j => xs[j]?) = some v
      rw [← h2.length, e1]
      exact hv
    | str z =>
      have m' : (if z.length ≤ 16777216 then (ixD z.cps.toList.length i).bind fun j => z.cps.toList[j]?.bind fun c => some (D.str ⟨#[c]⟩) else none) = some d := m
      split at m'
      · rename_i hz
        obtain ⟨j, e1, m'⟩ := bind_inv m'
        obtain ⟨c, e2, m'⟩ := bind_inv m'
        cases m'
        refine .inr (.inr ⟨z, i, c, rx.str_inv, ry.int_inv, by rw [lim_eq]; exact hz, ?_, k _ H (Same.refl _) (.str _)⟩)
        show (ixD z.cps.toList.length i).bind (fun j => z.cps.toList[j]?) = some c
        rw [e1]
        exact e2
      · cases m'
    | _ => cases m
  | _ => cases dx <;> cases m
end
end DL

set_option Elab.async false
set_option linter.all false
set_option maxRecDepth 100000
namespace DL
open PySem PySem.Spec PyProof.Rows L2
section
variable {prog : Program} {w : World} {A : Around} {E : Value → Shared → Prop} {s : Shared}
theorem getItem_tuple_whole {t sl : Addr} {items : Array Value} {vl vu : Value} {lo hi : Option Int} {Q : Value → Shared → Prop} (ht : IsTup s.heap t items) (hs : s.heap.IsSliceOf sl vl vu .none) (pl : IsPart vl lo) (pu : IsPart vu hi)
    (hw : HT.sIx items.size 0 lo = 0 ∧ HT.sIx items.size items.size hi = items.size) (h : Q (.ref t) s) : wpAny (model prog w) A (getItem (.ref t) (.ref sl)) Q E s := by
  obtain ⟨os, hos, hcs, hds⟩ := id hs
  have hTs : s.TypeIs (.ref sl) "slice" := ⟨os, hos, hcs⟩
  unfold getItem
  try with_reducible refine wpAny_holding ?_
  first | refine wpAny_bind (wpAny_pure ?_) | skip
  refine wpAny_bind (wpAny_sequenceKey ht.typeIs (by decide) ?_)
  refine wpAny_bind (wpAny_callSpecial?_slot (name := Str.ofString "__getitem__") ht.typeIs PyProof.Rows.slot_tuple_getitem
    (wpAny_call_entry PyProof.Rows.slot_tuple_getitem ht.typeIs entry_tuple_getitem ?_ (args_tuple_getitem _ _)))
  show wpAny _ _ (Builtin.Tuple.tupleItemsOf (.ref t) >>= _) _ _ s
  refine wpAny_bind (tupleItemsOf_ ht ?_)
  refine wpAny_bind (wpAny_typeOf hTs ?_)
  rw [if_pos (by decide)]
  refine wpAny_bind (HT.sliceApplied_gen hs pl pu ?_)
  have hyes : ((((HT.sIx items.size 0 lo : Nat) : Int) == 0 && (1 : Int) == 1 && (HT.sIx items.size items.size hi - HT.sIx items.size 0 lo) == items.size) = true) := by
    rw [hw.1, hw.2]
    simp
  show wpAny _ _ (if (((HT.sIx items.size 0 lo : Nat) : Int) == 0 && (1 : Int) == 1 && (HT.sIx items.size items.size hi - HT.sIx items.size 0 lo) == items.size) = true then _ else _) _ _ s
  rw [if_pos hyes]
  unfold Builtin.Tuple.tupleIsExact
  refine wpAny_bind (wpAny_bind (wpAny_typeOf ht.typeIs (wpAny_pure ?_)))
  rw [if_pos (by decide)]
  refine wpAny_bind (wpAny_rule ?_)
  first
    | exact wpAny_pure ⟨_, rfl, wpAny_pure h⟩
    | exact wpAny_bind (wpAny_pure (wpAny_pure ⟨_, rfl, wpAny_pure h⟩))
end
section
variable {X : Cx} {a b c e : Expr} {es : List Expr} {ma mb mc md me : ME} {pos p p2 p3 : Pos}
def rSlW (K : PySem.W.Frag) : V → Option Int → Option Int → Hp → VK → Prop := fun x lo hi H Q => ∃ a xs, x = .ref a ∧ SqT K H a xs ∧ (HT.sIx xs.length 0 lo = 0 ∧ HT.sIx xs.length xs.length hi = xs.length) ∧ Q (.ref a) H
theorem sl_tupW : SlR X (rSlW X.K) := by
  intro pins s σ H x v vl vu lo hi sl Q I rx hs pl pu h
  obtain ⟨a, xs, rfl, hx, hw, q⟩ := h
  cases rx
  obtain ⟨its, r, ht, hz⟩ := I.tuple hx
  have hlen : its.toArray.size = xs.length := by rw [List.size_toArray]; exact r.length.symm
  exact ⟨"tuple", _, PyProof.Rows.slot_tuple_getitem.lookup, ht.typeIs, getItem_tuple_whole ht hs pl pu (by rw [hlen]; exact hw) ⟨.ref a, H, I, rfl, q⟩⟩
theorem cutV_take (xs : List V) (k : Nat) : cutV xs none (some (k : Int)) = xs.take k := by
  unfold cutV
  rw [HT.sIx_none, HT.sIx_nat, List.drop_zero, Nat.sub_zero]
  rcases Nat.le_total k xs.length with h | h
  · rw [Nat.min_eq_left h]
  · rw [Nat.min_eq_right h, List.take_length, List.take_of_length_le h]
theorem de_cut (k : Nat) {j : Nat} (he : DE X e me) : DE X (.Subscript e (.Slice none (some (.Constant (.int k) j p3)) none p2) pos) (eUn (uCut k) me) := by
  obtain ⟨te, pe, qe⟩ := he
  refine ⟨_, pe_slice (sl_list.or (sl_tup.or sl_tupW)) pe po_none (po_some pe_int), fun os σ H δ d Q s m kq => ?_⟩
  obtain ⟨dx, e1, m⟩ := bind_inv m
  refine qe os σ H δ dx _ s e1 fun x H1 g1 r1 => ⟨(k : Int), rfl, ?_⟩
  cases dx with
  | lst ds =>
    cases m
    obtain ⟨a, xs, rfl, h1, h2⟩ := r1.lst_up
    refine .inl ⟨a, xs, rfl, h1, fun q hq => ?_⟩
    rw [cutV_take]
    exact kq _ _ (g1.trans (same_new hq (.lst (xs.take k)))) (.newL (s.live.mono g1) hq (h2.take k))
  | tup ds =>
    cases m
    obtain ⟨a, xs, rfl, h1, h2⟩ := r1.tup_up
    have hl := h2.length
    by_cases hw : xs.length ≤ k
    · refine .inr (.inr ⟨a, xs, rfl, h1, ⟨HT.sIx_none _ _, by rw [HT.sIx_nat]; omega⟩, ?_⟩)
      rw [List.take_of_length_le (by omega)] at kq
      exact kq _ H1 g1 r1
    · refine .inr (.inl ⟨a, xs, rfl, h1, fun z => ?_, fun q hq => ?_⟩)
      · rw [HT.sIx_nat] at z
        omega
      · rw [cutV_take]
        exact kq _ _ (g1.trans (same_new hq (.tup (xs.take k)))) (.newT (s.live.mono g1) hq (h2.take k))
  | _ => cases m
end
end DL

set_option Elab.async false
set_option linter.all false
set_option maxRecDepth 100000
namespace DL
open PySem PySem.Spec PyProof.Rows L2
open AutoSeq1 (wpAny_loadPart')

section
variable {prog : Program} {w : World} {A : Around} {E : Value → Shared → Prop} {s : Shared} {it l : Addr} {i : Nat} {items : Array Value}
theorem tup_step {x : Value} {Q : PySem.Fin → Shared → Prop} (a : s.heap.IsTupleIter it l i) (b : s.heap.IsTuple l items) (hx : items[i]? = some x)
    (k : ∀ h', h'.IsTupleIter it l (i + 1) → Heap.SameBut it s.heap h' → Q (.done (.ret x)) { s with heap := h' }) : wpAny (model prog w) A (Builtin.«tuple_iterator.__next__» ⟨[.ref it], []⟩) Q E s := by
  obtain ⟨o, ho, hc, hd⟩ := a
  obtain ⟨p, hp, _, n, hq⟩ := b
  wp_walk using wpAny_field ho hd (x := .ref l) rfl, wpAny_field ho hd (x := .int i 0) rfl, wpAny_seqItems hp hq
  rw [show items[(i : Int).toNat]? = some x from hx]
  refine wpAny_bind (wpAny_setField ho hd (Nat.lt_succ_self 1) (wpAny_pure (k _ ⟨_, Heap.get?_update_self _ ho ?_, ?_, ?_⟩ (Heap.SameBut.update ..))))
  · exact Obj.isFreed_of_fields (Obj.data_mapFields hd _)
  · rw [Obj.cls_mapFields, hc]
  · rw [Obj.data_mapFields hd]; rfl
theorem tup_stop {Q : PySem.Fin → Shared → Prop} (hh : A.handled = none) (a : s.heap.IsTupleIter it l i) (b : s.heap.IsTuple l items) (hx : items[i]? = none)
    (k : ∀ h' e, Heap.ExtBut it s.heap h' → (∃ o, h'.get? e = some o ∧ o.cls = .type "StopIteration") → E (.ref e) { s with heap := h' }) : wpAny (model prog w) A (Builtin.«tuple_iterator.__next__» ⟨[.ref it], []⟩) Q E s := by
  obtain ⟨o, ho, hc, hd⟩ := a
  obtain ⟨p, hp, _, n, hq⟩ := b
  wp_walk using wpAny_field ho hd (x := .ref l) rfl, wpAny_field ho hd (x := .int i 0) rfl, wpAny_seqItems hp hq
  rw [show items[(i : Int).toNat]? = none from hx]
  refine wpAny_bind (wpAny_rule (wpAny_bind (wpAny_setField ho hd (Nat.succ_pos 1) ?_)))
  unfold Builtin.SmallTypes.stopIteration
  wp_walk
  refine wpAny_raiseNew_none hh (k _ _ (((Heap.SameBut.update s.heap it _).extBut.push _).push _) ?_)
  exact ⟨_, Heap.get?_push_size _ rfl, rfl⟩
end
def tupWalk (l : Addr) : Obj := { cls := .type "tuple_iterator", data := .fields #[.ref l, .int 0 0] }
def enumOver (j : Addr) : Obj := { cls := .type "enumerate", data := .fields #[.none, .bool false, .ref j, rawInt 0, .none, .none] }
theorem enum_made (l : Addr) (items : Array Value) (n : Nat) (dd : Option Addr) (sl : Array (Option Value)) : Meets (Builtin.«enumerate.__new__» ⟨[.type "enumerate", .ref l], []⟩) fun _ R s =>
    s.heap.get? l = some ⟨.type "tuple", dd, .seq items n, sl⟩ ∧ R (.ok (.ret (.ref (s.heap.objs.size + 1)))) { s with heap := (s.heap.push (tupWalk l)).push (enumOver s.heap.objs.size) } := by
  refine .of_wp fun prog w A R s h => ?_
  rcases s with ⟨hp, g, d, tk, os⟩
  have tup : Heap.IsTuple hp l items := ⟨_, h.1, rfl, n, rfl⟩
  have sub := sub_enumerate
  have fin := h.2
  rw [← Heap.size_push hp (tupWalk l)] at fin
  wp_walk using wpAny_loadPart' h.1
  refine wpAny_stack_any fun _ => wpAny_pure ?_
  split <;> (try (rename_i c _ _ _ _ _; cases (c == Value.type "enumerate"))) <;> (wp_walk using wpAny_loadPart' h.1, wpAny_pyIter_tuple (s := ⟨hp, g, d, tk, os⟩) tup) <;> exact ⟨_, rfl, fin⟩
section
variable {prog : Program} {w : World} {A : Around} {E : Value → Shared → Prop} {s : Shared} {it l : Addr} {items : Array Value}
theorem call_enum_tuple {Q : Value → Shared → Prop} (t : s.heap.IsTuple l items)
    (k : ∀ h', IsEnum h' (s.heap.objs.size + 1) s.heap.objs.size 0 .none → h'.IsTupleIter s.heap.objs.size l 0 → (∀ b o, s.heap.get? b = some o → h'.get? b = some o) → Q (.ref (s.heap.objs.size + 1)) { s with heap := h' }) :
    wpAny (model prog w) A (call (.type "enumerate") [.ref l]) Q E s := by
  obtain ⟨⟨c, dd, dt, sl⟩, hl, rfl, n, rfl⟩ := t
  have z := Heap.size_push s.heap (tupWalk l)
  have top := Heap.get?_push_size (s.heap.push (tupWalk l)) (o := enumOver s.heap.objs.size) rfl
  rw [z] at top
  have low := Heap.get?_push_of_some (enumOver s.heap.objs.size) (Heap.get?_push_size s.heap (o := tupWalk l) rfl)
  exact callType_new F.called_enumerate (by decide) (F.typeCall_enumerate_1 _) (F.newCall_enumerate_1 _) (fun _ => F.args_object_init_2 _ _) F.entry_enumerate_new (enum_made l items n dd sl)
    ⟨hl, ⟨_, top, rfl⟩, k _ top ⟨_, low, rfl, rfl⟩ fun b o q => Heap.get?_push_of_some _ (Heap.get?_push_of_some _ q)⟩
theorem next_by {Q : Value → Shared → Prop} {i : Nat} (a : s.heap.IsTupleIter it l i) (h : wpAny (model prog w) A.in1 (Builtin.«tuple_iterator.__next__» ⟨[.ref it], []⟩) (fun f s' => ∃ x, f = .done (.ret x) ∧ Q x s') E s) : wpAny (model prog w) A (Builtin.SmallTypes.nextOf (.ref it)) Q E s := by
  refine wpAny_bind (wpAny_callSpecial?_slot a.typeIs F.slot_tuple_iterator_next (wpAny_call_entry F.slot_tuple_iterator_next a.typeIs F.entry_tuple_iterator_next (wpAny_mono h (fun f s' r => ?_) fun _ _ z => z) (F.args_tuple_iterator_next_1 _)))
  obtain ⟨x, rfl, q⟩ := r
  exact ⟨x, rfl, wpAny_pure q⟩
theorem draws_tuple (hh : A.handled = none) (ne : l ≠ it) (items : Array Value) : Draws prog w A it [it, l] items.size (fun i v => items[i]? = some v) fun i h => h.IsTupleIter it l i ∧ h.IsTuple l items := by
  constructor
  · rintro i h ⟨⟨o, q, _⟩, _⟩
    exact ⟨o, q⟩
  · rintro i h h' ⟨a, b⟩ k
    exact ⟨a.at (k it (by simp)), b.at (k l (by simp))⟩
  · rintro i s Q E hi ⟨a, b⟩ k
    have hx : items[i]? = some items[i] := by simp [hi]
    exact next_by a (tup_step a b hx fun h' a' sb => ⟨_, rfl, k _ h' s.toks hx ⟨a', b.extBut sb.extBut ne⟩ sb⟩)
  · rintro s Q E ⟨a, b⟩ k
    exact next_by a (tup_stop hh a b (by simp) k)
end

section
variable {X : Cx} {pins : List (Addr × Obj)} {σ : L2.St} {H : Hp} {s : Shared} {h' : Heap}
theorem turnedL {fp : List Addr} {t' : Nat} (I : Inv X pins σ H s) (hf : ∀ b ∈ fp, FpOk X pins H b) (k : ∀ b o, b ∉ fp → s.heap.get? b = some o → h'.get? b = some o) : Inv X pins σ H { s with heap := h', toks := t' } := by
  have nit : ∀ b u, H b = some u → b ∉ fp := fun b u e z => by rw [(hf b z).1] at e; cases e
  refine I.step (g' := s.gens) (d' := s.drawn) (ch := fp) (fun b hb => ⟨(hf b hb).2.2.2.1, (hf b hb).2.1, (hf b hb).2.2.2.2.1, (hf b hb).2.2.2.2.2⟩) (fun b o _ _ hc e _ => k b o hc e) (fun b o _ _ hc e _ => ⟨o.slots, k b o hc e⟩) (fun _ _ _ _ n => n)
    (fun b o hc e => ⟨o, k b o hc e⟩) (fun _ _ e => e) (fun _ _ _ e => e) (fun b ps e => ⟨#[], by rw [e]; simp⟩) (fun m hm => ?_) (fun b u e => ?_) I.bare
  · obtain ⟨o, es, ep, ho, r⟩ := hm
    exact ⟨o, es, ep, k _ o (fun z => (hf _ z).2.1 rfl) ho, r⟩
  · refine (I.hok b u e).stay (fun c v hc q => k c v ?_ q) (fun _ q => q) fun _ _ q => q
    rcases hc with z | z
    · rw [z]; exact nit b u e
    · exact nit c _ z
def Ite (sq : Hp → Addr → List V → Prop) (a : Addr) : It :=
  ⟨fun i H => ∃ xs x, sq H a xs ∧ xs[i]? = some x, fun i H p H' => ∃ x t, (∀ xs, sq H a xs → xs[i]? = some x) ∧ H t = none ∧ p = .ref t ∧ H' = upd H t (.tup [.int i, x]), fun i H => ∃ xs, sq H a xs ∧ i = xs.length⟩
theorem enum_inv {e it T : Addr} {tk tk' : Nat} {i : Int} {x : V} {u : Value} {h2 : Heap} (I : Inv X pins σ H s) (hf : ∀ b ∈ [e, it], FpOk X pins H b) (hlt : ∀ b ∈ [e, it], b < s.heap.objs.size) (hT : T = s.heap.objs.size) (ru : RelV x u)
    (hk : ∀ b o, b ≠ e → b ≠ it → s.heap.get? b = some o → h2.get? b = some o) (ht : h2.get? T = some { cls := .type "tuple", data := .seq #[.int i tk, u] }) :
    Inv X pins σ (upd H T (.tup [.int i, x])) { s with heap := h2, toks := tk' } := by
  subst hT
  have I1 : Inv X pins σ (upd H s.heap.objs.size (.tup [.int i, x])) { s with heap := s.heap.push { cls := .type "tuple", data := .seq [Value.int i tk, u].toArray }, toks := tk' } := by
    refine I.laid (t' := tk') (fun b o q => Heap.get?_push_of_some _ q) (Nat.le_refl _) ?_
    exact ⟨by show 2 ≤ sizeLine; rw [lim_eq]; decide, [.int i tk, u], .cons ⟨tk, rfl⟩ (.cons ru .nil), IsTup.new _ _⟩
  have T1 := turnedL (t' := tk') (h' := h2) (fp := [e, it]) I1
  refine T1 (fun b hb => ⟨?_, (hf b hb).2⟩) fun b o hb q => ?_
  · rw [upd_ne (Nat.ne_of_lt (hlt b hb))]
    exact (hf b hb).1
  · by_cases hz : b = s.heap.objs.size
    · subst hz
      have q' := (Heap.get?_push_size s.heap (o := { cls := .type "tuple", data := .seq [Value.int i tk, u].toArray }) rfl).symm.trans q
      cases q'
      exact ht
    · have q' : (s.heap.push { cls := .type "tuple", data := .seq [Value.int i tk, u].toArray }).get? b = some o := q
      have hlt' : b < (s.heap.push { cls := .type "tuple", data := .seq [Value.int i tk, u].toArray }).objs.size := Heap.lt_size q'
      rw [Heap.size_push] at hlt'
      have hb' : b < s.heap.objs.size := Nat.lt_of_le_of_ne (Nat.le_of_lt_succ hlt') hz
      refine hk b o (fun z => hb (by simp [z])) (fun z => hb (by simp [z])) ?_
      obtain ⟨o1, ho1⟩ : ∃ o1, s.heap.get? b = some o1 := by
        cases hg : s.heap.get? b with
        | some o1 => exact ⟨o1, rfl⟩
        | none =>
          exfalso
          obtain ⟨q1, q2⟩ := Heap.get?_some_iff.mp q'
          have q3 : s.heap.objs[b]? = some o := by
            revert q1
            generalize s.heap = hh at hb' ⊢
            cases hh
            intro q1
            simpa [Heap.push, Array.getElem?_push, Nat.ne_of_lt hb'] using q1
          rw [Heap.get?_some_iff.mpr ⟨q3, q2⟩] at hg
          cases hg
      have := Heap.get?_push_of_some { cls := .type "tuple", data := .seq [Value.int i tk, u].toArray } ho1
      rw [q'] at this
      cases this
      exact ho1
theorem turn_enumT {P : Program} {w : World} {K : PySem.W.Frag} {elts : List Expr} {k : Nat} {pos : Pos} (a e it : Addr) : Turn P w K (.Tuple elts k pos) (Ite (SqT K) a) [e, it] e (fun i h => e ≠ it ∧ (∃ old, IsEnum h e it i old) ∧ h.IsTupleIter it a i) where
  mem := by simp
  obj := fun i h st b hb => by
    obtain ⟨_, ⟨old, he⟩, o, ho, c, d⟩ := st
    rcases List.mem_cons.mp hb with rfl | hb
    · exact ⟨_, he, fun v z => by cases z⟩
    · rw [List.mem_singleton.mp hb]
      exact ⟨o, ho, fun v z => by rw [d] at z; cases z⟩
  keep := fun i h h' st k => by
    obtain ⟨ne, ⟨old, he⟩, o, ho, r⟩ := st
    exact ⟨ne, ⟨old, k e (by simp) _ he⟩, o, k it (by simp) o ho, r⟩
  item := by
    intro X hP hw hK hc i pins s σ H E I hf st hg
    subst hP hw hK
    obtain ⟨hne, ⟨old, he⟩, hit⟩ := st
    obtain ⟨xs, x, hq, hx⟩ := hg
    obtain ⟨its, rv, p, hz⟩ := I.tuple hq
    obtain ⟨u, hu, ru⟩ := rv.get hx
    have p' : s.heap.IsTuple a its.toArray := p
    have hai : a ≠ it := fun z => by
      obtain ⟨o, e1, c1, _⟩ := p'
      obtain ⟨o', e2, c2, _⟩ := hit
      rw [z, e2] at e1
      cases e1
      rw [c2] at c1
      injection c1 with c1
      exact absurd c1 (by decide)
    have hae : e ≠ a := fun z => by
      obtain ⟨o, e1, c1, _⟩ := p'
      rw [← z, he] at e1
      cases e1
      injection c1 with c1
      exact absurd c1 (by decide)
    have hil : i < its.toArray.size := by
      rw [List.size_toArray]
      exact (List.getElem?_eq_some_iff.mp hu).1
    have ltE : e < s.heap.objs.size := Heap.lt_size he
    have ltI : it < s.heap.objs.size := by obtain ⟨o, q, _⟩ := hit; exact Heap.lt_size q
    refine wpAny_pyNext_enum_itemD (draws_tuple (A := X.A.in1) (I.ok.hd hc) hai its.toArray) he ⟨hit, p'⟩ hil hne (by simp [hne, hae]) fun y h1 tk hy ho hs1 hT hsz hk => ?_
    have hyu : y = u := by
      have hy' : its.toArray[i]? = some y := hy
      have hu' : its.toArray[i]? = some u := by simpa using hu
      rw [hu'] at hy'
      exact (Option.some.inj hy').symm
    subst hyu
    refine ⟨_, rfl, wpAny_letOwnedTupleGo_enum ho fun h2 he2 hs2 => ?_⟩
    have hs2' : Heap.SameBut e h1 h2 := hs2
    refine ⟨.ref s.heap.objs.size, upd H s.heap.objs.size (.tup [.int i, x]), ?_, rfl, ⟨x, s.heap.objs.size, fun ys hy' => by rw [I.tuple_inj hy' hq]; exact hx, I.fresh, rfl, rfl⟩, ⟨hne, ⟨_, by simpa using he2⟩, ?_⟩, fun b hb => ?_⟩
    · refine enum_inv (s := s) (tk' := tk + 1) I hf (fun b hb => ?_) rfl ru (fun b o n1 n2 q => (hs2'.2 b n1).trans (hk b o n1 n2 q)) ((hs2'.2 _ (Nat.ne_of_gt ltE)).trans hT)
      rcases List.mem_cons.mp hb with rfl | hb
      · exact ltE
      · rw [List.mem_singleton.mp hb]; exact ltI
    · obtain ⟨o, q, r⟩ := hs1.1
      exact ⟨o, (hs2'.2 it hne.symm).trans q, r⟩
    · have hlt : b < s.heap.objs.size := by
        rcases List.mem_cons.mp hb with rfl | hb
        · exact ltE
        · rw [List.mem_singleton.mp hb]; exact ltI
      rw [upd_ne (Nat.ne_of_lt hlt)]
      exact (hf b hb).1
  done := by
    intro X hP hw hK hc i pins s σ H E I hf st hg
    subst hP hw hK
    obtain ⟨hne, ⟨old, he⟩, hit⟩ := st
    obtain ⟨xs, hq, hx⟩ := hg
    obtain ⟨its, rv, p, hz⟩ := I.tuple hq
    have hl := rv.length
    have hai : a ≠ it := fun z => by
      obtain ⟨o, e1, c1, _⟩ := (show s.heap.IsTuple a its.toArray from p)
      obtain ⟨o', e2, c2, _⟩ := hit
      rw [z, e2] at e1
      cases e1
      rw [c2] at c1
      injection c1 with c1
      exact absurd c1 (by decide)
    have hi : i = its.toArray.size := by rw [List.size_toArray]; omega
    subst hi
    refine wpAny_pyNext_enum_endD (draws_tuple (A := X.A.in1) (I.ok.hd hc) hai its.toArray) he ⟨hit, (show s.heap.IsTuple a its.toArray from p)⟩ fun h' hx' => ⟨rfl, ?_⟩
    exact turnedL (t' := s.toks) I hf fun b o hb q => hx' b o (fun z => hb (by simp [z])) q
  self := fun _ _ _ _ _ st h => by
    obtain ⟨_, ⟨old, he⟩, _⟩ := st
    exact wpAny_pyIter_enum he h
theorem turn_enumL {P : Program} {w : World} {K : PySem.W.Frag} {elts : List Expr} {k : Nat} {pos : Pos} (a e it : Addr) : Turn P w K (.Tuple elts k pos) (Ite (SqL K) a) [e, it] e (fun i h => e ≠ it ∧ (∃ old, IsEnum h e it i old) ∧ h.IsListIter it a i) where
  mem := by simp
  obj := fun i h st b hb => by
    obtain ⟨_, ⟨old, he⟩, o, ho, c, d⟩ := st
    rcases List.mem_cons.mp hb with rfl | hb
    · exact ⟨_, he, fun v z => by cases z⟩
    · rw [List.mem_singleton.mp hb]
      exact ⟨o, ho, fun v z => by rw [d] at z; cases z⟩
  keep := fun i h h' st k => by
    obtain ⟨ne, ⟨old, he⟩, o, ho, r⟩ := st
    exact ⟨ne, ⟨old, k e (by simp) _ he⟩, o, k it (by simp) o ho, r⟩
  item := by
    intro X hP hw hK hc i pins s σ H E I hf st hg
    subst hP hw hK
    obtain ⟨hne, ⟨old, he⟩, hit⟩ := st
    obtain ⟨xs, x, hq, hx⟩ := hg
    obtain ⟨its, rv, p, hz⟩ := I.list hq
    obtain ⟨u, hu, ru⟩ := rv.get hx
    have p' : s.heap.IsList a its.toArray := p.isList
    have hai : a ≠ it := fun z => by
      obtain ⟨o, e1, c1, _⟩ := p'
      obtain ⟨o', e2, c2, _⟩ := hit
      rw [z, e2] at e1
      cases e1
      rw [c2] at c1
      injection c1 with c1
      exact absurd c1 (by decide)
    have hae : e ≠ a := fun z => by
      obtain ⟨o, e1, c1, _⟩ := p'
      rw [← z, he] at e1
      cases e1
      injection c1 with c1
      exact absurd c1 (by decide)
    have hil : i < its.toArray.size := by
      rw [List.size_toArray]
      exact (List.getElem?_eq_some_iff.mp hu).1
    have ltE : e < s.heap.objs.size := Heap.lt_size he
    have ltI : it < s.heap.objs.size := by obtain ⟨o, q, _⟩ := hit; exact Heap.lt_size q
    refine wpAny_pyNext_enum_itemD (Draws.list (A := X.A.in1) (I.ok.hd hc) it a hai its.toArray) he ⟨hit, p'⟩ hil hne (by simp [hne, hae]) fun y h1 tk hy ho hs1 hT hsz hk => ?_
    have hyu : y = u := by
      have hy' : its.toArray[i]? = some y := hy
      have hu' : its.toArray[i]? = some u := by simpa using hu
      rw [hu'] at hy'
      exact (Option.some.inj hy').symm
    subst hyu
    refine ⟨_, rfl, wpAny_letOwnedTupleGo_enum ho fun h2 he2 hs2 => ?_⟩
    have hs2' : Heap.SameBut e h1 h2 := hs2
    refine ⟨.ref s.heap.objs.size, upd H s.heap.objs.size (.tup [.int i, x]), ?_, rfl, ⟨x, s.heap.objs.size, fun ys hy' => by rw [I.list_inj hy' hq]; exact hx, I.fresh, rfl, rfl⟩, ⟨hne, ⟨_, by simpa using he2⟩, ?_⟩, fun b hb => ?_⟩
    · refine enum_inv (s := s) (tk' := tk + 1) I hf (fun b hb => ?_) rfl ru (fun b o n1 n2 q => (hs2'.2 b n1).trans (hk b o n1 n2 q)) ((hs2'.2 _ (Nat.ne_of_gt ltE)).trans hT)
      rcases List.mem_cons.mp hb with rfl | hb
      · exact ltE
      · rw [List.mem_singleton.mp hb]; exact ltI
    · obtain ⟨o, q, r⟩ := hs1.1
      exact ⟨o, (hs2'.2 it hne.symm).trans q, r⟩
    · have hlt : b < s.heap.objs.size := by
        rcases List.mem_cons.mp hb with rfl | hb
        · exact ltE
        · rw [List.mem_singleton.mp hb]; exact ltI
      rw [upd_ne (Nat.ne_of_lt hlt)]
      exact (hf b hb).1
  done := by
    intro X hP hw hK hc i pins s σ H E I hf st hg
    subst hP hw hK
    obtain ⟨hne, ⟨old, he⟩, hit⟩ := st
    obtain ⟨xs, hq, hx⟩ := hg
    obtain ⟨its, rv, p, hz⟩ := I.list hq
    have hl := rv.length
    have hai : a ≠ it := fun z => by
      obtain ⟨o, e1, c1, _⟩ := p.isList
      obtain ⟨o', e2, c2, _⟩ := hit
      rw [z, e2] at e1
      cases e1
      rw [c2] at c1
      injection c1 with c1
      exact absurd c1 (by decide)
    have hi : i = its.toArray.size := by rw [List.size_toArray]; omega
    subst hi
    refine wpAny_pyNext_enum_endD (Draws.list (A := X.A.in1) (I.ok.hd hc) it a hai its.toArray) he ⟨hit, p.isList⟩ fun h' hx' => ⟨rfl, ?_⟩
    exact turnedL (t' := s.toks) I hf fun b o hb q => hx' b o (fun z => hb (by simp [z])) q
  self := fun _ _ _ _ _ st h => by
    obtain ⟨_, ⟨old, he⟩, _⟩ := st
    exact wpAny_pyIter_enum he h
end
section
variable {X : Cx} {a : Expr} {ma : ME} {pos pos' p : Pos} {elts : List Expr} {kt : Nat}
def iEnumE (K : PySem.W.Frag) (ta : TA) : TI := fun σ H R => ta σ H fun vs H1 => ∃ a, vs = [.ref a] ∧ (((∃ xs, SqL K H1 a xs) ∧ R (Ite (SqL K) a) H1) ∨ ((∃ xs, SqT K H1 a xs) ∧ R (Ite (SqT K) a) H1))
theorem pi_enum {ta : TA} (hg : Gl X "enumerate") (hm : X.mg "enumerate" = none) (ha : PA X [a] ta) (hs : starEach [a] X.env = [(false, eval a X.env)] := by rfl) :
    PI X (.Tuple elts kt pos') (.Call (.Name "enumerate" p) [a] [] pos) (iEnumE X.K ta) := by
  intro pins s σ H R I h
  refine Call_ (ld_blt I hg hm boot_enumerate (PyProof.Rows.callWith_type1 (thn (ha pos pins s σ H _ I h) fun us s1 ⟨vs, H1, I1, r1, q1⟩ => ?_) hs rfl))
  obtain ⟨a, e, q⟩ := q1
  subst e
  cases r1 with
  | cons r rr =>
    cases rr
    cases r
    have fp : ∀ b ∈ [s1.heap.objs.size + 1, s1.heap.objs.size], FpOk X pins H1 b := fun b hb => by
      have e : s1.heap.objs.size ≤ b := by
        rcases List.mem_cons.mp hb with rfl | hb
        · exact Nat.le_succ _
        · rw [List.mem_singleton.mp hb]; exact Nat.le_refl _
      exact I1.fpOk e (I1.hok.fresh e)
    rcases q with ⟨⟨xs, hq⟩, q⟩ | ⟨⟨xs, hq⟩, q⟩
    · obtain ⟨its, rv, p, hz⟩ := I1.list hq
      refine call_enumerate_list p.isList fun h' he hit hsz hk => wpAny_pyIter_enum he ?_
      exact ⟨s1.heap.objs.size + 1, [s1.heap.objs.size + 1, s1.heap.objs.size], _, _, H1, rfl, I1.kept (t' := s1.toks) hk, turn_enumL a _ _, ⟨Nat.succ_ne_self _, ⟨_, he⟩, hit⟩, fp, q⟩
    · obtain ⟨its, rv, p, hz⟩ := I1.tuple hq
      refine call_enum_tuple (show s1.heap.IsTuple a its.toArray from p) fun h' he hit hk => wpAny_pyIter_enum he ?_
      exact ⟨s1.heap.objs.size + 1, [s1.heap.objs.size + 1, s1.heap.objs.size], _, _, H1, rfl, I1.kept (t' := s1.toks) hk, turn_enumT a _ _, ⟨Nat.succ_ne_self _, ⟨_, he⟩, hit⟩, fp, q⟩
theorem enum_get : ∀ (ds : List D) (k i : Nat) (d : D), (enumD k ds)[i]? = some d → ∃ e, ds[i]? = some e ∧ d = .tup [.int ((k + i : Nat) : Int), e]
  | [], _, _, _, h => by simp [enumD] at h
  | e :: ds, k, 0, d, h => by
    simp [enumD] at h
    exact ⟨e, rfl, by rw [← h]; rfl⟩
  | e :: ds, k, i + 1, d, h => by
    have h' : (enumD (k + 1) ds)[i]? = some d := by simpa [enumD] using h
    obtain ⟨e', h1, h2⟩ := enum_get ds (k + 1) i d h'
    refine ⟨e', by simpa using h1, ?_⟩
    rw [h2, show k + 1 + i = k + (i + 1) by omega]
theorem enum_lenD : ∀ (ds : List D) (k : Nat), (enumD k ds).length = ds.length
  | [], _ => rfl
  | _ :: ds, k => by simp [enumD, enum_lenD ds (k + 1)]
theorem walk_enum {K : PySem.W.Frag} {B : Hp} {a : Addr} {ds : List D} {xs : List V} {sq : Hp → Addr → List V → Prop} (hm : ∀ {H' : Hp}, Same B H' → sq H' a xs) (h2 : Dens K B ds xs) : Walk K (Ite sq a) B (enumD 0 ds) := by
  intro i os1 H1 L g
  have gu := g.trans hide_le
  refine ⟨fun d hd => ?_, fun hl => ⟨xs, hm gu, by rw [← h2.length, ← enum_lenD ds 0]; exact hl⟩⟩
  obtain ⟨e, he, rfl⟩ := enum_get ds 0 i d hd
  obtain ⟨x, hx, r⟩ := h2.get he
  refine ⟨⟨xs, x, hm gu, hx⟩, fun y H2 z => ?_⟩
  obtain ⟨x', t, z, ht, rfl, rfl⟩ := z
  have := z xs (hm gu)
  rw [hx] at this
  cases this
  refine ⟨same_new ht (.tup [.int i, x]), .newT L ht ?_⟩
  rw [Nat.zero_add]
  exact .cons (.int _) (.cons (r.mono g _ _) .nil)
theorem di_enum (hg : Gl X "enumerate") (hm : X.mg "enumerate" = none) (h : DE X a ma) (hs : starEach [a] X.env = (false, eval a X.env) :: starEach [] X.env := by rfl) (hs' : starEach [a] X.env = [(false, eval a X.env)] := by rfl) :
    DI X (.Tuple elts kt pos') (.Call (.Name "enumerate" p) [a] [] pos) (iEnum ma) := by
  obtain ⟨t, pt, q⟩ := h
  refine ⟨_, pi_enum hg hm (pa_cons pt pa_nil hs) hs', fun os σ H δ xs R s m k => ?_⟩
  obtain ⟨d, e1, m⟩ := bind_inv m
  refine q os σ H δ d _ s e1 fun v H1 g1 r1 => ?_
  cases d with
  | tup ds =>
    cases m
    obtain ⟨a, ys, rfl, h1, h2⟩ := r1.tup_inv
    exact ⟨a, rfl, .inr ⟨⟨ys, .of (hide_le _ _ h1)⟩, k _ H1 g1 (walk_enum (fun g => .of (g _ _ h1)) h2)⟩⟩
  | lst ds =>
    cases m
    obtain ⟨a, ys, rfl, h1, h2⟩ := r1.lst_inv
    exact ⟨a, rfl, .inl ⟨⟨ys, hide_le.seq h1⟩, k _ H1 g1 (walk_enum (fun g => g.seq h1) h2)⟩⟩
  | _ => cases m
end
end DL
namespace DL
open PySem PySem.Spec PyProof.Rows L2
theorem fn_okM {P : Program} {w : World} {K : PySem.W.Frag} {mg : Str → Option Value} {base : Heap} {x qual : Str} {st : Stmt} {f : Addr} {fd : FuncData} {N ps : List Str} {k kk : Nat} {m : MS} {M : MF} (hkk : N.length ≤ kk) (F : Fun K x qual st f fd) (S : FnScope N ps (defScope st))
    (hM : M = fnM ps.length kk m)
    (h : ∀ (cdv : Value) (A : Around) (outer : List Env) (s : Shared) (H : Hp) (E : XK), Room k (A.deeper (envOfC qual (defScope st) s.heap.objs.size f cdv)) →
      DSs (cxOf CX0 P w K mg base N qual (defScope st) f cdv A outer s H E).nox False (defBody st) m) :
    FnOk P w K mg base CX0 (k + 1) f fd ps (spD K M) := by
  rw [hM]
  exact fn_ok hkk F S h
end DL

set_option Elab.async false
set_option linter.all false
namespace DL
open PySem
def fMax : MF := fun ds => match ds with | [.int i, .int j] => some (.int (if j > i then j else i)) | _ => none
def fMin : MF := fun ds => match ds with | [.int i, .int j] => some (.int (if j < i then j else i)) | _ => none
def oShl : D → D → Option D := oI fun i j => if 0 ≤ j ∧ j ≤ 1000000 ∧ i.natAbs < 2 ^ 64 then some (.int (i * 2 ^ j.toNat)) else none
def oShr : D → D → Option D := oI fun i j => if 0 ≤ j then some (.int (i / 2 ^ j.toNat)) else none
def oBand : D → D → Option D := oI fun i j => some (.int (Builtin.bitAnd i j))
def rangeD2 (a : Int) (n : Nat) : List D := (List.range n).map fun (i : Nat) => D.int (a + i)
def iRange2 (a b : ME) : MI := fun δ => (a δ).bind fun x => (b δ).bind fun y => match x, y with
  | .int i, .int j => if -1073741824 < i ∧ i < 1073741824 ∧ -1073741824 < j ∧ j < 1073741824 then some (rangeD2 i (j - i).toNat) else none
  | _, _ => none
def uFrom (k : Nat) : D → Option D
  | .tup xs => some (.tup (xs.drop k))
  | .lst xs => some (.lst (xs.drop k))
  | _ => none
def eRep (a b : ME) : ME := fun δ => (a δ).bind fun x => (b δ).bind fun y => match x, y with
  | .lst ds, .int k => if -9223372036854775808 ≤ k ∧ k < 9223372036854775808 ∧ ds.length * k.toNat ≤ 16777216 then some (.lst (List.replicate k.toNat ds).flatten) else none
  | _, _ => none
def sAugL (n i : Nat) (k a : ME) : MS := fun δ => (k δ).bind fun z => (a δ).bind fun y => match ownAt n i δ, z, y with
  | some (.lst ds), .int j, .int b => (ixD ds.length j).bind fun q => (ds[q]?).bind fun o => match o with
    | .int c => some (.nx (δ.set (n + i) (some (.lst (ds.set q (.int (c + b)))))))
    | _ => none
  | _, _, _ => none
def sExt (n i : Nat) (a : ME) : MS := fun δ => (a δ).bind fun y => match ownAt n i δ, y with
  | some (.lst ds), .tup es => if ds.length + es.length ≤ 16777216 then some (.nx (δ.set (n + i) (some (.lst (ds ++ es))))) else none
  | some (.lst ds), .lst es => if ds.length + es.length ≤ 16777216 then some (.nx (δ.set (n + i) (some (.lst (ds ++ es))))) else none
  | _, _ => none
def zipD (xs ys : List D) : List D := (xs.zip ys).map fun p => .tup [p.1, p.2]
def iZip (a b : ME) : MI := fun δ => (a δ).bind fun x => (b δ).bind fun y => match x, y with
  | .lst xs, .lst ys => some (zipD xs ys)
  | _, _ => none
def eListZip (a b : ME) : ME := fun δ => (iZip a b δ).bind fun xs => if xs.length ≤ 16777216 then some (.lst xs) else none
def intsOf : List D → Option (List Int)
  | [] => some []
  | .int i :: r => (intsOf r).bind fun q => some (i :: q)
  | _ => none
def isKey : D → Bool
  | .int _ => true
  | .str _ => true
  | _ => false
def isKeyT : D → Bool
  | .tup ds => ds.all isKey
  | _ => false
def sPutT (n i : Nat) (k a : ME) : MS := fun δ => (a δ).bind fun y => (k δ).bind fun z => match ownAt n i δ with
  | some (.dic true ks vs) => if isKeyT z = true ∧ (ks.all fun q => !eqD q z) = true ∧ ks.length < 16777216 then some (.nx (δ.set (n + i) (some (.dic true (ks ++ [z]) (vs ++ [y]))))) else none
  | _ => none
def iItems (a : ME) : MI := fun δ => (a δ).bind fun d => match d with
  | .dic true ks vs => some (zipD ks vs)
  | _ => none
def lookD : List D → List D → Int → Option D
  | .int j :: ks, v :: vs, i => if j = i then some v else lookD ks vs i
  | _ :: ks, _ :: vs, i => lookD ks vs i
  | _, _, _ => none
def eGet2 (d k x : ME) : ME := fun δ => (d δ).bind fun dd => (k δ).bind fun z => (x δ).bind fun y => match dd, z with
  | .dic false ks vs, .int i => some ((lookD ks vs i).getD y)
  | _, _ => none
def insK (ks : List Int) (n : Int) : List Int := if n ∈ ks then ks else ks ++ [n]
def sortI (ks : List Int) : List Int := ks.mergeSort fun a b => decide (a ≤ b)
def uSortSet : D → Option D
  | .lst xs => (intsOf xs).bind fun is => if is.length + 1 < 4096 ∧ (is.foldl insK []).length < 64 then some (.lst ((sortI (is.foldl insK [])).map D.int)) else none
  | _ => none
def fSum : MF := fun ds => match ds with
  | [.tup xs] => (intsOf xs).bind fun is => some (.int is.sum)
  | [.lst xs] => (intsOf xs).bind fun is => some (.int is.sum)
  | _ => none
end DL

set_option Elab.async false
set_option linter.all false
set_option maxRecDepth 100000
namespace DL
open PySem PySem.Spec PyProof.Rows L2
section
variable {X : Cx} {PX : Prop} {a b e : Expr} {ma mb me : ME} {pos p p2 p3 : Pos}
theorem two_of {K : PySem.W.Frag} {H : Hp} {d d' : D} {vs : List V} (h : Dens K H [d, d'] vs) : ∃ v w, vs = [v, w] ∧ Den K H d v ∧ Den K H d' w := by
  obtain ⟨x, r, rfl, h1, h2⟩ := h.uncons
  obtain ⟨y, r2, rfl, h3, h4⟩ := h2.uncons
  exact ⟨x, y, by rw [h4.unnil], h1, h3⟩
theorem cd_max (hc : X.calm = true) : CallD X (.builtin "max") fMax := by
  refine ⟨_, call_max2 hc, fun os H L ds d vs Q r m k => ?_⟩
  match ds, m with
  | [.int i, .int j], m =>
    cases m
    obtain ⟨v, w, rfl, h1, h2⟩ := two_of r
    exact ⟨i, j, by rw [h1.int_inv, h2.int_inv], k _ H (Same.refl _) (.int _)⟩
theorem cd_min (hc : X.calm = true) : CallD X (.builtin "min") fMin := by
  refine ⟨_, call_min2 hc, fun os H L ds d vs Q r m k => ?_⟩
  match ds, m with
  | [.int i, .int j], m =>
    cases m
    obtain ⟨v, w, rfl, h1, h2⟩ := two_of r
    exact ⟨i, j, by rw [h1.int_inv, h2.int_inv], k _ H (Same.refl _) (.int _)⟩
theorem od_shl : OpD X (binaryOp .LShift) oShl := by
  refine ⟨_, op_shl, fun os H L dx dy d x y Q rx ry m k => ?_⟩
  obtain ⟨i, j, rfl, rfl, m⟩ := oi_inv m
  have m' : (if 0 ≤ j ∧ j ≤ 1000000 ∧ i.natAbs < 2 ^ 64 then some (D.int (i * 2 ^ j.toNat)) else none) = some d := m
  split at m'
  · rename_i h
    cases m'
    exact ⟨i, j, rx.int_inv, ry.int_inv, h, k _ H (Same.refl _) (.int _)⟩
  · cases m'
theorem od_shr : OpD X (binaryOp .RShift) oShr := by
  refine ⟨_, op_shr, fun os H L dx dy d x y Q rx ry m k => ?_⟩
  obtain ⟨i, j, rfl, rfl, m⟩ := oi_inv m
  have m' : (if 0 ≤ j then some (D.int (i / 2 ^ j.toNat)) else none) = some d := m
  split at m'
  · rename_i h
    cases m'
    exact ⟨i, j, rx.int_inv, ry.int_inv, h, k _ H (Same.refl _) (.int _)⟩
  · cases m'
theorem od_band : OpD X (binaryOp .BitAnd) oBand := by
  refine ⟨_, op_and, fun os H L dx dy d x y Q rx ry m k => ?_⟩
  obtain ⟨i, j, rfl, rfl, m⟩ := oi_inv m
  cases m
  exact ⟨i, j, rx.int_inv, ry.int_inv, k _ H (Same.refl _) (.int _)⟩
theorem df_rep (ha : DF X a ma) (hb : DE X b mb) : DF X (.BinOp a .Mult b pos) (eRep ma mb) := by
  obtain ⟨ta, pa, qa⟩ := ha
  obtain ⟨tb, pb, qb⟩ := hb
  refine ⟨_, pe_op op_rep pa pb, fun os σ H δ d Q s m k => ?_⟩
  obtain ⟨dx, e1, m⟩ := bind_inv m
  obtain ⟨dy, e2, m⟩ := bind_inv m
  refine qa os σ H δ dx _ s e1 fun l H1 g1 hl o1 => ?_
  refine qb os σ H1 δ dy _ (s.mono g1) e2 fun y H2 g2 r2 => ?_
  match dx, dy, m with
  | .lst ds, .int n, m =>
    have m' : (if -9223372036854775808 ≤ n ∧ n < 9223372036854775808 ∧ ds.length * n.toNat ≤ 16777216 then some (D.lst (List.replicate n.toNat ds).flatten) else none) = some d := m
    split at m'
    · rename_i hz
      cases m'
      obtain ⟨xs, h1, h2⟩ := o1
      have hlen := h2.length
      refine ⟨l, n, xs, rfl, r2.int_inv, g2 _ _ h1, by omega, by omega, by rw [lim_eq, ← hlen]; exact hz.2.2, fun q hq => ?_⟩
      have nl : l ∉ os := s.live.ne hl
      refine k q _ ((g1.trans g2).trans (same_new hq _)) ((g1.trans g2).free hq) ⟨_, upd_same, ?_⟩
      refine (h2.flat n.toNat).mono (fun c u hc => ?_) _ _
      have hc2 : c ∉ l :: os := fun z => by rw [hide_on z] at hc; cases hc
      rw [hide_off hc2] at hc
      have hc3 : H2 c = some u := g2 _ _ hc
      have hcq : c ≠ q := ne_of_none hc3 hq
      rw [hide_off (by simp only [List.mem_cons, not_or]; exact ⟨hcq, fun z => hc2 (List.mem_cons_of_mem _ z)⟩), upd_ne hcq]
      exact hc3
    · cases m'
theorem extend_tup (l b : Addr) (us ws : Array Value) (n n2 : Nat) (dd : Option Addr) (sl : Array (Option Value)) (hlong : ¬(!us.isEmpty && Builtin.List.listTooLong (us.size + ws.size)) = true) (h1 : us.size ≤ sizeLine) (h2 : (us ++ ws).size ≤ sizeLine + 1) :
    Meets (Builtin.«list.extend» ⟨[.ref l, .ref b], []⟩) (fun _ R s => s.heap.get? l = some { cls := .type "list", data := .seq us n } ∧ s.heap.get? b = some { cls := .type "tuple", dict := dd, data := .seq ws n2, slots := sl } ∧
      R (.ok (.ret Value.none)) { s with heap := s.heap.update l (Obj.mapSeq fun x => x ++ ws) }) :=
  .of_wp fun prog w A R s h => by
    obtain ⟨hp, g, d, tk, os⟩ := s
    obtain ⟨hl, hb, h⟩ := h
    have f1 := AutoSeq1.idx_int
    have f2 := AutoSeq1.sub_tuple_tuple
    have f3 := AutoSeq1.sub_list_list
    have f4 := AutoSeq1.sub_tuple_list
    have f5 := AutoSeq1.sub_list_tuple
    wp_walk using (wpAny_updateSeq hl rfl (hz := h1) (_hz' := h2)), AutoSeq1.wpAny_loadPart' hl, AutoSeq1.wpAny_loadPart' hb
    exact ⟨_, rfl, h⟩
theorem ext_tuple : MtM X "list.extend" (fun x vs H Q => ∃ l b xs zs, x = .ref l ∧ vs = [.ref b] ∧ H l = some (.lst xs) ∧ SqT X.K H b zs ∧ xs.length + zs.length ≤ sizeLine ∧ Q .non (upd H l (.lst (xs ++ zs)))) := by
  intro pins s σ H x vs v us Q I rx rv h
  obtain ⟨l, b, xs, zs, rfl, rfl, hH, hB, hz, q⟩ := h
  cases rx
  obtain ⟨u, rfl, ru⟩ := rv.one
  cases ru
  obtain ⟨z, its, n, r, hl, e⟩ := I.lstM hH
  obtain ⟨its2, r2, ⟨⟨c2, d2, dt2, sl2⟩, e2, c2', n2, t2'⟩, _⟩ := I.tuple hB
  simp only at c2' t2'
  subst c2' t2'
  have hl2 := r2.length
  have hsz : its.toArray.size + its2.toArray.size ≤ sizeLine := by rw [List.size_toArray, List.size_toArray]; omega
  have hlong : ¬ (!its.toArray.isEmpty && Builtin.List.listTooLong (its.toArray.size + its2.toArray.size)) = true := by
    rw [notLongL hsz, Bool.and_false]
    exact Bool.false_ne_true
  refine call_meets F.slot_list_extend ⟨_, e, rfl⟩ F.entry_list_extend (F.args_list_extend_2 _ _)
    (extend_tup l b its.toArray its2.toArray n n2 d2 sl2 hlong (by rw [List.size_toArray]; omega) (by rw [Array.size_append]; omega)) ⟨e, e2, ?_⟩
  refine ⟨.non, _, I.lset (its' := its ++ its2) hH e (by simp) (r.append r2) ?_, rfl, q⟩
  rw [List.length_append]
  omega
theorem extend_lst (l b : Addr) (us ws : Array Value) (n n2 : Nat) (sl : Array (Option Value)) (hlong : ¬(!us.isEmpty && Builtin.List.listTooLong (us.size + ws.size)) = true) (h1 : us.size ≤ sizeLine) (h2 : (us ++ ws).size ≤ sizeLine + 1) :
    Meets (Builtin.«list.extend» ⟨[.ref l, .ref b], []⟩) (fun _ R s => s.heap.get? l = some { cls := .type "list", data := .seq us n } ∧ s.heap.get? b = some { cls := .type "list", data := .seq ws n2, slots := sl } ∧
      R (.ok (.ret Value.none)) { s with heap := s.heap.update l (Obj.mapSeq fun x => x ++ ws) }) :=
  .of_wp fun prog w A R s h => by
    obtain ⟨hp, g, d, tk, os⟩ := s
    obtain ⟨hl, hb, h⟩ := h
    have f1 := AutoSeq1.idx_int
    have f2 := AutoSeq1.sub_tuple_tuple
    have f3 := AutoSeq1.sub_list_list
    have f4 := AutoSeq1.sub_tuple_list
    have f5 := AutoSeq1.sub_list_tuple
    wp_walk using (wpAny_updateSeq hl rfl (hz := h1) (_hz' := h2)), AutoSeq1.wpAny_loadPart' hl, AutoSeq1.wpAny_loadPart' hb
    exact ⟨_, rfl, h⟩
theorem ext_list : MtM X "list.extend" (fun x vs H Q => ∃ l b xs zs, x = .ref l ∧ vs = [.ref b] ∧ H l = some (.lst xs) ∧ SqL X.K H b zs ∧ xs.length + zs.length ≤ sizeLine ∧ Q .non (upd H l (.lst (xs ++ zs)))) := by
  intro pins s σ H x vs v us Q I rx rv h
  obtain ⟨l, b, xs, zs, rfl, rfl, hH, hB, hz, q⟩ := h
  cases rx
  obtain ⟨u, rfl, ru⟩ := rv.one
  cases ru
  obtain ⟨z, its, n, r, hl, e⟩ := I.lstM hH
  obtain ⟨its2, r2, ⟨⟨c2, d2, dt2, sl2⟩, n2, e2, c2', d2', t2'⟩, _⟩ := I.list hB
  simp only at c2' d2' t2'
  subst c2' d2' t2'
  have hl2 := r2.length
  have hsz : its.toArray.size + its2.toArray.size ≤ sizeLine := by rw [List.size_toArray, List.size_toArray]; omega
  have hlong : ¬ (!its.toArray.isEmpty && Builtin.List.listTooLong (its.toArray.size + its2.toArray.size)) = true := by
    rw [notLongL hsz, Bool.and_false]
    exact Bool.false_ne_true
  refine call_meets F.slot_list_extend ⟨_, e, rfl⟩ F.entry_list_extend (F.args_list_extend_2 _ _)
    (extend_lst l b its.toArray its2.toArray n n2 sl2 hlong (by rw [List.size_toArray]; omega) (by rw [Array.size_append]; omega)) ⟨e, e2, ?_⟩
  refine ⟨.non, _, I.lset (its' := its ++ its2) hH e (by simp) (r.append r2) ?_, rfl, q⟩
  rw [List.length_append]
  omega
theorem mtm_or {id : String} {r r' : V → List V → Hp → VK → Prop} (h : MtM X id r) (h' : MtM X id r') : MtM X id (fun x vs H Q => r x vs H Q ∨ r' x vs H Q) := by
  intro pins s σ H x vs v us Q I rx rv q
  rcases q with q | q
  · exact h pins s σ H x vs v us Q I rx rv q
  · exact h' pins s σ H x vs v us Q I rx rv q
theorem ds_ext {n i : Nat} {xo : Expr} {p4 : Pos} (hn : X.N.length = n) (hi : i < n) (hfn : X.fn "" = true) (hv : PE X xo (tVar i)) (he : DE X e me)
    (hbase : attributeBase xo "extend" X.env (eval xo X.env) = eval xo X.env := by rfl)
    (hfew : ((backTo p3 (starEach [e] X.env)).all (fun x => !x.1) && (backToKw p3 (keywordEach [] X.env)).all (fun x => x.1.isSome)
      && decide ([e].length + ([] : List Keyword).length + (if ([] : List Keyword).isEmpty then 0 else 1) < 30)) = true := by rfl)
    (hline : (p2.endLine == p3.line) = true := by rfl) (hs : starEach [e] X.env = (false, eval e X.env) :: starEach [] X.env := by rfl) (hplain : (backTo p3 (starEach [] X.env)).any (·.1) = false := by rfl) :
    DS X PX (.Expr (.Call (.Attribute xo "extend" p2) [e] [] p3) p4) (sExt n i me) := by
  obtain ⟨t, p, q⟩ := he
  refine ⟨_, ps_expr (pe_bm PySem.F.plainAttrs_list PySem.F.slot_list_extend PySem.F.type_list_extend (mtm_or ext_tuple ext_list) hv (pa_cons p pa_nil hs) hbase hfew hline hs hplain), fun os σ H δ r D s m k => ?_⟩
  obtain ⟨y, e1, m⟩ := bind_inv m
  split at m
  · rename_i ds es ho
    split at m
    · rename_i hl
      cases m
      obtain ⟨w1, w2, a, w3, w4, w5, xs, w6, w7⟩ := s.own_at hn hi ho
      refine ⟨_, w3, .inl ⟨rfl, xs, .of w6⟩, q os σ H δ _ _ s e1 fun v H' g rv => ?_⟩
      obtain ⟨b, zs, rfl, hb, hd⟩ := rv.tup_inv
      have l1 := w7.length
      have l2 := hd.length
      refine .inl ⟨a, b, xs, zs, rfl, rfl, g _ _ w6, .of (hide_le _ _ hb), by rw [lim_eq]; omega, ?_⟩
      obtain ⟨s2, f2⟩ := (s.mono g).chg (d' := .lst (ds ++ es)) (o := .lst (xs ++ zs)) hn hi hfn ho w3 ⟨_, upd_same, (w7.mono g.hd _ _).append hd⟩
      exact k σ _ os ((Fr.of g).trans f2) s2
    · cases m
  · rename_i ds es ho
    split at m
    · rename_i hl
      cases m
      obtain ⟨w1, w2, a, w3, w4, w5, xs, w6, w7⟩ := s.own_at hn hi ho
      refine ⟨_, w3, .inl ⟨rfl, xs, .of w6⟩, q os σ H δ _ _ s e1 fun v H' g rv => ?_⟩
      obtain ⟨b, zs, rfl, hb, hd⟩ := rv.lst_inv
      have l1 := w7.length
      have l2 := hd.length
      refine .inr ⟨a, b, xs, zs, rfl, rfl, g _ _ w6, hide_le.seq hb, by rw [lim_eq]; omega, ?_⟩
      obtain ⟨s2, f2⟩ := (s.mono g).chg (d' := .lst (ds ++ es)) (o := .lst (xs ++ zs)) hn hi hfn ho w3 ⟨_, upd_same, (w7.mono g.hd _ _).append hd⟩
      exact k σ _ os ((Fr.of g).trans f2) s2
    · cases m
  · cases m
theorem get_list : PGet X (rIxL X.K) := by
  intro pins s σ H o i ov iv Q I ro ri h
  obtain ⟨p, xs, k, z, rfl, rfl, hq, he, q⟩ := h
  cases ro
  obtain ⟨t, rfl⟩ := ri
  obtain ⟨its, r, pl, hz⟩ := I.list hq
  obtain ⟨j, h1, h2, h3, h4, h5⟩ := atI_get he
  obtain ⟨w, ew, rw'⟩ := r.get h2
  have hl := r.length
  have hn := line63
  by_cases h0 : 0 ≤ k
  · have hj : k.toNat = j := by
      rw [seqIndex_of h0 h5] at h1
      exact Option.some.inj h1
    exact wpAny_getItem_list pl.isList h0 (by omega) (by rw [hj]; simpa using ew) ⟨z, H, I, rw', q⟩
  · have hj : (k + (its.toArray.size : Int)).toNat = j := by
      rw [seqIndex_neg (by omega) h4] at h1
      rw [List.size_toArray, ← hl]
      exact Option.some.inj h1
    exact wpAny_getItem_list_neg pl.isList (by omega) (by rw [List.size_toArray] <;> omega) (by omega) (by rw [hj]; simpa using ew) ⟨z, H, I, rw', q⟩
theorem atI_of {α : Type} {xs : List α} {i : Int} {j : Nat} {v : α} (h : ixD xs.length i = some j) (hv : xs[j]? = some v) : atI xs i = some v := by
  unfold atI
  rw [show ixN xs.length i = some j from h]
  exact hv
theorem dens_set {K : PySem.W.Frag} {B : Hp} : ∀ {ds : List D} {xs : List V} {d : D} {v : V} (q : Nat), Dens K B ds xs → Den K B d v → Dens K B (ds.set q d) (xs.set q v)
  | [], _, _, _, _, h, _ => by rw [h.unnil]; exact .nil
  | c :: ds, _, _, _, 0, h, hv => by
    obtain ⟨x, r, rfl, h1, h2⟩ := h.uncons
    exact .cons hv h2
  | c :: ds, _, _, _, q + 1, h, hv => by
    obtain ⟨x, r, rfl, h1, h2⟩ := h.uncons
    exact .cons h1 (dens_set q h2 hv)
theorem ds_putL {n i : Nat} {xo kx : Expr} {tp : Pos} {mk : ME} (hn : X.N.length = n) (hi : i < n) (hfn : X.fn "" = true) (hv : PE X xo (tVar i)) (hk : DE X kx mk) (he : DE X e me)
    (ha : ∀ v, assign (.Subscript xo kx tp) X.env v = (do
      let ov ← holding [v] (eval xo X.env)
      let iv ← holding [v, ov] (eval kx X.env)
      standAt tp
      holding [v, ov, iv] (setItem ov iv v)
      release [v, ov, iv] []) := by intro _; rfl)
    (hs : swapsWithSole [.Subscript xo kx tp] e pos.line X.env = pure false := by rfl) (hw : swappedStores [.Subscript xo kx tp] e X.env = pure none := by rfl)
    (h1 : (assignEach [.Subscript xo kx tp] X.env).map (·.2) = [assign (.Subscript xo kx tp) X.env] := by rfl) :
    DS X PX (.Assign [.Subscript xo kx tp] e pos) (sPutL n i mk me) := by
  obtain ⟨te, pe, qe⟩ := he
  obtain ⟨tk, pk, qk⟩ := hk
  refine ⟨_, ps_asg pe (pg_sub hv pk set_list ha) hs hw h1, fun os σ H δ r D s m k => ?_⟩
  obtain ⟨y, e1, m⟩ := bind_inv m
  obtain ⟨z, e2, m⟩ := bind_inv m
  split at m
  · rename_i ds j ho
    obtain ⟨q, e3, m⟩ := bind_inv m
    cases m
    obtain ⟨w1, w2, a, w3, w4, w5, xs, w6, w7⟩ := s.own_at hn hi ho
    refine qe os σ H δ y _ s e1 fun v H1 g1 rv => ⟨_, w3, qk os σ H1 δ _ _ (s.mono g1) e2 fun u H2 g2 ru => ?_⟩
    have g12 := g1.trans g2
    refine ⟨a, xs, j, q, rfl, ru.int_inv, g12 _ _ w6, by rw [← w7.length]; exact e3, ?_⟩
    obtain ⟨s2, f2⟩ := (s.mono g12).chg (d' := .lst (ds.set q y)) (o := .lst (xs.set q v)) hn hi hfn ho w3 ⟨_, upd_same, dens_set q (w7.mono g12.hd _ _) (rv.mono g2.hd _ _)⟩
    exact k σ _ os ((Fr.of g12).trans f2) s2
  · cases m
theorem ds_augL {n i : Nat} {xo kx : Expr} {tp : Pos} {mk : ME} (hn : X.N.length = n) (hi : i < n) (hfn : X.fn "" = true) (hv : PE X xo (tVar i)) (hk : DE X kx mk) (he : DE X e me)
    (ha : ∀ ov iv new, augStore kx ov iv new = (do holding [new, ov, iv] (setItem ov iv new); release [new, ov, iv] []; pure .next) := by intros; rfl) :
    DS X PX (.AugAssign (.Subscript xo kx tp) .Add e pos) (sAugL n i mk me) := by
  obtain ⟨te, pe, qe⟩ := he
  obtain ⟨tk, pk, qk⟩ := hk
  refine ⟨_, ps_augS hv pk get_list pe ip_add set_list ha, fun os σ H δ r D s m k => ?_⟩
  obtain ⟨z, e2, m⟩ := bind_inv m
  obtain ⟨y, e1, m⟩ := bind_inv m
  split at m
  · rename_i ds j b ho _
    obtain ⟨q, e3, m⟩ := bind_inv m
    obtain ⟨o, e4, m⟩ := bind_inv m
    cases o with
    | int c =>
      cases m
      obtain ⟨w1, w2, a, w3, w4, w5, xs, w6, w7⟩ := s.own_at hn hi ho
      refine ⟨_, w3, qk os σ H δ _ _ s e2 fun u H1 g1 ru => ?_⟩
      obtain ⟨v, hv1, hv2⟩ := w7.get e4
      refine ⟨a, xs, j, v, rfl, ru.int_inv, .of (g1 _ _ w6), atI_of (by rw [← w7.length]; exact e3) hv1, ?_⟩
      refine qe os σ H1 δ _ _ (s.mono g1) e1 fun w H2 g2 rw' => ⟨c, b, hv2.int_inv, rw'.int_inv, ?_⟩
      have g12 := g1.trans g2
      refine ⟨a, xs, j, q, rfl, ru.int_inv, g12 _ _ w6, by rw [← w7.length]; exact e3, ?_⟩
      obtain ⟨s2, f2⟩ := (s.mono g12).chg (d' := .lst (ds.set q (.int (c + b)))) (o := .lst (xs.set q (.int (c + b)))) hn hi hfn ho w3 ⟨_, upd_same, dens_set q (w7.mono g12.hd _ _) (.int _)⟩
      exact k σ _ os ((Fr.of g12).trans f2) s2
    | _ => cases m
  · cases m
theorem cutV_drop (xs : List V) (k : Nat) : cutV xs (some (k : Int)) none = xs.drop k := by
  unfold cutV
  rw [HT.sIx_none, HT.sIx_nat, List.take_of_length_le (by rw [List.length_drop]; omega)]
  rcases Nat.le_total k xs.length with h | h
  · rw [Nat.min_eq_left h]
  · rw [Nat.min_eq_right h, List.drop_of_length_le (Nat.le_refl _), List.drop_of_length_le h]
theorem _root_.DL.Dens.drop {K : PySem.W.Frag} {B : Hp} : ∀ {ds : List D} {xs : List V} (n : Nat), Dens K B ds xs → Dens K B (ds.drop n) (xs.drop n)
  | _, _, 0, h => by rw [List.drop_zero, List.drop_zero]; exact h
  | [], _, n + 1, h => by rw [h.unnil]; exact .nil
  | d :: ds, _, n + 1, h => by
    obtain ⟨x, r, rfl, h1, h2⟩ := h.uncons
    exact h2.drop n
theorem de_from (k : Nat) {j : Nat} (he : DE X e me) : DE X (.Subscript e (.Slice (some (.Constant (.int k) j p3)) none none p2) pos) (eUn (uFrom k) me) := by
  obtain ⟨te, pe, qe⟩ := he
  refine ⟨_, pe_slice (sl_list.or (sl_tup.or sl_tupW)) pe (po_some pe_int) po_none, fun os σ H δ d Q s m kq => ?_⟩
  obtain ⟨dx, e1, m⟩ := bind_inv m
  refine qe os σ H δ dx _ s e1 fun x H1 g1 r1 => ⟨(k : Int), rfl, ?_⟩
  cases dx with
  | lst ds =>
    cases m
    obtain ⟨a, xs, rfl, h1, h2⟩ := r1.lst_up
    refine .inl ⟨a, xs, rfl, h1, fun q hq => ?_⟩
    rw [cutV_drop]
    exact kq _ _ (g1.trans (same_new hq (.lst (xs.drop k)))) (.newL (s.live.mono g1) hq (h2.drop k))
  | tup ds =>
    cases m
    obtain ⟨a, xs, rfl, h1, h2⟩ := r1.tup_up
    have hl := h2.length
    by_cases hw : k = 0
    · subst hw
      refine .inr (.inr ⟨a, xs, rfl, h1, ⟨by rw [HT.sIx_nat]; omega, HT.sIx_none _ _⟩, ?_⟩)
      exact kq _ H1 g1 r1
    · by_cases h0 : xs.length = 0
      · have ex : xs = [] := List.length_eq_zero_iff.mp h0
        have ed : ds = [] := List.length_eq_zero_iff.mp (by omega)
        subst ex ed
        refine .inr (.inr ⟨a, [], rfl, h1, ⟨by rw [HT.sIx_nat]; simp, HT.sIx_none _ _⟩, ?_⟩)
        rw [List.drop_nil] at kq
        exact kq _ H1 g1 r1
      · refine .inr (.inl ⟨a, xs, rfl, h1, fun z => ?_, fun q hq => ?_⟩)
        · rw [HT.sIx_nat] at z
          omega
        · rw [cutV_drop]
          exact kq _ _ (g1.trans (same_new hq (.tup (xs.drop k)))) (.newT (s.live.mono g1) hq (h2.drop k))
  | _ => cases m
end
end DL

set_option Elab.async false
set_option linter.all false
set_option maxRecDepth 100000
namespace DL
open PySem PySem.Spec PyProof.Rows L2
section
variable {X : Cx} {pins : List (Addr × Obj)} {σ : L2.St} {H : Hp} {s : Shared}
theorem pair_inv {fp : List Addr} {T : Addr} {x y : V} {u w : Value} {h2 : Heap} {tk' : Nat} (I : Inv X pins σ H s) (hf : ∀ b ∈ fp, FpOk X pins H b) (hlt : ∀ b ∈ fp, b < s.heap.objs.size) (hT : T = s.heap.objs.size) (ru : RelV x u) (rw' : RelV y w)
    (hk : ∀ b o, b ∉ fp → s.heap.get? b = some o → h2.get? b = some o) (ht : h2.get? T = some { cls := .type "tuple", data := .seq #[u, w] }) :
    Inv X pins σ (upd H T (.tup [x, y])) { s with heap := h2, toks := tk' } := by
  subst hT
  have I1 : Inv X pins σ (upd H s.heap.objs.size (.tup [x, y])) { s with heap := s.heap.push { cls := .type "tuple", data := .seq [u, w].toArray }, toks := tk' } := by
    refine I.laid (t' := tk') (fun b o q => Heap.get?_push_of_some _ q) (Nat.le_refl _) ?_
    exact ⟨by show 2 ≤ sizeLine; rw [lim_eq]; decide, [u, w], .cons ru (.cons rw' .nil), IsTup.new _ _⟩
  have T1 := turnedL (t' := tk') (h' := h2) (fp := fp) I1
  refine T1 (fun b hb => ⟨?_, (hf b hb).2⟩) fun b o hb q => ?_
  · rw [upd_ne (Nat.ne_of_lt (hlt b hb))]
    exact (hf b hb).1
  · by_cases hz : b = s.heap.objs.size
    · subst hz
      have q' := (Heap.get?_push_size s.heap (o := { cls := .type "tuple", data := .seq [u, w].toArray }) rfl).symm.trans q
      cases q'
      exact ht
    · have q' : (s.heap.push { cls := .type "tuple", data := .seq [u, w].toArray }).get? b = some o := q
      have hlt' : b < (s.heap.push { cls := .type "tuple", data := .seq [u, w].toArray }).objs.size := Heap.lt_size q'
      rw [Heap.size_push] at hlt'
      have hb' : b < s.heap.objs.size := Nat.lt_of_le_of_ne (Nat.le_of_lt_succ hlt') hz
      refine hk b o hb ?_
      obtain ⟨q1, q2⟩ := Heap.get?_some_iff.mp q'
      have q3 : s.heap.objs[b]? = some o := by
        revert q1
        generalize s.heap = hh at hb' ⊢
        cases hh
        intro q1
        simpa [Heap.push, Array.getElem?_push, Nat.ne_of_lt hb'] using q1
      exact Heap.get?_some_iff.mpr ⟨q3, q2⟩
def Itz (K : PySem.W.Frag) (l1 l2 : Addr) : It :=
  ⟨fun i H => ∃ xs ys x y, SqL K H l1 xs ∧ SqL K H l2 ys ∧ xs[i]? = some x ∧ ys[i]? = some y,
   fun i H v H' => ∃ x y t, (∀ xs, SqL K H l1 xs → xs[i]? = some x) ∧ (∀ ys, SqL K H l2 ys → ys[i]? = some y) ∧ H t = none ∧ v = .ref t ∧ H' = upd H t (.tup [x, y]),
   fun i H => ∃ xs ys, SqL K H l1 xs ∧ SqL K H l2 ys ∧ (xs[i]? = none ∨ ys[i]? = none)⟩
def ZSt (z TI TO i1 i2 l1 l2 : Addr) (i : Nat) (h : Heap) : Prop := IsZip h z TI TO .none ∧ IsPair h TI (.ref i1) (.ref i2) ∧ (∃ a b, IsPair h TO a b) ∧ h.IsListIter i1 l1 i ∧ h.IsListIter i2 l2 i
theorem turn_zip {P : Program} {w : World} {K : PySem.W.Frag} {elts : List Expr} {k : Nat} {pos : Pos} {z TI TO i1 i2 l1 l2 : Addr} (D : ZipApart z TI TO i1 i2 l1 l2) :
    Turn P w K (.Tuple elts k pos) (Itz K l1 l2) [z, TI, TO, i1, i2] z (ZSt z TI TO i1 i2 l1 l2) where
  mem := by simp
  obj := fun i h st b hb => by
    obtain ⟨a1, a2, ⟨a, b', a3⟩, ⟨o1, a4, _, c4⟩, ⟨o2, a5, _, c5⟩⟩ := st
    simp only [List.mem_cons, List.not_mem_nil, or_false] at hb
    rcases hb with rfl | rfl | rfl | rfl | rfl
    · exact ⟨_, a1, fun v z => by cases z⟩
    · exact ⟨_, a2, fun v z => by cases z⟩
    · exact ⟨_, a3, fun v z => by cases z⟩
    · exact ⟨_, a4, fun v z => by rw [c4] at z; cases z⟩
    · exact ⟨_, a5, fun v z => by rw [c5] at z; cases z⟩
  keep := fun i h h' st kp => by
    obtain ⟨a1, a2, ⟨a, b', a3⟩, a4, a5⟩ := st
    exact ⟨kp z (by simp) _ a1, kp TI (by simp) _ a2, ⟨a, b', kp TO (by simp) _ a3⟩, a4.at fun o q => kp i1 (by simp) o q, a5.at fun o q => kp i2 (by simp) o q⟩
  item := by
    intro X hP hw hK hc i pins s σ H E I hf st hg
    subst hP hw hK
    obtain ⟨xs, ys, x, y, hq1, hq2, hx, hy⟩ := hg
    obtain ⟨its1, rv1, p1, _⟩ := I.list hq1
    obtain ⟨its2, rv2, p2, _⟩ := I.list hq2
    obtain ⟨u, hu, ru⟩ := rv1.get hx
    obtain ⟨v, hv, rv⟩ := rv2.get hy
    obtain ⟨a1, a2, ⟨a, b', a3⟩, a4, a5⟩ := st
    have lt : ∀ b ∈ [z, TI, TO, i1, i2], b < s.heap.objs.size := fun b hb => by
      simp only [List.mem_cons, List.not_mem_nil, or_false] at hb
      rcases hb with rfl | rfl | rfl | rfl | rfl
      · exact Heap.lt_size a1
      · exact Heap.lt_size a2
      · exact Heap.lt_size a3
      · obtain ⟨o, q, _⟩ := a4; exact Heap.lt_size q
      · obtain ⟨o, q, _⟩ := a5; exact Heap.lt_size q
    refine wpAny_pyNext_zip_item D a1 a2 a3 a4 a5 p1.isList p2.isList (x := u) (y := v) (by simpa using hu) (by simpa using hv) fun h1 b1 b2 b3 b4 b5 b6 b7 => ?_
    refine ⟨_, rfl, wpAny_letOwnedTupleGo_zip b1 fun h2 c1 c2 => ?_⟩
    have c2' : Heap.SameBut z h1 h2 := c2
    have ne : ∀ b ∈ [z, TI, TO, i1, i2], s.heap.objs.size ≠ b := fun b hb => Nat.ne_of_gt (lt b hb)
    refine ⟨.ref s.heap.objs.size, upd H s.heap.objs.size (.tup [x, y]), ?_, rfl, ⟨x, y, s.heap.objs.size, fun ws hw' => by rw [I.list_inj hw' hq1]; exact hx, fun ws hw' => by rw [I.list_inj hw' hq2]; exact hy, I.fresh, rfl, rfl⟩, ⟨c1, ?_, ⟨_, _, (c2'.2 _ D.TOz).trans b2⟩, ?_, ?_⟩, fun b hb => ?_⟩
    · refine pair_inv (s := s) (fp := [z, TI, TO, i1, i2]) (tk' := s.toks) I hf lt rfl ru rv (fun b o hb q => ?_) ((c2'.2 _ (ne z (by simp))).trans b5)
      have n1 : b ≠ z := fun e => hb (by simp [e])
      exact (c2'.2 _ n1).trans (b7 b o n1 (fun e => hb (by simp [e])) (fun e => hb (by simp [e])) (fun e => hb (by simp [e])) q)
    · exact (c2'.2 _ D.TIz).trans (b7 _ _ D.TIz D.TITO D.TIi1 D.TIi2 a2)
    · obtain ⟨o, q, r⟩ := b3
      exact ⟨o, (c2'.2 _ D.i1z).trans q, r⟩
    · obtain ⟨o, q, r⟩ := b4
      exact ⟨o, (c2'.2 _ D.i2z).trans q, r⟩
    · rw [upd_ne (Nat.ne_of_lt (lt b hb))]
      exact (hf b hb).1
  done := by
    intro X hP hw hK hc i pins s σ H E I hf st hg
    subst hP hw hK
    obtain ⟨xs, ys, hq1, hq2, hn⟩ := hg
    obtain ⟨its1, rv1, p1, _⟩ := I.list hq1
    obtain ⟨its2, rv2, p2, _⟩ := I.list hq2
    have e1 := rv1.length
    have e2 := rv2.length
    obtain ⟨a1, a2, ⟨a, b', a3⟩, a4, a5⟩ := st
    refine wpAny_pyNext_zip_end (I.ok.hd hc) D a1 a2 a3 a4 a5 p1.isList p2.isList ?_ fun h' hk' => ⟨rfl, ?_⟩
    · rcases hn with hn | hn
      · left
        rw [List.getElem?_eq_none_iff] at hn
        simp
        omega
      · right
        rw [List.getElem?_eq_none_iff] at hn
        simp
        omega
    · exact turnedL (t' := s.toks) I hf fun b o hb q => hk' b o (fun e => hb (by simp [e])) (fun e => hb (by simp [e])) (fun e => hb (by simp [e])) (fun e => hb (by simp [e])) q
  self := fun _ _ _ _ _ st h => wpAny_pyIter_zip st.1 h
end
section
variable {X : Cx} {a b : Expr} {ma mb : ME} {pos pos' p : Pos} {elts : List Expr} {kt : Nat}
def iZipT (K : PySem.W.Frag) (ta : TA) : TI := fun σ H R => ta σ H fun vs H1 => ∃ l1 l2 xs ys, vs = [.ref l1, .ref l2] ∧ SqL K H1 l1 xs ∧ SqL K H1 l2 ys ∧ R (Itz K l1 l2) H1
theorem pi_zip {ta : TA} (hg : Gl X "zip") (hm : X.mg "zip" = none) (ha : PA X [a, b] ta) (h1 : starEach [a, b] X.env = (false, eval a X.env) :: starEach [b] X.env := by rfl) (hpl : (backTo pos (starEach [b] X.env)).any (·.1) = false := by rfl) :
    PI X (.Tuple elts kt pos') (.Call (.Name "zip" p) [a, b] [] pos) (iZipT X.K ta) := by
  intro pins s σ H R I h
  refine Call_ (ld_blt I hg hm (by rfl) (PyProof.Rows.callWith_type1 (thn (ha pos pins s σ H _ I h) fun us s1 ⟨vs, H1, I1, r1, q1⟩ => ?_) h1 hpl))
  obtain ⟨l1, l2, xs, ys, e, hq1, hq2, q⟩ := q1
  subst e
  obtain ⟨u, v, rfl, ru, rv⟩ := vals2 r1
  cases ru
  cases rv
  obtain ⟨its1, rv1, p1, _⟩ := I1.list hq1
  obtain ⟨its2, rv2, p2, _⟩ := I1.list hq2
  have a1 : l1 < s1.heap.objs.size := by obtain ⟨_, q, _⟩ := p1.isList; exact Heap.lt_size q
  have a2 : l2 < s1.heap.objs.size := by obtain ⟨_, q, _⟩ := p2.isList; exact Heap.lt_size q
  refine call_zip_2 p1.isList p2.isList fun h' hz hTI hTO hi1 hi2 hsz hk => wpAny_pyIter_zip hz ?_
  refine ⟨s1.heap.objs.size + 4, [s1.heap.objs.size + 4, s1.heap.objs.size + 2, s1.heap.objs.size + 3, s1.heap.objs.size, s1.heap.objs.size + 1], _, _, H1, rfl, I1.kept (t' := s1.toks) hk, turn_zip (zipApart_new a1 a2), ⟨hz, hTI, ⟨_, _, hTO⟩, hi1, hi2⟩, fun b hb => ?_, q⟩
  have hb' : s1.heap.objs.size ≤ b := by
    simp only [List.mem_cons, List.not_mem_nil, or_false] at hb
    rcases hb with rfl | rfl | rfl | rfl | rfl
    · exact Nat.le_add_right _ _
    · exact Nat.le_add_right _ _
    · exact Nat.le_add_right _ _
    · exact Nat.le_refl _
    · exact Nat.le_add_right _ _
  exact I1.fpOk hb' (I1.hok.fresh hb')
theorem zip_getD (xs ys : List D) (i : Nat) (d : D) (h : (zipD xs ys)[i]? = some d) : ∃ x y, xs[i]? = some x ∧ ys[i]? = some y ∧ d = .tup [x, y] := by
  unfold zipD at h
  rw [List.getElem?_map] at h
  cases hz : (xs.zip ys)[i]? with
  | none => rw [hz] at h; cases h
  | some q =>
    rw [hz] at h
    obtain ⟨e1, e2⟩ := List.getElem?_zip_eq_some.mp hz
    exact ⟨q.1, q.2, e1, e2, (Option.some.inj h).symm⟩
theorem walk_zip {K : PySem.W.Frag} {B : Hp} {l1 l2 : Addr} {ds es : List D} {xs ys : List V} (h1 : SqL K B l1 xs) (d1 : Dens K B ds xs) (h2 : SqL K B l2 ys) (d2 : Dens K B es ys) : Walk K (Itz K l1 l2) B (zipD ds es) := by
  intro i os1 H1 L g
  have gu := g.trans hide_le
  refine ⟨fun d hd => ?_, fun hl => ⟨xs, ys, gu.seq h1, gu.seq h2, ?_⟩⟩
  · obtain ⟨x, y, e1, e2, rfl⟩ := zip_getD ds es i d hd
    obtain ⟨v, hv, rv⟩ := d1.get e1
    obtain ⟨w, hw, rw'⟩ := d2.get e2
    refine ⟨⟨xs, ys, v, w, gu.seq h1, gu.seq h2, hv, hw⟩, fun u H2 z => ?_⟩
    obtain ⟨v', w', t, z1, z2, ht, rfl, rfl⟩ := z
    have q1 := z1 xs (gu.seq h1)
    have q2 := z2 ys (gu.seq h2)
    rw [hv] at q1
    rw [hw] at q2
    cases q1
    cases q2
    exact ⟨same_new ht (.tup [v, w]), .newT L ht (.cons (rv.mono g _ _) (.cons (rw'.mono g _ _) .nil))⟩
  · have l1 := d1.length
    have l2 := d2.length
    have hz : (zipD ds es).length = min ds.length es.length := by simp [zipD]
    rw [List.getElem?_eq_none_iff, List.getElem?_eq_none_iff]
    omega
theorem di_zip (hg : Gl X "zip") (hm : X.mg "zip" = none) (ha : DE X a ma) (hb : DE X b mb) (h1 : starEach [a, b] X.env = (false, eval a X.env) :: starEach [b] X.env := by rfl) (h2 : starEach [b] X.env = (false, eval b X.env) :: starEach [] X.env := by rfl) (hpl : (backTo pos (starEach [b] X.env)).any (·.1) = false := by rfl) :
    DI X (.Tuple elts kt pos') (.Call (.Name "zip" p) [a, b] [] pos) (iZip ma mb) := by
  obtain ⟨ta, pa, qa⟩ := ha
  obtain ⟨tb, pb, qb⟩ := hb
  refine ⟨_, pi_zip hg hm (pa_cons pa (pa_cons pb pa_nil h2) h1) h1 hpl, fun os σ H δ xs R s m k => ?_⟩
  obtain ⟨dx, e1, m⟩ := bind_inv m
  obtain ⟨dy, e2, m⟩ := bind_inv m
  refine qa os σ H δ dx _ s e1 fun v H1 g1 r1 => ?_
  refine qb os σ H1 δ dy _ (s.mono g1) e2 fun w H2 g2 r2 => ?_
  match dx, dy, m with
  | .lst ds, .lst es, m =>
    cases m
    obtain ⟨l1, xs, rfl, h1, d1⟩ := (r1.mono g2.hd _ _).lst_inv
    obtain ⟨l2, ys, rfl, h2, d2⟩ := r2.lst_inv
    exact ⟨l1, l2, xs, ys, rfl, hide_le.seq h1, hide_le.seq h2, k _ H2 (g1.trans g2) (walk_zip h1 d1 h2 d2)⟩
end
end DL

set_option Elab.async false
set_option linter.all false
namespace DL
open PySem
def Cut (xs : Array Nat) (j r : Nat) : Prop := r ≤ xs.size ∧ (∀ i v, i < r → xs[i]? = some v → v < j) ∧ ∀ i v, r ≤ i → xs[i]? = some v → j ≤ v
def Ris (xs : Array Nat) : Prop := xs.toList.Pairwise (· < ·)
theorem Ris.lt {xs : Array Nat} (h : Ris xs) {i k u v : Nat} (hk : i < k) (h1 : xs[i]? = some u) (h2 : xs[k]? = some v) : u < v := by
  rw [← Array.getElem?_toList] at h1 h2
  obtain ⟨a1, e1⟩ := List.getElem?_eq_some_iff.mp h1
  obtain ⟨a2, e2⟩ := List.getElem?_eq_some_iff.mp h2
  have := List.pairwise_iff_getElem.mp h i k a1 a2 hk
  rw [e1, e2] at this
  exact this
theorem below_go {xs : Array Nat} (h : Ris xs) (j : Nat) : ∀ (f lo hi : Nat), hi - lo ≤ f → lo ≤ hi → hi ≤ xs.size → (∀ i v, i < lo → xs[i]? = some v → v < j) → (∀ i v, hi ≤ i → xs[i]? = some v → j ≤ v) → Cut xs j (SetTable.below.go xs j f lo hi)
  | 0, lo, hi, hf, hl, hs, h1, h2 => by
    rw [SetTable.below.go]
    exact ⟨by omega, h1, fun i v hi' => h2 i v (by omega)⟩
  | f + 1, lo, hi, hf, hl, hs, h1, h2 => by
    rw [SetTable.below.go]
    by_cases hlt : lo < hi
    · rw [if_pos hlt]
      have hm : (lo + hi) / 2 < xs.size := by omega
      have e : xs[(lo + hi) / 2]? = some xs[(lo + hi) / 2] := Array.getElem?_eq_getElem hm
      have eD : xs.getD ((lo + hi) / 2) j = xs[(lo + hi) / 2] := by simp [hm]
      simp only [eD]
      by_cases hc : xs[(lo + hi) / 2] < j
      · rw [if_pos hc]
        refine below_go h j f _ _ (by omega) (by omega) hs (fun i v hi' q => ?_) h2
        by_cases hq : i = (lo + hi) / 2
        · subst hq
          rw [e] at q
          cases q
          exact hc
        · have := h.lt (show i < (lo + hi) / 2 by omega) q e
          omega
      · rw [if_neg hc]
        refine below_go h j f _ _ (by omega) (by omega) (by omega) h1 fun i v hi' q => ?_
        by_cases hq : i = (lo + hi) / 2
        · subst hq
          rw [e] at q
          cases q
          omega
        · have := h.lt (show (lo + hi) / 2 < i by omega) e q
          omega
    · rw [if_neg hlt]
      exact ⟨by omega, h1, fun i v hi' => h2 i v (by omega)⟩
theorem below_cut {xs : Array Nat} (h : Ris xs) (j : Nat) : Cut xs j (SetTable.below xs j) := by
  unfold SetTable.below
  refine below_go h j _ _ _ (by omega) (by omega) (Nat.le_refl _) (fun i v hi => by omega) fun i v hi q => ?_
  rw [Array.getElem?_eq_none hi] at q
  cases q
theorem Cut.uniq {xs : Array Nat} {j r r' : Nat} (h : Cut xs j r) (h' : Cut xs j r') : r = r' := by
  rcases Nat.lt_trichotomy r r' with q | q | q
  · have hr := Nat.lt_of_lt_of_le q h'.1
    have e : xs[r]? = some xs[r] := Array.getElem?_eq_getElem hr
    have a := h'.2.1 r _ q e
    have b := h.2.2 r _ (Nat.le_refl _) e
    omega
  · exact q
  · have hr := Nat.lt_of_lt_of_le q h.1
    have e : xs[r']? = some xs[r'] := Array.getElem?_eq_getElem hr
    have a := h.2.1 r' _ q e
    have b := h'.2.2 r' _ (Nat.le_refl _) e
    omega
theorem below_next {xs : Array Nat} (h : Ris xs) {i v : Nat} (e : xs[i]? = some v) : SetTable.below xs (v + 1) = i + 1 := by
  have hi : i < xs.size := (Array.getElem?_eq_some_iff.mp e).1
  refine (below_cut h (v + 1)).uniq ⟨by omega, fun k u hk q => ?_, fun k u hk q => ?_⟩
  · by_cases z : k = i
    · subst z
      rw [e] at q
      cases q
      omega
    · have := h.lt (show k < i by omega) q e
      omega
  · exact h.lt (show i < k by omega) e q
theorem below_zero (xs : Array Nat) (h : Ris xs) : SetTable.below xs 0 = 0 :=
  (below_cut h 0).uniq ⟨Nat.zero_le _, fun i v hi => by omega, fun _ _ _ _ => Nat.zero_le _⟩
theorem ris_ins {xs : Array Nat} (h : Ris xs) {j : Nat} (hn : xs[SetTable.below xs j]? ≠ some j) : Ris (SetTable.insertAt xs (SetTable.below xs j) j) := by
  obtain ⟨c1, c2, c3⟩ := below_cut h j
  generalize SetTable.below xs j = p at *
  unfold Ris
  rw [SetTable.toList_insertAt, List.pairwise_append]
  refine ⟨h.sublist (List.take_sublist _ _), List.pairwise_cons.mpr ⟨fun b hb => ?_, h.sublist (List.drop_sublist _ _)⟩, fun a ha b hb => ?_⟩
  · obtain ⟨k, hk⟩ := List.mem_iff_getElem?.mp hb
    rw [List.getElem?_drop, Array.getElem?_toList] at hk
    have h1 := c3 _ _ (Nat.le_add_right _ _) hk
    by_cases z : k = 0
    · subst z
      rcases Nat.lt_or_eq_of_le h1 with q | q
      · exact q
      · subst q
        exact absurd hk hn
    · have hp : p < xs.size := by
        have := (Array.getElem?_eq_some_iff.mp hk).1
        omega
      have e : xs[p]? = some xs[p] := Array.getElem?_eq_getElem hp
      have h2 := c3 _ _ (Nat.le_refl _) e
      have h3 := h.lt (show p < p + k by omega) e hk
      omega
  · obtain ⟨k, hk⟩ := List.mem_iff_getElem?.mp ha
    have hkp : k < p := Classical.byContradiction fun z => by
      rw [List.getElem?_eq_none (by rw [List.length_take]; omega)] at hk
      cases hk
    rw [List.getElem?_take_of_lt hkp, Array.getElem?_toList] at hk
    have h1 := c2 _ _ hkp hk
    rcases List.mem_cons.mp hb with rfl | hb
    · exact h1
    · obtain ⟨q, hq⟩ := List.mem_iff_getElem?.mp hb
      rw [List.getElem?_drop, Array.getElem?_toList] at hq
      have h2 := c3 _ _ (Nat.le_add_right _ _) hq
      omega
structure Tb (bt : Bool) (t : SetTable) (n : Nat) : Prop where
  fit : t.fits n = true
  ris : Ris t.place
  nod : t.dummies = #[]
  led : bt = true ∨ t.led = true
theorem tb_fresh (bt : Bool) : Tb bt (.fresh 0 0 (!bt)) 0 := ⟨by decide +revert, by simp [SetTable.fresh, Ris], rfl, by cases bt <;> simp [SetTable.fresh]⟩
theorem no_has (j : Nat) : SetTable.has #[] j = false := by unfold SetTable.has; simp
theorem probe_go {t : SetTable} (hd : t.dummies = #[]) (g : Nat → Int) (h : Int) : ∀ (f : Nat) (p : SetTable.Probe) (j : Nat) (d : Option Nat), p.dummy = none → SetTable.probe.go t g h f p = some (.empty j d) → d = none ∧ t.slot j = .empty
  | 0, p, j, d, _, e => by rw [SetTable.probe.go] at e; cases e
  | f + 1, p, j, d, hp, e => by
    rw [SetTable.probe.go] at e
    have adv : (t.advance p).dummy = none := by unfold SetTable.advance; split <;> exact hp
    split at e
    · rename_i hs
      simp only [Option.some.injEq, SetTable.Met.empty.injEq] at e
      obtain ⟨rfl, rfl⟩ := e
      exact ⟨hp, hs⟩
    · rename_i hs
      exfalso
      unfold SetTable.slot at hs
      simp only [hd, no_has] at hs
      split at hs <;> simp at hs
    · split at e
      · cases e
      · exact probe_go hd g h f _ j d adv e
theorem free_slot {t : SetTable} (hd : t.dummies = #[]) {h : Int} {j : Nat} {b : Bool} (e : t.freeSlot h = some (j, b)) : t.place[SetTable.below t.place j]? ≠ some j := by
  unfold SetTable.freeSlot at e
  split at e
  · rename_i j' d hp
    obtain ⟨rfl, hs⟩ := probe_go hd _ h _ _ _ _ rfl hp
    simp only [Option.getD_none, Option.isSome_none, Option.some.injEq, Prod.mk.injEq] at e
    obtain ⟨rfl, _⟩ := e
    intro z
    unfold SetTable.slot at hs
    simp [z] at hs
  · cases e
theorem tb_stand {bt : Bool} {t : SetTable} (h : bt = true ∨ t.led = true) (n : Nat) : Tb bt (t.standIn n) n :=
  ⟨SetTable.standIn_fits t n, by unfold Ris SetTable.standIn; simp [List.pairwise_lt_range], rfl, h⟩
theorem tb_new {bt : Bool} {t : SetTable} {es : Array (Int × Value)} (T : Tb bt t es.size) (h : Int) (x : Value) : Tb bt (layNew t es h x).2.1 (layNew t es h x).1.size := by
  unfold layNew
  cases e : t.freeSlot h with
  | none =>
    dsimp only
    rw [Array.size_push]
    exact tb_stand T.led _
  | some q =>
    obtain ⟨j, b⟩ := q
    have hn := free_slot T.nod e
    dsimp only
    unfold SetTable.orStandIn
    split
    · rename_i hf
      refine ⟨hf, ris_ins T.ris hn, ?_, T.led⟩
      show (if SetTable.has t.dummies j = true then _ else t.dummies) = #[]
      rw [T.nod, no_has]
      rfl
    · exact tb_stand T.led _
theorem tb_relay {bt : Bool} {t : SetTable} {es : Array (Int × Value)} (hl : bt = true ∨ t.led = true) (k : Nat) : Tb bt (relayAll t es k).2.1 (relayAll t es k).1.size := by
  unfold relayAll
  cases e : t.relaid (es.map (·.1)) k with
  | none => exact tb_stand hl _
  | some q =>
    obtain ⟨t', order⟩ := q
    dsimp only
    split
    · rename_i hc
      simp only [Bool.and_eq_true] at hc
      unfold SetTable.relaid SetTable.laid at e
      obtain ⟨ow, _, e⟩ := Option.bind_eq_some_iff.mp e
      simp only [Option.pure_def, Option.some.injEq, Prod.mk.injEq] at e
      obtain ⟨rfl, _⟩ := e
      refine ⟨hc.2, ?_, rfl, hl⟩
      show List.Pairwise (· < ·) (List.map _ _).toArray.toList
      rw [List.toList_toArray, List.pairwise_map]
      refine List.Pairwise.filterMap _ (fun a a' haa b hb b' hb' => ?_) List.pairwise_lt_range
      obtain ⟨u, _, rfl⟩ := Option.map_eq_some_iff.mp hb
      obtain ⟨u', _, rfl⟩ := Option.map_eq_some_iff.mp hb'
      exact haa
    · exact tb_stand hl _
end DL

set_option Elab.async false
set_option linter.all false
set_option maxRecDepth 100000
namespace DL
open PySem PyProof.Rows
def kOf (e : Int × Value) : Int := match e.2 with
  | .int k _ => k
  | _ => 0
def AllI (es : List (Int × Value)) : Prop := ∀ e ∈ es, ∃ t, e.2 = .int (kOf e) t ∧ e.1 = hashInt (kOf e)
def bt (w : World) : Bool := w.params.followText "set-order"
def SetS (w : World) (h : Heap) (a : Addr) (ks : List Int) : Prop :=
  ∃ o es ep t, h.get? a = some o ∧ o.ExactSet ∧ o.data = .set es ep t ∧ AllI es.toList ∧ (es.toList.map kOf).Perm ks ∧ es.size < scanBound ∧ Tb (bt w) t es.size
theorem AllI.elems {P : Program} {w : World} {es : List (Int × Value)} (h : AllI es) : ElemsOf (intKind P w) es := fun e he => by
  obtain ⟨t, h1, h2⟩ := h e he
  refine ⟨⟨kOf e, ?_, h2⟩, ?_⟩
  · rw [h1]; exact intKind_is P w _ _
  · rw [h1]; rfl
theorem AllI.perm {l l' : List (Int × Value)} (h : AllI l) (p : l'.Perm l) : AllI l' := fun e he => h e (p.mem_iff.mp he)
theorem AllI.snoc {l : List (Int × Value)} (h : AllI l) (n : Int) (t : Tok) : AllI (l ++ [(hashInt n, .int n t)]) := fun e he => by
  rcases List.mem_append.mp he with q | q
  · exact h e q
  · rw [List.mem_singleton.mp q]; exact ⟨t, rfl, rfl⟩
theorem SetS.at' {w : World} {h h' : Heap} {a : Addr} {ks : List Int} (x : SetS w h a ks) (k : ∀ o, h.get? a = some o → h'.get? a = some o) : SetS w h' a ks :=
  let ⟨o, es, ep, t, e, r⟩ := x; ⟨o, es, ep, t, k _ e, r⟩
section
variable {P : Program} {w : World} {A : Around} {E : Value → Shared → Prop} {s : Shared}
theorem kept_set {h : Heap} {a : Addr} {o : Obj} {es es' : Array (Int × Value)} {ep : Nat} {t t' : SetTable} (ho : h.get? a = some o) (hx : o.ExactSet) (hd : o.data = .set es ep t) :
    ∃ o', (h.update a (Obj.putSet es' t')).get? a = some o' ∧ o'.ExactSet ∧ o'.data = .set es' (ep + 1) t' := by
  have q := Heap.get?_update_self (Obj.putSet es' t') ho (by rw [putSet_of es' t' hd]; rfl)
  rw [putSet_of es' t' hd] at q
  exact ⟨_, q, hx, rfl⟩
theorem set_add {a : Addr} {ks : List Int} {n : Int} {tk : Tok} {Q : Bool → Shared → Prop} (hS : SetS w s.heap a ks) (hr : ks.length + 1 < scanBound)
    (k : ∀ b h', Heap.SameBut a s.heap h' → SetS w h' a (insK ks n) → Q b { s with heap := h' }) : wpAny (model P w) A (setAddHashed a (.int n tk) (hashInt n)) Q E s := by
  obtain ⟨o, es, ep, t, ho, hx, hd, hi, hp, hb, hT⟩ := hS
  have hlen : es.size = ks.length := by rw [← hp.length_eq, List.length_map, Array.length_toList]
  have hel := hi.elems (P := P) (w := w)
  have hkey := intKind_is P w n tk
  unfold setAddHashed setAddHashedIn
  refine wpAny_holding (wpAny_bind ?_)
  refine wpAny_setState_of ho hd hT.fit ?_
  dsimp only
  rw [if_pos (byScan_of (knd := intKind P w) (x := .int n tk) rfl hb hel)]
  unfold setAddByScan
  refine wpAny_bind (wpAny_bind (wpAny_rule (wpAny_bind ?_)))
  refine wpAny_setScan_of (knd := intKind P w) (k := n) hkey ho hd hT.fit hel ?_
  have hmem : n ∈ ks ↔ ∃ e ∈ es.toList, (intKind P w).is n e.2 = true := by
    rw [← hp.mem_iff, List.mem_map]
    constructor
    · rintro ⟨e, he, rfl⟩
      obtain ⟨tt, q, _⟩ := hi e he
      exact ⟨e, he, by rw [q]; exact intKind_is P w _ _⟩
    · rintro ⟨e, he, q⟩
      obtain ⟨tt, q', _⟩ := hi e he
      refine ⟨e, he, ?_⟩
      rw [q'] at q
      exact (intKind P w).inj _ _ _ (intKind_is P w _ _) q
  cases hf : List.findIdx? (fun e => (intKind P w).is n e.2) es.toList with
  | some j =>
    obtain ⟨hj, hpj, _⟩ := List.findIdx?_eq_some_iff_getElem.mp hf
    have hin : n ∈ ks := hmem.mpr ⟨_, List.getElem_mem hj, hpj⟩
    dsimp only
    refine wpAny_pure (wpAny_pure ?_)
    refine k false s.heap (Heap.SameBut.refl a _) ?_
    unfold insK
    rw [if_pos hin]
    exact ⟨o, es, ep, t, ho, hx, hd, hi, hp, hb, hT⟩
  | none =>
    have hin : n ∉ ks := fun z => by
      obtain ⟨e, he, q⟩ := hmem.mp z
      have := List.findIdx?_eq_none_iff.mp hf e he
      rw [q] at this
      cases this
    dsimp only
    have p1 := layNew_perm t es (hashInt n) (.int n tk)
    have T1 := tb_new hT (hashInt n) (.int n tk)
    generalize layNew t es (hashInt n) (.int n tk) = L at p1 T1 ⊢
    obtain ⟨es1, t1, dm, gv⟩ := L
    dsimp only at p1 T1 ⊢
    rw [Array.toList_push] at p1
    have i1 : AllI es1.toList := (hi.snoc n tk).perm p1
    have n1 : es1.size = es.size + 1 := by
      have := p1.length_eq
      simpa using this
    have b1 : es1.size < scanBound := by omega
    have q1 : (es1.toList.map kOf).Perm (insK ks n) := by
      unfold insK
      rw [if_neg hin]
      refine (p1.map kOf).trans ?_
      rw [List.map_append]
      exact hp.append_right _
    have gw : ∀ (b : Bool) (s₁ : Shared) (Q' : Unit → Shared → Prop), Q' () s₁ → wpAny (model P w) A (match b with | true => rule "set.scan.the-table-gave-way" | false => pure ()) Q' E s₁ := fun b s₁ Q' z => by
      cases b
      · exact wpAny_pure z
      · exact wpAny_rule z
    obtain ⟨o1, g1, x1, d1⟩ := kept_set (es' := es1) (t' := t1) ho hx hd
    have sb1 := Heap.SameBut.update s.heap a (Obj.putSet es1 t1)
    have p2 := relayAll_perm t1 es1 (SetTable.grown es1.size)
    have T3 := tb_relay (es := es1) T1.led (SetTable.grown es1.size)
    obtain ⟨o2, g2, x2, d2⟩ := kept_set (es' := (relayAll t1 es1 (SetTable.grown es1.size)).1) (t' := (relayAll t1 es1 (SetTable.grown es1.size)).2.1) g1 x1 d1
    have n2 : (relayAll t1 es1 (SetTable.grown es1.size)).1.size = es1.size := by simpa using p2.length_eq
    have end2 := k true _ (sb1.trans (Heap.SameBut.update _ a _)) ⟨o2, _, _, _, g2, x2, d2, i1.perm p2, (p2.map kOf).trans q1, by omega, T3⟩
    have end1 := k true _ sb1 ⟨o1, es1, _, t1, g1, x1, d1, i1, q1, b1, T1⟩
    refine wpAny_bind (gw gv s _ ?_)
    have st : ∀ (R' : Unit → Shared → Prop), R' () { s with heap := s.heap.update a (Obj.putSet es1 t1) } → wpAny (model P w) A (storeSet a es1 t1) R' E s := fun R' z => wpAny_storeSet_of ho hd z (fits_of_scanBound b1)
    have st2 : ∀ (R' : Unit → Shared → Prop), R' () { s with heap := (s.heap.update a (Obj.putSet es1 t1)).update a (Obj.putSet (relayAll t1 es1 (SetTable.grown es1.size)).1 (relayAll t1 es1 (SetTable.grown es1.size)).2.1) } →
        wpAny (model P w) A (storeSet a (relayAll t1 es1 (SetTable.grown es1.size)).1 (relayAll t1 es1 (SetTable.grown es1.size)).2.1) R' E { s with heap := s.heap.update a (Obj.putSet es1 t1) } := fun R' z => wpAny_storeSet_of g1 d1 z (fits_of_scanBound (by omega))
    have hv := hashByValue_scannable 8 (x := .int n tk) rfl
    refine wpAny_ite_split (c := t1.plain = true) (fun _ => ?_) fun _ => ?_
    all_goals try rw [hv]
    all_goals refine wpAny_bind (wpAny_pure ?_)
    all_goals refine wpAny_bind (m := storeSet a es1 t1) (st _ ?_)
    all_goals exact wpAny_ite_split (c := (!dm && t1.tooFull) = true) (fun _ => wpAny_bind (gw _ _ _ (wpAny_bind (st2 _ (wpAny_pure (wpAny_pure end2)))))) fun _ => wpAny_pure (wpAny_pure end1)
end
end DL
namespace DL
open PySem PyProof.Rows
section
variable {P : Program} {w : World} {A : Around} {E : Value → Shared → Prop} {s : Shared}
theorem upd_in {β : Type} {m : Sem β} {k : β → Sem PySem.Fin} {vs : List Value} {R : Result → Shared → Prop} (h : wpAny (model P w) A.in1 m (fun b s' => wpAny (model P w) A.in1 (k b) (fun fin s' => match fin with | .done f => R (.ok f) s' | .again c' => c'.quiet = true ∧ codeAny (model P w) A c' R s') (fun e s' => R (.error e) s') s') (fun e s' => R (.error e) s') s)
    (e : Builtin.«set.update.loop» ⟨vs, []⟩ = m >>= k) : codeAny (model P w) A (.builtin "set.update.loop" ⟨vs, []⟩) R s :=
  codeAny_builtin PyProof.Rows.F.entry_set_update_loop (by rw [Around.under_plainId PyProof.Rows.F.plain_set_update_loop _, e]; exact wpAny_bind h)
theorem set_loop {R : Result → Shared → Prop} {I : Addr} {fp wr : List Addr} {G : Array GenState → Array GenState → Prop} {n : Nat} {PI : Nat → Value → Prop} {St : Nat → Shared → Prop} (W : WalksS P w A.in1 I fp wr G n PI St) {a : Addr} (ha : a ∉ fp)
    (val : Nat → Int) (hv : ∀ i v, PI i v → ∃ t, v = .int (val i) t) (hb : n + 1 < scanBound) : ∀ (m i : Nat) (s : Shared) (ks : List Int), n - i = m → i ≤ n → ks.length ≤ i → St i s → SetS w s.heap a ks →
      (∀ s', Moved (a :: wr) G s s' → SetS w s'.heap a (((List.range' i (n - i)).map val).foldl insK ks) → R (.ok (.ret .none)) s') →
      codeAny (model P w) A (.builtin "set.update.loop" ⟨[.ref a, .ref I], []⟩) R s := by
  have haw : a ∉ wr := fun z => ha (W.sub _ z)
  have up : ∀ b ∈ wr, b ∈ a :: wr := fun b z => List.mem_cons_of_mem _ z
  intro m
  induction m with
  | zero =>
    intro i s ks hm hi hl hst hS k
    have e : i = n := by omega
    subst e
    refine upd_in (m := pyNext (.ref I)) ?_ rfl
    refine W.done s _ _ hst fun s' hm' => wpAny_pure (k s' (hm'.mono up) ?_)
    rw [Nat.sub_self]
    exact hS.at' fun o q => hm'.heap a o haw q
  | succ m ih =>
    intro i s ks hm hi hl hst hS k
    have hlt : i < n := by omega
    refine upd_in (m := pyNext (.ref I)) ?_ rfl
    refine W.item i s _ _ hlt hst fun v s' hp hst' hm' => ?_
    obtain ⟨t, rfl⟩ := hv i v hp
    have hS' := hS.at' (h' := s'.heap) fun o q => hm'.heap a o haw q
    refine wpAny_bind (m := holding [Value.int (val i) t] (setAdd a (.int (val i) t))) (wpAny_holding (wpAny_holding (wpAny_bind ((intKind P w).pyHash (k := val i) (intKind_is _ _ _ _) ?_))))
    refine set_add (P := P) (s := { s' with toks := s'.toks + 1 }) hS' (by omega) fun b h' sb hS2 => ?_
    have hlen : (insK ks (val i)).length ≤ i + 1 := by
      unfold insK
      split
      · omega
      · rw [List.length_append, List.length_singleton]; omega
    refine wpAny_pure ⟨plainId_quiet PyProof.Rows.F.plain_set_update_loop _, ih (i + 1) _ _ (by omega) hlt hlen (W.frame _ s' _ _ hst' (Nat.le_succ _) fun c hc o q => ?_) hS2 fun s2 m2 hS3 => ?_⟩
    · rw [sb.2 c fun z : c = a => ha (z ▸ hc)]
      exact q
    · refine k s2 (Moved.trans W.gtrans ((hm'.mono up).then_heap (Nat.le_succ _) fun c o hc q => ?_) m2) ?_
      · rw [sb.2 c fun z : c = a => hc (z ▸ List.mem_cons_self)]
        exact q
      · have e : n - i = (n - (i + 1)) + 1 := by omega
        rw [e, List.range'_succ]
        exact hS3
theorem set_new (x : Value) {Q₁ : Value → Shared → Prop} (k : Q₁ (.ref s.heap.objs.size) { s with heap := s.heap.push { cls := .type "set", dict := none, data := .set #[] 0 (.fresh 0 0 (!bt w)) } }) :
    codeAny (model P w) A (.call (.builtin "set.__new__") ⟨[.type "set", x], []⟩) (wants Q₁ E) s := by
  refine codeAny_of_tree ?_
  show wpAny _ _ (checkBuiltinCall "set.__new__" ⟨[.type "set", x], []⟩ >>= fun _ => again (.builtin "set.__new__" ⟨[.type "set", x], []⟩)) _ _ _
  refine wpAny_bind (wpAny_of_eq (PySem.F.newCall_set_1 x) ?_)
  refine wpAny_pure ⟨plainId_quiet PySem.F.plain_set_new _, codeAny_builtin PySem.F.entry_set_new ?_⟩
  rw [Around.under_plainId PySem.F.plain_set_new _]
  unfold Builtin.«set.__new__» Builtin.Frozenset.newClass
  have q := sub_set_self
  obtain ⟨hp, g, d, tk, os⟩ := s
  dsimp only at k ⊢
  wp_walk
  refine wpAny_askSetting (wpAny_pure ?_)
  simp only [newObj]
  exact wpAny_bind (wpAny_alloc (wpAny_pure (wpAny_pure k)))
end
end DL
namespace DL
open PySem PyProof.Rows
section
variable {P : Program} {w : World} {A : Around} {E : Value → Shared → Prop} {s : Shared}
set_option maxHeartbeats 3200000 in
theorem call_setL {l : Addr} {vs : List Value} {ns : List Int} {Q : Value → Shared → Prop} (hh : A.handled = none) (hl : s.heap.IsList l vs.toArray) (hi : IntsAre vs ns) (hb : vs.length + 1 < scanBound)
    (k : ∀ h' tk, SetS w h' s.heap.objs.size (ns.foldl insK []) → (∀ b o, s.heap.get? b = some o → h'.get? b = some o) → Q (.ref s.heap.objs.size) { s with heap := h', toks := tk }) :
    wpAny (model P w) A (call (.type "set") [.ref l]) Q E s := by
  obtain ⟨c0, tl0, hm0⟩ := PySem.F.called_set.mro
  have f1 := PySem.F.called_set.made
  have f2 := PySem.F.called_set.sub
  have f3 := PySem.F.called_set.notType
  have f4 := PySem.F.called_set.canCreate
  have f5 := PySem.F.typeCall_set_1 (.ref l)
  refine wpAny_call (codeAny_of_tree (show wpAny _ _ (callAny (.type "set") _) _ _ _ from wpAny_pure ⟨Code.quiet_builtin _ (by decide +kernel), codeAny_builtin PySem.F.entry_type_call ?_⟩))
  rw [Around.under_plain (weight_type_call_type "set" [.ref l] []) rfl]
  repeat (any_goals (first | assumption | wp_step))
  refine codeAny_mono (set_new (.ref l) (E := E) (Q₁ := fun v s1 => v = .ref s.heap.objs.size ∧ s1 = { s with heap := s.heap.push { cls := .type "set", dict := none, data := .set #[] 0 (.fresh 0 0 (!bt w)) } }) ⟨rfl, rfl⟩) fun r s1 hr => ?_
  match r, hr with
  | .error e, hr => exact hr
  | .ok (.ret v), hr =>
    obtain ⟨rfl, rfl⟩ := hr
    generalize ho : ({ cls := .type "set", dict := none, data := .set #[] 0 (.fresh 0 0 (!bt w)) } : Obj) = ob
    have g0 : (s.heap.push ob).get? s.heap.objs.size = some ob := Heap.get?_push_size _ (by rw [← ho]; rfl)
    have g1 : Shared.TypeIs { s with heap := s.heap.push ob } (.ref s.heap.objs.size) "set" := ⟨_, g0, by rw [← ho]⟩
    have g2 := PySem.F.called_set.init.lookup
    have g3 := PySem.F.called_set.init.bind (.ref s.heap.objs.size)
    repeat (any_goals (first | assumption | wp_step))
    refine codeAny_mono (codeAny_call_builtin (R := wants (fun r s2 => r = .none ∧ ∃ h' tk, s2 = { s with heap := h', toks := tk } ∧ SetS w h' s.heap.objs.size (ns.foldl insK []) ∧ (∀ b o, s.heap.get? b = some o → h'.get? b = some o)) E)
      PySem.F.called_set.init.plain PySem.F.entry_set_init (check_set_init_1 g1 ?_)) fun r2 s2 hr2 => ?_
    · obtain ⟨ol, hol, cl, nl, dl⟩ := hl
      obtain ⟨oc, od, oda, os⟩ := ol
      simp only at cl dl
      subst cl dl
      have hol' : (s.heap.push ob).get? l = some { cls := .type "list", dict := od, data := .seq vs.toArray nl, slots := os } := Heap.get?_push_of_some _ hol
      have q1 := PySem.F.sub_list_set
      have q2 := PySem.F.sub_list_frozenset
      have q3 : (Value.type "list" == Value.type "dict") = false := by decide
      have q4 : (s.heap.push ob).IsList l vs.toArray := ⟨_, hol', rfl, nl, rfl⟩
      subst ho
      unfold Builtin.«set.__init__» noKeywords Builtin.Frozenset.updateFrom
      generalize hPI : pyIter = PI
      wp_walk
      subst hPI
      have lt : l < s.heap.objs.size := Heap.lt_size hol
      refine wpAny_pyIter_list q4 (wpAny_bind (wpAny_runValue ?_))
      have sz := Heap.size_push s.heap { cls := .type "set", dict := none, data := .set #[] 0 (.fresh 0 0 (!bt w)) }
      have hne : l ≠ (s.heap.push { cls := .type "set", dict := none, data := .set #[] 0 (.fresh 0 0 (!bt w)) }).objs.size := by rw [sz]; exact Nat.ne_of_lt (Nat.lt_succ_of_lt lt)
      have hnf : s.heap.objs.size ∉ [(s.heap.push { cls := .type "set", dict := none, data := .set #[] 0 (.fresh 0 0 (!bt w)) }).objs.size, l] := by
        rw [sz]
        simp only [List.mem_cons, List.not_mem_nil, or_false, not_or]
        exact ⟨Nat.ne_of_lt (Nat.lt_succ_self _), Nat.ne_of_gt lt⟩
      have W := Walks.list (prog := P) (w := w) (A := A.in1.in1.in1) (by simp [hh]) (s.heap.push { cls := .type "set", dict := none, data := .set #[] 0 (.fresh 0 0 (!bt w)) }).objs.size l hne vs.toArray
      refine set_loop W.toS hnf (fun i => ns.getD i 0) (fun i v hv => ?_) (by simpa using hb) _ 0 _ [] rfl (Nat.zero_le _) (Nat.le_refl _) ⟨⟨_, Heap.get?_push_size _ rfl, rfl, rfl⟩, q4.push _⟩ ?_ ?_
      · exact IntsAre.int_at hi i v (by rw [← Array.getElem?_toList] at hv; exact hv)
      · refine ⟨_, #[], 0, _, Heap.get?_push_of_some _ g0, ⟨rfl, rfl, rfl⟩, rfl, fun e he => by simp at he, .refl _, by decide, tb_fresh (bt w)⟩
      · intro s' hm' hS
        have e : ((List.range' 0 (vs.toArray.size - 0)).map fun i => ns.getD i 0) = ns := by
          have hz : vs.toArray.size - 0 = ns.length := by rw [List.size_toArray, IntsAre.length hi]; rfl
          rw [hz, ← List.range_eq_range']
          refine List.ext_getElem? fun i => ?_
          rw [List.getElem?_map]
          by_cases hi' : i < ns.length
          · simp [hi']
          · simp [hi', Nat.not_lt.mp hi']
        rw [e] at hS
        obtain ⟨h', g', d', tk', os'⟩ := s'
        have e1 : g' = s.gens := hm'.gens
        have e2 : d' = s.drawn := hm'.drawn
        have e3 : os' = s.os := hm'.os
        subst e1 e2 e3
        refine wpAny_pure (wpAny_pure ⟨rfl, h', tk', rfl, hS, fun b o q => ?_⟩)
        have hlt := Heap.lt_size q
        refine hm'.heap b o ?_ (Heap.get?_push_of_some _ (Heap.get?_push_of_some _ q))
        rw [sz]
        simp only [List.mem_cons, List.not_mem_nil, or_false, not_or]
        exact ⟨Nat.ne_of_lt hlt, Nat.ne_of_lt (Nat.lt_succ_of_lt hlt)⟩
    · match r2, hr2 with
      | .error e, hr2 => exact hr2
      | .ok (.ret v), hr2 =>
        obtain ⟨rfl, h', tk, rfl, z1, z2⟩ := hr2
        repeat (any_goals (first | assumption | wp_step))
        exact k _ _ z1 z2
end
end DL

set_option Elab.async false
set_option linter.all false
set_option maxRecDepth 100000
namespace DL
open PySem PyProof.Rows
theorem si_slot : Slot "set_iterator" "__next__" "set_iterator.__next__" :=
  Slot.of (owner := "set_iterator") (n := "__next__") (by rw [typeLookup_type, builtinLookup_eq_fast]; kernel_rfl) (by decide +kernel) (by decide +kernel) (by decide +kernel) (by first | exact .inl (by decide +kernel) | exact .inr (by decide +kernel)) (by rw [isSubtype_type]; kernel_rfl)
theorem si_entry : entryFor table "set_iterator.__next__" = some Builtin.«set_iterator.__next__» := entryFor_of_tree (by kernel_rfl)
theorem si_owner : Manifest.owners.lookup (String.ofList ['r', 'o', 't', 'a', 'r', 'e', 't', 'i', '_', 't', 'e', 's'].reverse) = some Manifest.sig_set_iterator := by kernel_rfl
theorem si_args (a : Value) : argsOk "set_iterator.__next__" ⟨[a], []⟩ := by
  unfold argsOk; rw [signature?_of (id := "set_iterator.__next__") (n := ['_', '_', 't', 'x', 'e', 'n', '_', '_']) (o := ['r', 'o', 't', 'a', 'r', 'e', 't', 'i', '_', 't', 'e', 's']) (by kernel_rfl) si_owner]; kernel_rfl
theorem si_slot_i : Slot "set_iterator" "__iter__" "set_iterator.__iter__" :=
  Slot.of (owner := "set_iterator") (n := "__iter__") (by rw [typeLookup_type, builtinLookup_eq_fast]; kernel_rfl) (by decide +kernel) (by decide +kernel) (by decide +kernel) (by first | exact .inl (by decide +kernel) | exact .inr (by decide +kernel)) (by rw [isSubtype_type]; kernel_rfl)
theorem si_entry_i : entryFor table "set_iterator.__iter__" = some Builtin.«dict_keyiterator.__iter__» := entryFor_alias (id' := "dict_keyiterator.__iter__") (by kernel_rfl) (by decide +kernel) (by decide +kernel) (by kernel_rfl)
theorem si_args_i (a : Value) : argsOk "set_iterator.__iter__" ⟨[a], []⟩ := by
  unfold argsOk; rw [signature?_of (id := "set_iterator.__iter__") (n := ['_', '_', 'r', 'e', 't', 'i', '_', '_']) (o := ['r', 'o', 't', 'a', 'r', 'e', 't', 'i', '_', 't', 'e', 's']) (by kernel_rfl) si_owner]; kernel_rfl
theorem set_iter_entry : entryFor table "set.__iter__" = some Builtin.«frozenset.__iter__» := entryFor_alias (id' := "frozenset.__iter__") (by kernel_rfl) (by decide +kernel) (by decide +kernel) (by kernel_rfl)
def SIt (h : Heap) (it a : Addr) (f0 : Value) (i n ep : Nat) : Prop := ∃ o, h.get? it = some o ∧ o.cls = .type "set_iterator" ∧ o.data = .fields #[f0, .int i 0, .ref a, .int n 0, .int ep 0]
def SAt (w : World) (h : Heap) (a : Addr) (es : Array (Int × Value)) (ep : Nat) (t : SetTable) : Prop := ∃ o, h.get? a = some o ∧ o.cls = .type "set" ∧ o.data = .set es ep t ∧ Tb (bt w) t es.size
section
variable {P : Program} {w : World} {A : Around} {E : Value → Shared → Prop} {s : Shared} {it a : Addr} {es : Array (Int × Value)} {ep : Nat} {t : SetTable}
theorem set_next_text {slot i : Nat} {Q : Option (Value × Nat) → Shared → Prop} (hS : SAt w s.heap a es ep t) (hb : bt w = true) (k : Q (((pickOrder (w.params.setOrder a ep) es)[i]?).map fun e => (e.2, slot)) s) : wpAny (model P w) A (setNext a slot i ep) Q E s := by
  obtain ⟨o, ho, _, hd, hT⟩ := hS
  unfold setNext
  refine wpAny_bind (wpAny_setState_of ho hd hT.fit (wpAny_bind (wpAny_bind (wpAny_askSetting (wpAny_pure ?_)))))
  show wpAny _ _ (if bt w = true then _ else _) _ _ _
  rw [if_pos hb]
  show wpAny _ _ (if (ep != ep) = true then _ else _) _ _ _
  rw [if_neg (by simp)]
  refine wpAny_bind ?_
  unfold setWalk
  refine wpAny_bind (wpAny_setState_of ho hd hT.fit (wpAny_bind (wpAny_bind (wpAny_askSetting (wpAny_pure ?_)))))
  show wpAny _ _ (if bt w = true then _ else _) _ _ _
  rw [if_pos hb]
  exact wpAny_bind (wpAny_askSetting (wpAny_pure (wpAny_pure k)))
theorem set_next_plain {slot i : Nat} {Q : Option (Value × Nat) → Shared → Prop} (hS : SAt w s.heap a es ep t) (hb : bt w = false) (hp : (!t.plain && decide (es.size > 1)) = false)
    (k : Q (match es[SetTable.below t.place slot]?, t.place[SetTable.below t.place slot]? with | some (_, x), some j => some (x, j + 1) | _, _ => none) s) : wpAny (model P w) A (setNext a slot i ep) Q E s := by
  obtain ⟨o, ho, _, hd, hT⟩ := hS
  unfold setNext
  refine wpAny_bind (wpAny_setState_of ho hd hT.fit (wpAny_bind (wpAny_bind (wpAny_askSetting (wpAny_pure ?_)))))
  show wpAny _ _ (if bt w = true then _ else _) _ _ _
  rw [hb]
  show wpAny _ _ (if (!t.plain && decide (es.size > 1)) = true then _ else _) _ _ _
  rw [hp]
  refine wpAny_bind (m := if (!t.led && !es.isEmpty) = true then unsupported "set:maker-not-led" else pure ()) ?_
  rw [show t.led = true from hT.led.resolve_left (by rw [hb]; simp)]
  exact wpAny_pure (wpAny_pure k)
theorem si_set {f0 : Value} {i n ep : Nat} {Q : Unit → Shared → Prop} {j : Nat} {x : Value} (hI : SIt s.heap it a f0 i n ep) (hj : j < 5) (k : ∀ h' o', Heap.SameBut it s.heap h' → h'.get? it = some o' → o'.cls = .type "set_iterator" → o'.data = .fields ((#[f0, .int i 0, .ref a, .int n 0, .int ep 0] : Array Value).setIfInBounds j x) → Q () { s with heap := h' }) :
    wpAny (model P w) A (setField (.ref it) j x) Q E s := by
  obtain ⟨o, ho, hc, hd⟩ := hI
  exact wpAny_setField ho hd hj (k _ _ (Heap.SameBut.update ..) (Heap.get?_update_self _ ho (Obj.isFreed_of_fields (Obj.data_mapFields hd _))) ((Obj.cls_mapFields ..).trans hc) (Obj.data_mapFields hd _))
theorem si_item {x : Value} {slot i : Nat} {Q : Option Value → Shared → Prop} (hI : SIt s.heap it a (.int slot 0) i es.size ep) (hS : SAt w s.heap a es ep t) {nx : Nat}
    (hn : ∀ (A : Around) (E : Value → Shared → Prop) (Q : Option (Value × Nat) → Shared → Prop), Q (some (x, nx)) s → wpAny (model P w) A (setNext a slot i ep) Q E s)
    (k : ∀ h', SIt h' it a (.int nx 0) (i + 1) es.size ep → Heap.SameBut it s.heap h' → Q (some x) { s with heap := h' }) : wpAny (model P w) A (pyNext (.ref it)) Q E s := by
  have hII := hI
  obtain ⟨o, ho, hc, hd⟩ := hI
  obtain ⟨oS, hoS, hcS, hdS, hT⟩ := hS
  have hTy : s.TypeIs (.ref it) "set_iterator" := ⟨o, ho, hc⟩
  unfold pyNext
  refine wpAny_bind (wpAny_attempt (wpAny_callSpecial?_slot (name := Str.ofString "__next__") hTy si_slot (wpAny_call_entry si_slot hTy si_entry ?_ (si_args _))))
  unfold Builtin.«set_iterator.__next__»
  refine wpAny_bind (wpAny_pure (wpAny_bind (wpAny_fieldsOf ho hd ?_)))
  dsimp only
  refine wpAny_bind (wpAny_setEntries_of hoS hdS hT.fit ?_)
  rw [if_neg (by simp)]
  refine wpAny_bind ?_
  simp only [Int.toNat_natCast]
  refine hn _ _ _ ?_
  dsimp only
  refine wpAny_bind (si_set hII (by decide) fun h1 o1 sb1 g1 c1 d1 => ?_)
  have I1 : SIt h1 it a (.int nx 0) i es.size ep := ⟨o1, g1, c1, by rw [d1]; rfl⟩
  refine wpAny_bind (si_set (s := { s with heap := h1 }) I1 (by decide) fun h2 o2 sb2 g2 c2 d2 => ?_)
  exact wpAny_pure ⟨_, rfl, wpAny_pure (k h2 ⟨o2, g2, c2, by rw [d2]; rfl⟩ (sb1.trans sb2))⟩
theorem stop_raise {α : Type} {Q : α → Shared → Prop} {E' : Value → Shared → Prop} (hh : A.handled = none) (k : ∀ h' e o, (∀ b ob, s.heap.get? b = some ob → h'.get? b = some ob) → h'.get? e = some o → o.cls = .type "StopIteration" → E' (.ref e) { s with heap := h' }) :
    wpAny (model P w) A (newExc (.type "StopIteration") [] >>= fun e => raiseNew e) Q E' s := by
  simp only [newExc, newTuple, raiseNew]
  refine wpAny_bind (wpAny_bind (wpAny_newObj_type (wpAny_bind (m := firstArgMember _ _) (wpAny_of_eq (a := Value.none) (by simp only [firstArgMember]; rfl) (wpAny_newObj_type ?_ (by size_fits)))) (by size_fits)))
  refine wpAny_bind (wpAny_handled ?_)
  rw [hh]
  exact wpAny_bind (wpAny_pure (wpAny_throw (k _ _ _ (fun b ob q => Heap.get?_push_of_some _ (Heap.get?_push_of_some _ q)) (Heap.get?_push_size _ rfl) rfl)))
theorem si_end {slot i : Nat} {Q : Option Value → Shared → Prop} (hh : A.handled = none) (hI : SIt s.heap it a (.int slot 0) i es.size ep) (hS : SAt w s.heap a es ep t)
    (hn : ∀ (A : Around) (E : Value → Shared → Prop) (Q : Option (Value × Nat) → Shared → Prop), Q none s → wpAny (model P w) A (setNext a slot i ep) Q E s)
    (k : ∀ h', Heap.ExtBut it s.heap h' → Q none { s with heap := h' }) : wpAny (model P w) A (pyNext (.ref it)) Q E s := by
  have hII := hI
  obtain ⟨o, ho, hc, hd⟩ := hI
  obtain ⟨oS, hoS, hcS, hdS, hT⟩ := hS
  have hTy : s.TypeIs (.ref it) "set_iterator" := ⟨o, ho, hc⟩
  unfold pyNext
  refine wpAny_bind (wpAny_attempt (wpAny_callSpecial?_slot (name := Str.ofString "__next__") hTy si_slot (wpAny_call_entry si_slot hTy si_entry ?_ (si_args _))))
  unfold Builtin.«set_iterator.__next__»
  refine wpAny_bind (wpAny_pure (wpAny_bind (wpAny_fieldsOf ho hd ?_)))
  dsimp only
  refine wpAny_bind (wpAny_setEntries_of hoS hdS hT.fit ?_)
  rw [if_neg (by simp)]
  refine wpAny_bind ?_
  simp only [Int.toNat_natCast]
  refine hn _ _ _ ?_
  dsimp only
  refine wpAny_bind (si_set hII (by decide) fun h1 o1 sb1 g1 c1 d1 => ?_)
  refine stop_raise (s := { s with heap := h1 }) hh fun h2 e oe k2 ge ce => ?_
  refine wpAny_bind (wpAny_isInstance (T := "StopIteration") (b := true) ⟨oe, ge, ce⟩ isSubtype_stop (wpAny_pure (k h2 fun b ob hb q => k2 _ _ ?_)))
  rw [sb1.2 b hb]
  exact q
theorem sd_item {pl : Addr} {ps : Array Value} {np i p : Nat} {x : Int × Value} {Q : Option Value → Shared → Prop} (hI : SIt s.heap it a (.ref pl) i es.size ep) (hS : SAt w s.heap a es ep t) (hp : ∃ o, s.heap.get? pl = some o ∧ o.data = .seq ps np)
    (hi : ps[i]? = some (.int p 0)) (hx : es[p]? = some x)
    (k : ∀ h', SIt h' it a (.ref pl) (i + 1) es.size ep → Heap.SameBut it s.heap h' → Q (some x.2) { s with heap := h' }) : wpAny (model P w) A (pyNext (.ref it)) Q E s := by
  have hII := hI
  obtain ⟨o, ho, hc, hd⟩ := hI
  obtain ⟨oS, hoS, hcS, hdS, hT⟩ := hS
  obtain ⟨op, hop, hdp⟩ := hp
  have hTy : s.TypeIs (.ref it) "set_iterator" := ⟨o, ho, hc⟩
  unfold pyNext
  refine wpAny_bind (wpAny_attempt (wpAny_callSpecial?_slot (name := Str.ofString "__next__") hTy si_slot (wpAny_call_entry si_slot hTy si_entry ?_ (si_args _))))
  unfold Builtin.«set_iterator.__next__»
  refine wpAny_bind (wpAny_pure (wpAny_bind (wpAny_fieldsOf ho hd ?_)))
  dsimp only
  refine wpAny_bind (wpAny_setEntries_of hoS hdS hT.fit ?_)
  rw [if_neg (by simp)]
  refine wpAny_bind (wpAny_seqItems hop hdp ?_)
  simp only [Int.toNat_natCast, hi]
  refine wpAny_bind ?_
  unfold setNextDrawn
  refine wpAny_bind (wpAny_setState_of hoS hdS hT.fit ?_)
  dsimp only
  rw [if_neg (by simp), hx]
  refine wpAny_pure (wpAny_bind (si_set hII (by decide) fun h1 o1 sb1 g1 c1 d1 => ?_))
  exact wpAny_pure ⟨_, rfl, wpAny_pure (k h1 ⟨o1, g1, c1, by rw [d1]; rfl⟩ sb1)⟩
theorem sd_end {pl : Addr} {ps : Array Value} {np i : Nat} {Q : Option Value → Shared → Prop} (hh : A.handled = none) (hI : SIt s.heap it a (.ref pl) i es.size ep) (hS : SAt w s.heap a es ep t) (hp : ∃ o, s.heap.get? pl = some o ∧ o.data = .seq ps np)
    (hi : ps[i]? = none)
    (k : ∀ h', Heap.ExtBut it s.heap h' → Q none { s with heap := h' }) : wpAny (model P w) A (pyNext (.ref it)) Q E s := by
  have hII := hI
  obtain ⟨o, ho, hc, hd⟩ := hI
  obtain ⟨oS, hoS, hcS, hdS, hT⟩ := hS
  obtain ⟨op, hop, hdp⟩ := hp
  have hTy : s.TypeIs (.ref it) "set_iterator" := ⟨o, ho, hc⟩
  unfold pyNext
  refine wpAny_bind (wpAny_attempt (wpAny_callSpecial?_slot (name := Str.ofString "__next__") hTy si_slot (wpAny_call_entry si_slot hTy si_entry ?_ (si_args _))))
  unfold Builtin.«set_iterator.__next__»
  refine wpAny_bind (wpAny_pure (wpAny_bind (wpAny_fieldsOf ho hd ?_)))
  dsimp only
  refine wpAny_bind (wpAny_setEntries_of hoS hdS hT.fit ?_)
  rw [if_neg (by simp)]
  refine wpAny_bind (wpAny_seqItems hop hdp ?_)
  simp only [Int.toNat_natCast, hi]
  refine wpAny_bind (si_set hII (by decide) fun h1 o1 sb1 g1 c1 d1 => ?_)
  have I1 : SIt h1 it a (.int 0 0) i es.size ep := ⟨o1, g1, c1, by rw [d1]; rfl⟩
  refine wpAny_bind (si_set (s := { s with heap := h1 }) I1 (by decide) fun h2 o2 sb2 g2 c2 d2 => ?_)
  refine stop_raise (s := { s with heap := h2 }) hh fun h3 e oe k3 ge ce => ?_
  refine wpAny_bind (wpAny_isInstance (T := "StopIteration") (b := true) ⟨oe, ge, ce⟩ isSubtype_stop (wpAny_pure (k h3 fun b ob hb q => k3 _ _ ?_)))
  rw [sb2.2 b hb, sb1.2 b hb]
  exact q
theorem si_self {f0 : Value} {i n ep : Nat} {Q : Value → Shared → Prop} (hI : SIt s.heap it a f0 i n ep) (k : Q (.ref it) s) : wpAny (model P w) A (pyIter (.ref it)) Q E s := by
  obtain ⟨o, ho, hc, hd⟩ := hI
  have hTy : s.TypeIs (.ref it) "set_iterator" := ⟨o, ho, hc⟩
  refine wpAny_pyIter_slot hTy si_slot_i (wpAny_call_entry si_slot_i hTy si_entry_i (show wpAny _ _ (ret (.ref it)) _ _ s from wpAny_pure ⟨_, rfl, "set_iterator", _, hTy, si_slot.lookup, k⟩) (si_args_i _))
theorem choose_any {Q : Nat → Shared → Prop} {n : Nat} (hn : n ≠ 0) (k : ∀ i d, i < n → Q i { s with drawn := d }) : wpAny (model P w) A (choose .order n) Q E s := fun Γ p hΓ => ⟨hn, k _ _ (Nat.mod_lt _ (Nat.pos_of_ne_zero hn))⟩
theorem take_perm {α : Type} : ∀ {l : List α} {i : Nat} {x : α}, l[i]? = some x → (x :: l.eraseIdx i).Perm l
  | [], i, x, e => by simp at e
  | y :: l, 0, x, e => by
    simp only [List.getElem?_cons_zero, Option.some.injEq] at e
    subst e
    exact .refl _
  | y :: l, i + 1, x, e => by
    rw [List.eraseIdx_cons_succ]
    exact (List.Perm.swap y x _).trans ((take_perm (by simpa using e)).cons y)
theorem draw_order {α : Type} : ∀ (n : Nat) (xs : List α) (s : Shared) (Q : List α → Shared → Prop), xs.length = n → (∀ ys d, ys.Perm xs → Q ys { s with drawn := d }) → wpAny (model P w) A (drawOrder n xs) Q E s
  | 0, xs, s, Q, hl, k => by
    have e : xs = [] := List.length_eq_zero_iff.mp hl
    subst e
    exact wpAny_pure (k [] s.drawn (.refl _))
  | n + 1, [], s, Q, hl, k => by simp at hl
  | n + 1, x :: xs, s, Q, hl, k => by
    rw [drawOrder]
    refine wpAny_bind (choose_any (by simp) fun i d hi => ?_)
    obtain ⟨y, hy⟩ : ∃ y, (x :: xs)[i]? = some y := ⟨_, List.getElem?_eq_getElem hi⟩
    rw [hy]
    have hp := take_perm hy
    refine wpAny_bind (draw_order n _ { s with drawn := d } _ (by have := hp.length_eq; simp only [List.length_cons] at this hl ⊢; omega) fun ys d' q => wpAny_pure (k (y :: ys) d' ((q.cons y).trans hp)))
    intro z
    cases z
theorem pick_go {α : Type} (next : Nat → Nat) : ∀ (f k : Nat) (left : List α) (out : Array α), left.length = f → ((pickOrder.go next f k left out).toList).Perm (out.toList ++ left)
  | 0, k, left, out, hl => by
    have e : left = [] := List.length_eq_zero_iff.mp hl
    subst e
    rw [pickOrder.go, List.append_nil]
  | f + 1, k, left, out, hl => by
    rw [pickOrder.go]
    have hi : next k % left.length < left.length := Nat.mod_lt _ (by omega)
    have e : left[next k % left.length]? = some left[next k % left.length] := List.getElem?_eq_getElem hi
    have hp := take_perm e
    simp only [e]
    refine (pick_go next f (k + 1) _ _ (by have := hp.length_eq; simp only [List.length_cons] at this; omega)).trans ?_
    rw [Array.toList_push, List.append_assoc]
    exact hp.append_left _
theorem pick_perm {α : Type} (next : Nat → Nat) (xs : Array α) : (pickOrder next xs).toList.Perm xs.toList := by
  unfold pickOrder
  simpa using pick_go next xs.size 0 xs.toList #[] (by simp)
end
end DL

set_option Elab.async false
set_option linter.all false
set_option maxRecDepth 100000
namespace DL
open PySem PyProof.Rows
def InOrd (ord : List (Int × Value)) (i : Nat) (v : Value) : Prop := ∃ e, ord[i]? = some e ∧ v = e.2
theorem inOrd_ints {ord : List (Int × Value)} (hi : AllI ord) {acc : Array Value} (h : ItemsOf (InOrd ord) acc ord.length) : IntsAre acc.toList (ord.map kOf) := by
  have key : ∀ (ord : List (Int × Value)) (l : List Value), AllI ord → l.length = ord.length → (∀ j v, l[j]? = some v → InOrd ord j v) → IntsAre l (ord.map kOf) := by
    intro ord
    induction ord with
    | nil =>
      intro l _ hl _
      have e : l = [] := List.length_eq_zero_iff.mp (by simpa using hl)
      subst e
      exact .nil
    | cons e ord ih =>
      intro l hi hl hv
      cases l with
      | nil => simp at hl
      | cons v l =>
        obtain ⟨e', q1, q2⟩ := hv 0 v rfl
        simp only [List.getElem?_cons_zero, Option.some.injEq] at q1
        subst q1
        obtain ⟨t, q3, _⟩ := hi e List.mem_cons_self
        rw [q3] at q2
        subst q2
        rw [List.map_cons]
        refine .cons _ _ (ih l (fun e' he => hi e' (List.mem_cons_of_mem _ he)) (by simpa using hl) fun j v hj => ?_)
        obtain ⟨e', q4, q5⟩ := hv (j + 1) v (by simpa using hj)
        exact ⟨e', by simpa using q4, q5⟩
  exact key ord acc.toList hi (by simpa using h.1) fun j v hj => h.2 j v (by rw [← Array.getElem?_toList]; exact hj)
section
variable {P : Program} {w : World} {A : Around} {E : Value → Shared → Prop} {s : Shared} {a : Addr}
theorem SIt.at' {h h' : Heap} {it a : Addr} {f0 : Value} {i n ep : Nat} (x : SIt h it a f0 i n ep) (k : ∀ o, h.get? it = some o → h'.get? it = some o) : SIt h' it a f0 i n ep := let ⟨o, e, r⟩ := x; ⟨o, k _ e, r⟩
theorem SAt.at' {h h' : Heap} {a : Addr} {es : Array (Int × Value)} {ep : Nat} {t : SetTable} (x : SAt w h a es ep t) (k : ∀ o, h.get? a = some o → h'.get? a = some o) : SAt w h' a es ep t := let ⟨o, e, r⟩ := x; ⟨o, k _ e, r⟩
theorem walks_text (hh : A.handled = none) {it a : Addr} {es : Array (Int × Value)} {ep : Nat} {t : SetTable} (hb : bt w = true) (hne : a ≠ it) :
    Walks P w A it [it, a] [it] es.size (InOrd (pickOrder (w.params.setOrder a ep) es).toList) (fun i h => SIt h it a (.int (0 : Nat) 0) i es.size ep ∧ SAt w h a es ep t) where
  sub := fun b hb => List.mem_cons.mpr (.inl (List.mem_singleton.mp hb))
  frame := fun _ _ _ st hk => ⟨st.1.at' fun o e => hk it (by simp) o e, st.2.at' fun o e => hk a (by simp) o e⟩
  item := by
    intro i s Q E hi st hQ
    have hz : (pickOrder (w.params.setOrder a ep) es).size = es.size := by simpa using (pick_perm (w.params.setOrder a ep) es).length_eq
    obtain ⟨e, he⟩ : ∃ e, (pickOrder (w.params.setOrder a ep) es)[i]? = some e := ⟨_, Array.getElem?_eq_getElem (by omega)⟩
    refine si_item (t := t) (x := e.2) (nx := 0) st.1 st.2 (fun A E Q z => set_next_text st.2 hb (by rw [he]; exact z)) fun h' I' sb => ?_
    exact hQ _ h' s.toks ⟨e, by rw [Array.getElem?_toList]; exact he, rfl⟩ ⟨I', st.2.at' fun o q => (sb.2 a hne).trans q⟩ fun b o hb' q => (sb.2 b (fun z => hb' (by simp [z]))).trans q
  done := fun s Q E st hQ => by
    have hz : (pickOrder (w.params.setOrder a ep) es).size = es.size := by simpa using (pick_perm (w.params.setOrder a ep) es).length_eq
    refine si_end (t := t) hh st.1 st.2 (fun A E Q z => set_next_text st.2 hb (by rw [Array.getElem?_eq_none (by omega)]; exact z)) fun h' ext => hQ h' s.toks fun b o hb' q => ext b o (fun z => hb' (by simp [z])) q
  self := fun _ _ _ _ st hQ => si_self st.1 hQ
def slotAt (xs : Array Nat) : Nat → Nat
  | 0 => 0
  | i + 1 => xs.getD i 0 + 1
theorem slotAt_below {xs : Array Nat} (h : Ris xs) : ∀ i, i ≤ xs.size → SetTable.below xs (slotAt xs i) = i
  | 0, _ => below_zero xs h
  | i + 1, hi => by
    have e : xs[i]? = some xs[i] := Array.getElem?_eq_getElem hi
    have eD : xs.getD i 0 = xs[i] := by simp [show i < xs.size from hi]
    show SetTable.below xs (xs.getD i 0 + 1) = i + 1
    rw [eD]
    exact below_next h e
theorem walks_plain (hh : A.handled = none) {it a : Addr} {es : Array (Int × Value)} {ep : Nat} {t : SetTable} (hb : bt w = false) (hp : (!t.plain && decide (es.size > 1)) = false) (hne : a ≠ it) :
    Walks P w A it [it, a] [it] es.size (InOrd es.toList) (fun i h => SIt h it a (.int (slotAt t.place i) 0) i es.size ep ∧ SAt w h a es ep t ∧ Tb (bt w) t es.size) where
  sub := fun b hb => List.mem_cons.mpr (.inl (List.mem_singleton.mp hb))
  frame := fun _ _ _ st hk => ⟨st.1.at' fun o e => hk it (by simp) o e, st.2.1.at' fun o e => hk a (by simp) o e, st.2.2⟩
  item := by
    intro i s Q E hi st hQ
    have T := st.2.2
    have hz : t.place.size = es.size := by
      have := T.fit
      simp only [SetTable.fits, Bool.and_eq_true, beq_iff_eq] at this
      exact this.1
    have hbl := slotAt_below T.ris i (by omega)
    have e1 : es[i]? = some es[i] := Array.getElem?_eq_getElem hi
    have e2 : t.place[i]? = some t.place[i] := Array.getElem?_eq_getElem (by omega)
    have e3 : slotAt t.place (i + 1) = t.place[i] + 1 := by show t.place.getD i 0 + 1 = _; simp [show i < t.place.size by omega]
    refine si_item (t := t) (x := es[i].2) (nx := slotAt t.place (i + 1)) st.1 st.2.1 (fun A E Q z => set_next_plain st.2.1 hb hp (by rw [hbl, e1, e2]; dsimp only; rw [← e3]; exact z)) fun h' I' sb => ?_
    exact hQ _ h' s.toks ⟨es[i], by rw [Array.getElem?_toList]; exact e1, rfl⟩ ⟨I', st.2.1.at' fun o q => (sb.2 a hne).trans q, T⟩ fun b o hb' q => (sb.2 b (fun z => hb' (by simp [z]))).trans q
  done := fun s Q E st hQ => by
    have T := st.2.2
    have hz : t.place.size = es.size := by
      have := T.fit
      simp only [SetTable.fits, Bool.and_eq_true, beq_iff_eq] at this
      exact this.1
    have hbl := slotAt_below T.ris es.size (by omega)
    refine si_end (t := t) hh st.1 st.2.1 (fun A E Q z => set_next_plain st.2.1 hb hp (by rw [hbl, Array.getElem?_eq_none (Nat.le_refl _)]; exact z)) fun h' ext => hQ h' s.toks fun b o hb' q => ext b o (fun z => hb' (by simp [z])) q
  self := fun _ _ _ _ st hQ => si_self st.1 hQ
theorem walks_drawn (hh : A.handled = none) {it a pl : Addr} {es : Array (Int × Value)} {ep : Nat} {t : SetTable} {ps : List Nat} {np : Nat} (hp : ps.Perm (List.range es.size)) (hne : a ≠ it) (hnp : pl ≠ it) :
    Walks P w A it [it, a, pl] [it] es.size (InOrd (ps.filterMap (es[·]?))) (fun i h => SIt h it a (.ref pl) i es.size ep ∧ SAt w h a es ep t ∧ ∃ o, h.get? pl = some o ∧ o.data = .seq (ps.map fun (i : Nat) => rawInt i).toArray np) where
  sub := fun b hb => List.mem_cons.mpr (.inl (List.mem_singleton.mp hb))
  frame := fun _ _ _ st hk => ⟨st.1.at' fun o e => hk it (by simp) o e, st.2.1.at' fun o e => hk a (by simp) o e, let ⟨o, q, r⟩ := st.2.2; ⟨o, hk pl (by simp) o q, r⟩⟩
  item := by
    intro i s Q E hi st hQ
    have hl : ps.length = es.size := by simpa using hp.length_eq
    have hlt : ∀ p ∈ ps, p < es.size := fun p z => by simpa using hp.mem_iff.mp z
    have hi' : i < ps.length := by omega
    have e1 : ps[i]? = some ps[i] := List.getElem?_eq_getElem hi'
    have hpi : ps[i] < es.size := hlt _ (List.getElem_mem hi')
    have e2 : es[ps[i]]? = some es[ps[i]] := Array.getElem?_eq_getElem hpi
    have e3 : (ps.filterMap (es[·]?))[i]? = some es[ps[i]] := by
      have : ps.filterMap (es[·]?) = ps.map fun p => es.getD p (0, .none) := by
        clear e1 hi' hpi e2 hp hl hQ st
        induction ps with
        | nil => rfl
        | cons p ps ih =>
          have q := hlt p List.mem_cons_self
          rw [List.filterMap_cons, List.map_cons, ih fun p' z => hlt p' (List.mem_cons_of_mem _ z)]
          simp [q]
      rw [this, List.getElem?_map, e1]
      simp [hpi]
    refine sd_item (t := t) (p := ps[i]) (x := es[ps[i]]) st.1 st.2.1 st.2.2 (by simp [e1, rawInt]) e2 fun h' I' sb => ?_
    exact hQ _ h' s.toks ⟨_, e3, rfl⟩ ⟨I', st.2.1.at' fun o q => (sb.2 a hne).trans q, let ⟨o, q, r⟩ := st.2.2; ⟨o, (sb.2 pl hnp).trans q, r⟩⟩ fun b o hb' q => (sb.2 b (fun z => hb' (by simp [z]))).trans q
  done := fun s Q E st hQ => by
    have hl : ps.length = es.size := by simpa using hp.length_eq
    refine sd_end (t := t) hh st.1 st.2.1 st.2.2 (by simp [hl]) fun h' ext => hQ h' s.toks fun b o hb' q => ext b o (fun z => hb' (by simp [z])) q
  self := fun _ _ _ _ st hQ => si_self st.1 hQ
theorem set_iter {ks : List Int} {Q : Value → Shared → Prop} (hS : SetS w s.heap a ks)
    (k : ∀ (it : Addr) (fp : List Addr) (ord : List (Int × Value)) (St : Nat → Heap → Prop) (h' : Heap) (d' : Drawn), (∀ A' : Around, A'.handled = none → Walks P w A' it fp [it] ord.length (InOrd ord) St) → St 0 h' → AllI ord → (ord.map kOf).Perm ks →
      (∀ b o, s.heap.get? b = some o → h'.get? b = some o) → s.heap.objs.size ≤ it → (∀ b ∈ fp, b = a ∨ s.heap.objs.size ≤ b) → Q (.ref it) { s with heap := h', drawn := d' }) :
    wpAny (model P w) A (pyIter (.ref a)) Q E s := by
  obtain ⟨o, es, ep, t, ho, hx, hd, hi, hp, hb, hT⟩ := hS
  have hTy : s.TypeIs (.ref a) "set" := ⟨o, ho, hx.1⟩
  have hlt : a < s.heap.objs.size := Heap.lt_size ho
  have S0 : SAt w s.heap a es ep t := ⟨o, ho, hx.1, hd, hT⟩
  refine wpAny_pyIter_slot hTy PySem.F.slot_set_iter (wpAny_call_entry PySem.F.slot_set_iter hTy set_iter_entry ?_ (PySem.F.args_set_iter_1 _))
  unfold Builtin.«frozenset.__iter__»
  refine wpAny_bind (wpAny_pure (wpAny_bind (wpAny_bind (wpAny_setEntries_of ho hd hT.fit (wpAny_pure ?_)))))
  refine wpAny_bind ?_
  unfold setDrawn
  refine wpAny_bind (wpAny_setState_of ho hd hT.fit (wpAny_bind (wpAny_bind (wpAny_askSetting (wpAny_pure ?_)))))
  refine wpAny_pure ?_
  show wpAny _ _ (if (!bt w && (!t.plain && decide (es.size > 1))) = true then _ else _) _ _ _
  cases hc : (!bt w && (!t.plain && decide (es.size > 1))) with
  | true =>
    rw [if_pos rfl]
    refine wpAny_bind (draw_order es.size (List.range es.size) s _ (by simp) fun ps d hps => ?_)
    have hl : ps.length = es.size := by simpa using hps.length_eq
    have hz : (ps.map fun (i : Nat) => rawInt i).length ≤ sizeLine := by rw [List.length_map, hl]; exact fits_of_scanBound hb
    refine wpAny_bind (wpAny_newTuple ?_ hz)
    generalize hob : ({ cls := .type "tuple", data := .seq (ps.map fun (i : Nat) => rawInt i).toArray } : Obj) = ob
    have g1 : (s.heap.push ob).get? s.heap.objs.size = some ob := Heap.get?_push_size _ (by rw [← hob]; rfl)
    have sz : (s.heap.push ob).objs.size = s.heap.objs.size + 1 := Heap.size_push _ _
    refine wpAny_bind (wpAny_setEpoch_of (Heap.get?_push_of_some _ ho) hd hT.fit ?_)
    refine wpAny_bind (wpAny_newObj_type (wpAny_pure ⟨_, rfl, "set_iterator", _, ⟨_, Heap.get?_push_size _ rfl, rfl⟩, si_slot.lookup, ?_⟩))
    refine k _ [(s.heap.push ob).objs.size, a, s.heap.objs.size] (ps.filterMap (es[·]?)) (fun i h => SIt h (s.heap.push ob).objs.size a (.ref s.heap.objs.size) i es.size ep ∧ SAt w h a es ep t ∧ ∃ o, h.get? s.heap.objs.size = some o ∧ o.data = .seq (ps.map fun (i : Nat) => rawInt i).toArray 0) _ d (fun A' hh => ?_) ⟨⟨_, Heap.get?_push_size _ rfl, rfl, rfl⟩, S0.at' fun o q => Heap.get?_push_of_some _ (Heap.get?_push_of_some _ q), ob, Heap.get?_push_of_some _ g1, by rw [← hob]⟩ ?_ ?_ (fun b o q => Heap.get?_push_of_some _ (Heap.get?_push_of_some _ q)) (by rw [sz]; exact Nat.le_succ _) fun b hb => ?_
    · have W := walks_drawn (P := P) (w := w) (A := A') hh (it := (s.heap.push ob).objs.size) (a := a) (pl := s.heap.objs.size) (es := es) (ep := ep) (t := t) (np := 0) hps (by rw [sz]; exact Nat.ne_of_lt (Nat.lt_succ_of_lt hlt)) (by rw [sz]; exact Nat.ne_of_lt (Nat.lt_succ_self _))
      have e : (ps.filterMap (es[·]?)).length = es.size := by
        have := (hps.filterMap (es[·]?)).length_eq
        rw [this, filterMap_getElem?_range, Array.length_toList]
      rw [e]
      exact W
    · refine hi.perm ?_
      rw [← filterMap_getElem?_range]
      exact hps.filterMap _
    · refine List.Perm.trans ?_ hp
      refine List.Perm.map _ ?_
      rw [← filterMap_getElem?_range]
      exact hps.filterMap _
    · simp only [List.mem_cons, List.not_mem_nil, or_false] at hb
      rcases hb with rfl | rfl | rfl
      · exact .inr (by rw [sz]; exact Nat.le_succ _)
      · exact .inl rfl
      · exact .inr (Nat.le_refl _)
  | false =>
    rw [if_neg (by simp)]
    refine wpAny_bind (wpAny_pure ?_)
    refine wpAny_bind (wpAny_setEpoch_of ho hd hT.fit ?_)
    refine wpAny_bind (wpAny_newObj_type (wpAny_pure ⟨_, rfl, "set_iterator", _, ⟨_, Heap.get?_push_size _ rfl, rfl⟩, si_slot.lookup, ?_⟩))
    have hne : a ≠ s.heap.objs.size := Nat.ne_of_lt hlt
    have fin : ∀ b ∈ [s.heap.objs.size, a], b = a ∨ s.heap.objs.size ≤ b := fun b z => by
      simp only [List.mem_cons, List.not_mem_nil, or_false] at z
      rcases z with rfl | rfl
      · exact .inr (Nat.le_refl _)
      · exact .inl rfl
    cases hbt : bt w with
    | true =>
      have pp := pick_perm (w.params.setOrder a ep) es
      have e : (pickOrder (w.params.setOrder a ep) es).toList.length = es.size := by simpa using pp.length_eq
      refine k _ [s.heap.objs.size, a] (pickOrder (w.params.setOrder a ep) es).toList (fun i h => SIt h s.heap.objs.size a (.int (0 : Nat) 0) i es.size ep ∧ SAt w h a es ep t) _ s.drawn (fun A' hh => ?_) ⟨⟨_, Heap.get?_push_size _ rfl, rfl, rfl⟩, S0.at' fun o q => Heap.get?_push_of_some _ q⟩ (hi.perm pp) ((pp.map kOf).trans hp) (fun b o q => Heap.get?_push_of_some _ q) (Nat.le_refl _) fin
      rw [e]
      exact walks_text hh hbt hne
    | false =>
      have hpl : (!t.plain && decide (es.size > 1)) = false := by rw [hbt] at hc; simpa using hc
      have e : es.toList.length = es.size := by simp
      refine k _ [s.heap.objs.size, a] es.toList (fun i h => SIt h s.heap.objs.size a (.int (slotAt t.place i) 0) i es.size ep ∧ SAt w h a es ep t ∧ Tb (bt w) t es.size) _ s.drawn (fun A' hh => ?_) ⟨⟨_, Heap.get?_push_size _ rfl, rfl, rfl⟩, S0.at' fun o q => Heap.get?_push_of_some _ q, hT⟩ hi hp (fun b o q => Heap.get?_push_of_some _ q) (Nat.le_refl _) fin
      rw [e]
      exact walks_plain hh hbt hpl hne
end
end DL

set_option Elab.async false
set_option linter.all false
set_option maxRecDepth 100000
namespace DL
open PySem PyProof.Rows
section
variable {P : Program} {w : World} {A : Around} {E : Value → Shared → Prop} {s : Shared}
def WalkFrom (P : Program) (w : World) (A : Around) (S r : Addr) (T : String) (res : Value) (R : Result → Shared → Prop) (v : Value) (s1 : Shared) : Prop :=
  ∃ (I : Addr) (fp wr : List Addr) (G : Array GenState → Array GenState → Prop) (n : Nat) (PI : Nat → Value → Prop) (St : Nat → Shared → Prop) (c : Nat), v = .ref I ∧ WalksS P w A I fp wr G n PI St ∧ St 0 s1 ∧ S ∉ fp ∧ n ≤ sizeLine ∧
    s1.heap.get? S = some { cls := .type "list", data := .seq #[] c } ∧ s1.TypeIs (.ref r) T ∧
    ∀ s' acc c', Moved (S :: wr) G s1 s' → s'.heap.get? S = some { cls := .type "list", dict := none, data := .seq acc c', slots := #[] } → ItemsOf PI acc n → R (.ok (.ret res)) s'
theorem ext_any {S r : Addr} {T : String} {res : Value} {R : Result → Shared → Prop} (hT : s.TypeIs (.ref r) T) (nl : (Value.type T == Value.type "list") = false) (nt : (Value.type T == Value.type "tuple") = false) (hne : S ≠ r)
    (hit : wpAny (model P w) A.in1 (pyIter (.ref r)) (WalkFrom P w A.in1 S r T res R) (fun e s' => R (.error e) s') s)
    (hint : ∀ (E : Value → Shared → Prop) (Q : Bool → Shared → Prop) (s : Shared), s.TypeIs (.ref r) T → (∀ b, Q b s) → wpAny (model P w) A.in1 (Builtin.List.listLengthHint (.ref r)) Q E s) :
    wpAny (model P w) A.in1 (Builtin.List.listExtendWith (.ref S) (.ref r) res)
      (fun fin s' => match fin with | .done f => R (.ok f) s' | .again c' => c'.quiet = true ∧ codeAny (model P w) A c' R s') (fun e s' => R (.error e) s') s := by
  unfold Builtin.List.listExtendWith
  refine wpAny_bind (wpAny_typeOf (T := T) hT ?_)
  have h1 : Builtin.List.listSameRef (.ref S) (.ref r) = false := by simp [Builtin.List.listSameRef, hne]
  simp only [h1, nl, nt, Bool.or_false, Bool.false_eq_true, if_false]
  refine wpAny_bind (wpAny_mono hit (fun v s1 z => ?_) fun _ _ z => z)
  obtain ⟨I, fp, wr, G, n, PI, St, c, rfl, W, st, hSf, hn, gS, hT1, k⟩ := z
  refine wpAny_bind (wpAny_holding (hint _ _ _ hT1 fun b => ?_))
  have run : ∀ (h : Heap) (c1 : Nat), (∀ b o, b ≠ S → s1.heap.get? b = some o → h.get? b = some o) → h.get? S = some { cls := .type "list", data := .seq #[] c1 } → codeAny (model P w) A (.builtin "list.extend.loop" ⟨[.ref S, .ref I, res], []⟩) R { s1 with heap := h } := fun h c1 hk g1 => by
    have hm0 : Moved (S :: wr) G s1 { s1 with heap := h } := (Moved.refl W.grefl).then_heap (Nat.le_refl _) fun b o hb q => hk b o (fun z => hb (by simp [z])) q
    refine codeAny_extend_loopS W hn S hSf res n 0 _ #[] c1 rfl (Nat.zero_le _) (W.frame 0 s1 _ _ st (Nat.le_refl _) fun b hb o q => hk b o (fun z => hSf (z ▸ hb)) q) g1 (ItemsOf.nil _) fun s' acc' c' hm gS' hacc => ?_
    exact k s' acc' c' (Moved.trans W.gtrans hm0 hm) gS' hacc
  refine wpAny_ite_split (fun _ => ?_) fun _ => wpAny_pure ⟨plainId_quiet PySem.F.plain_extend_loop _, run s1.heap c (fun _ _ _ q => q) gS⟩
  refine wpAny_bind (wpAny_rule (wpAny_bind ?_))
  have g2 := Heap.get?_update_self (Obj.mapSeq (·.push Value.none)) gS rfl
  have g3 := Heap.get?_update_self (Obj.mapSeq (·.pop)) g2 rfl
  refine wpAny_bind (m := updateSeq S (·.push .none)) (wpAny_updateSeq gS rfl (wpAny_updateSeq (hz := by seq_fits) g2 rfl ?_))
  exact wpAny_pure ⟨plainId_quiet PySem.F.plain_extend_loop _, run _ _ (fun b o hb q => (Heap.get?_update_other _ _ (Ne.symm hb)).trans ((Heap.get?_update_other _ _ (Ne.symm hb)).trans q)) g3⟩
theorem hint_set {r : Addr} {Q : Bool → Shared → Prop} (hT : s.TypeIs (.ref r) "set") (k : Q false s) : wpAny (model P w) A (Builtin.List.listLengthHint (.ref r)) Q E s := by
  unfold Builtin.List.listLengthHint
  refine wpAny_bind (wpAny_specialOf hT PySem.F.slot_set_len.lookup ?_)
  generalize hid : ("set.__len__" : String) = lid
  wp_delta
  rw [show splitId lid = some ("set", "__len__") from by subst hid; decide +kernel]
  subst hid
  refine wpAny_bind (wpAny_isInstance (T := "set") (b := true) hT sub_set_self ?_)
  refine wpAny_ite_split (fun z => absurd z (by decide)) fun _ => wpAny_ite_split (fun _ => ?_) fun z => absurd (by decide +kernel) z
  exact wpAny_bind (wpAny_typeOf hT (wpAny_pure k))
end
end DL
namespace DL
open PySem PyProof.Rows PySem.W
section
variable {P : Program} {w : World} {A : Around} {E : Value → Shared → Prop} {s : Shared}
theorem set_collect {r : Addr} {ks : List Int} {R : List Value → Shared → Prop} (hh : A.handled = none) (hS : SetS w s.heap r ks) (hn : ks.length ≤ sizeLine)
    (k : ∀ h' d' tk vs ns, (∀ b o, s.heap.get? b = some o → h'.get? b = some o) → s.heap.objs.size ≤ h'.objs.size → IntsAre vs ns → ns.Perm ks → R vs { s with heap := h', drawn := d', toks := tk }) :
    wpAny (model P w) A (collect (.ref r)) R E s := by
  have hlt : r < s.heap.objs.size := by obtain ⟨o, _, _, _, q, _⟩ := hS; exact Heap.lt_size q
  have hTy : s.TypeIs (.ref r) "set" := by obtain ⟨o, _, _, _, q, x, _⟩ := hS; exact ⟨o, q, x.1⟩
  unfold collect
  refine wpAny_bind (wpAny_runValue (codeAny_builtin entry_proto_collect' ?_))
  rw [Around.under_plainId PySem.F.plain_proto_collect _]
  show wpAny _ _ (newList [] >>= fun l => again (.builtin "list.__iadd__" ⟨[l, .ref r], []⟩)) _ _ s
  refine wpAny_bind (wpAny_newObj_type (wpAny_pure ⟨plainId_quiet PySem.F.plain_list_iadd _, codeAny_builtin entry_list_iadd' ?_⟩))
  rw [Around.under_plainId PySem.F.plain_list_iadd _]
  have g0 : (s.heap.push { cls := .type "list", data := .seq ([] : List Value).toArray }).get? s.heap.objs.size = some { cls := .type "list", data := .seq #[] } := Heap.get?_push_size _ rfl
  have sz := Heap.size_push s.heap { cls := .type "list", data := .seq ([] : List Value).toArray }
  show wpAny _ _ (Builtin.List.listExtendWith (.ref s.heap.objs.size) (.ref r) (.ref s.heap.objs.size)) _ _ _
  have S1 : SetS w (s.heap.push { cls := .type "list", data := .seq ([] : List Value).toArray }) r ks := hS.at' fun o q => Heap.get?_push_of_some _ q
  have key := ext_any (P := P) (w := w) (A := A) (s := { s with heap := s.heap.push { cls := .type "list", data := .seq ([] : List Value).toArray } }) (S := s.heap.objs.size) (r := r) (T := "set") (res := .ref s.heap.objs.size)
    (R := fun q s' => ∃ h' d' tk acc c ns, q = .ok (.ret (.ref s.heap.objs.size)) ∧ s' = { s with heap := h', drawn := d', toks := tk } ∧ (∀ b o, s.heap.get? b = some o → h'.get? b = some o) ∧ s.heap.objs.size ≤ h'.objs.size ∧ h'.get? s.heap.objs.size = some { cls := .type "list", dict := none, data := .seq acc c, slots := #[] } ∧ IntsAre acc.toList ns ∧ ns.Perm ks)
    (by obtain ⟨o, q, c⟩ := hTy; exact ⟨o, Heap.get?_push_of_some _ q, c⟩) (by decide) (by decide) (Nat.ne_of_gt hlt)
    (set_iter S1 fun it fp ord St h' d' W st hi hp hk hit hfp => ?_) fun E Q s hT z => hint_set hT (z false)
  · refine wpAny_mono key (fun fin s' x => ?_) fun e s' x => ?_
    · cases fin with
      | done f =>
        obtain ⟨h', d', tk, acc, c, ns, e, rfl, k1, k0, k2, k3, k4⟩ := x
        cases e
        exact wpAny_bind (m := load s.heap.objs.size) (wpAny_load k2 (wpAny_pure (k h' d' tk acc.toList ns k1 k0 k3 k4)))
      | again c1 =>
        refine ⟨x.1, codeAny_mono x.2 fun q s2 y => ?_⟩
        obtain ⟨h', d', tk, acc, c, ns, rfl, rfl, k1, k0, k2, k3, k4⟩ := y
        exact wpAny_bind (m := load s.heap.objs.size) (wpAny_load k2 (wpAny_pure (k h' d' tk acc.toList ns k1 k0 k3 k4)))
    · obtain ⟨_, _, _, _, _, _, e', _⟩ := x
      cases e'
  · have hlen : ord.length = ks.length := by simpa using hp.length_eq
    rw [sz] at hit
    refine ⟨it, fp, [it], _, ord.length, InOrd ord, _, 0, rfl, (W A.in1 hh).toS, st, fun z => ?_, by omega, hk _ _ g0, ?_, fun s' acc c' hm gS hacc => ?_⟩
    · rcases hfp _ z with q | q
      · exact Nat.ne_of_gt hlt q
      · rw [sz] at q
        exact absurd q (Nat.not_succ_le_self _)
    · obtain ⟨o, q, c⟩ := hTy
      exact ⟨o, hk _ _ (Heap.get?_push_of_some _ q), c⟩
    · obtain ⟨h2, g2, d2, t2, o2⟩ := s'
      have e1 : g2 = s.gens := hm.gens
      have e2 : d2 = d' := hm.drawn
      have e3 : o2 = s.os := hm.os
      subst e1 e2 e3
      refine ⟨h2, d2, t2, acc, c', ord.map kOf, rfl, rfl, fun b o q => ?_, Nat.le_of_lt (Heap.lt_size gS), gS, inOrd_ints hi hacc, hp⟩
      have hb := Heap.lt_size q
      refine hm.heap b o ?_ (hk _ _ (Heap.get?_push_of_some _ q))
      simp only [List.mem_cons, List.not_mem_nil, or_false, not_or]
      exact ⟨Nat.ne_of_lt hb, Nat.ne_of_lt (Nat.lt_of_lt_of_le (Nat.lt_succ_of_lt hb) hit)⟩
theorem call_sortedS {r : Addr} {ks : List Int} {Q : Value → Shared → Prop} (hh : A.handled = none) (hS : SetS w s.heap r ks) (h64 : ks.length < 64)
    (k : ∀ h' d' tk l vs e ns, (∀ b o, s.heap.get? b = some o → h'.get? b = some o) → h'.get? l = some (seqObj "list" vs e) → s.heap.objs.size ≤ l → IntsAre vs.toList ns → ns.Perm ks → ns.Pairwise (· ≤ ·) → Q (.ref l) { s with heap := h', drawn := d', toks := tk }) :
    wpAny (model P w) A (call (.builtin "sorted") [.ref r]) Q E s := by
  refine Calls.call_function_entry kind_sorted plain_sorted entry_sorted (args_sorted1 _) ?_
  unfold Builtin.«sorted»
  refine wpAny_bind (m := checkCount "sorted" 1 1 _) (wpAny_pure (wpAny_bind (set_collect (A := A.in1) hh hS (by rw [sizeLine_eq]; omega) fun h' d' tk vs ns k1 k0 hi hp => ?_)))
  have hl : vs.length < 64 := by rw [IntsAre.length hi, hp.length_eq]; exact h64
  refine wpAny_bind (wpAny_newList ?_ (by rw [sizeLine_eq]; omega))
  have gL : (h'.push (seqObj "list" vs.toArray 0)).get? h'.objs.size = some (seqObj "list" vs.toArray 0) := Heap.get?_push_size _ rfl
  refine wpAny_bind (wpAny_holding (wpAny_call_entry slot_list_sort ⟨_, gL, rfl⟩ entry_list_sort (list_sort_tree gL hi hl fun out ns' a1 a2 a3 => ⟨_, rfl, ?_⟩) (args_list_sort _)))
  obtain ⟨e, he⟩ := sortedHeap_at (out := out) gL
  refine wpAny_pure ⟨_, rfl, k _ d' tk h'.objs.size out e ns' (fun b o q => ?_) he k0 a1 (a2.trans hp) a3⟩
  have hb := Heap.lt_size (k1 _ _ q)
  rw [sortedHeap_old (Nat.ne_of_lt hb) (by rw [size_push']; exact Nat.lt_succ_of_lt hb)]
  exact Heap.get?_push_of_some _ (k1 _ _ q)
end
end DL

set_option Elab.async false
set_option linter.all false
set_option maxRecDepth 100000
namespace DL
open PySem PySem.Spec PyProof.Rows L2
section
variable {X : Cx} {e a b tg : Expr} {me ma mb : ME} {pos p p2 p3 : Pos}
theorem Inv.drw {pins : List (Addr × Obj)} {σ : L2.St} {H : Hp} {s : Shared} (I : L2.Inv X pins σ H s) (d : Drawn) : L2.Inv X pins σ H { s with drawn := d } :=
  ⟨I.ok, I.os, I.bare, I.base, I.loc, I.cell, I.free, I.freeC, I.pin, I.hok, I.len⟩
def SetO (w : World) (p : Addr) (ks : List Int) : HO := .ext fun h => SetS w h p ks
theorem setO_ok {P : Program} {w : World} {H : Hp} {h : Heap} {p : Addr} {ks : List Int} (x : SetS w h p ks) : ObjOk P w H h p (SetO w p ks) :=
  ⟨x, let ⟨o, _, _, _, q, _⟩ := x; ⟨o, q⟩, fun _ _ z k => z.at' k⟩
theorem cr_set (hc : X.calm = true) : CallR X (.type "set") (fun xs H Q => ∃ (l : Addr) (ns : List Int), xs = [.ref l] ∧ SqL X.K H l (ns.map V.int) ∧ ns.length + 1 < 4096 ∧ ∀ p, H p = none → Q (.ref p) (upd H p (SetO X.w p (ns.foldl insK [])))) := by
  intro pins s σ H xs us Q I r h
  obtain ⟨l, ns, rfl, hq, hb, q⟩ := h
  obtain ⟨u, rfl, ru⟩ := Vals.one r
  cases ru
  obtain ⟨its, rv, p1, _⟩ := I.list hq
  have hi := intsAre_of rv
  refine call_setL (I.ok.hd hc) p1.isList hi (by rw [IntsAre.length hi]; exact hb) fun h' tk hS hk => ?_
  exact ⟨.ref s.heap.objs.size, upd H s.heap.objs.size (SetO X.w s.heap.objs.size (ns.foldl insK [])), I.laid (t' := tk) hk (Nat.le_refl _) (setO_ok hS), rfl, q _ I.fresh⟩
theorem sortI_of {ns ks : List Int} (hp : ns.Perm ks) (hs : ns.Pairwise (· ≤ ·)) : ns = sortI ks := by
  refine PySem.W.ksm_same (hp.trans (List.mergeSort_perm _ _).symm) hs ?_
  have := List.pairwise_mergeSort (le := fun a b : Int => decide (a ≤ b)) (fun a b c h1 h2 => by simp only [decide_eq_true_eq] at *; omega) (fun a b => by simp only [Bool.or_eq_true, decide_eq_true_eq]; omega) ks
  exact this.imp fun h => by simpa using h
theorem ints_vals : ∀ {vs : List Value} {ns : List Int}, IntsAre vs ns → Vals (ns.map V.int) vs
  | _, _, .nil => .nil
  | _, _, .cons n t h => .cons ⟨t, rfl⟩ (ints_vals h)
theorem cr_sorted (hc : X.calm = true) : CallR X (.builtin "sorted") (fun xs H Q => ∃ (q : Addr) (ks : List Int), xs = [.ref q] ∧ H q = some (SetO X.w q ks) ∧ ks.length < 64 ∧ ∀ p, H p = none → Q (.ref p) (upd H p (.lst ((sortI ks).map V.int)))) := by
  intro pins s σ H xs us Q I r h
  obtain ⟨l, ks, rfl, hq, hb, q⟩ := h
  obtain ⟨u, rfl, ru⟩ := Vals.one r
  cases ru
  have hS : SetS X.w s.heap l ks := (I.hok l _ hq).1
  refine call_sortedS (I.ok.hd hc) hS hb fun h' d' tk l' vs e ns k1 g1 hlt hi hp hs => ?_
  have en := sortI_of hp hs
  have hz : ((sortI ks).map V.int).length ≤ sizeLine := by rw [List.length_map, ← en, hp.length_eq, lim_eq]; omega
  refine ⟨.ref l', upd H l' (.lst ((sortI ks).map V.int)), Inv.drw (I.laid (o := .lst ((sortI ks).map V.int)) (t' := tk) k1 hlt ⟨hz, vs.toList, e, ints_vals (en ▸ hi), by rw [g1]⟩) d', rfl, q _ (I.hok.fresh hlt)⟩
theorem dens_ints {K : PySem.W.Frag} {B : Hp} : ∀ {ds : List D} {is : List Int} {xs : List V}, intsOf ds = some is → Dens K B ds xs → xs = is.map V.int
  | [], is, xs, e, h => by cases e; exact h.unnil
  | .int i :: ds, is, xs, e, h => by
    obtain ⟨q, e1, e2⟩ := Option.bind_eq_some_iff.mp e
    cases e2
    obtain ⟨x, r, rfl, h1, h2⟩ := h.uncons
    rw [h1.int_inv, dens_ints e1 h2]
    rfl
theorem de_sortset (hc : X.calm = true) (hg1 : Gl X "sorted") (hm1 : X.mg "sorted" = none) (hg2 : Gl X "set") (hm2 : X.mg "set" = none) (he : DE X e me)
    (s1 : starEach [e] X.env = (false, eval e X.env) :: starEach [] X.env := by rfl) (s2 : starEach [Expr.Call (.Name "set" p2) [e] [] p3] X.env = (false, eval (Expr.Call (.Name "set" p2) [e] [] p3) X.env) :: starEach [] X.env := by rfl) (hpl : ∀ pos : Pos, (backTo pos (starEach [] X.env)).any (·.1) = false := by intro _; rfl) :
    DE X (.Call (.Name "sorted" p) [.Call (.Name "set" p2) [e] [] p3] [] pos) (eUn uSortSet me) := by
  obtain ⟨te, pe, qe⟩ := he
  refine ⟨_, pe_callB (cr_sorted hc) hg1 hm1 boot_sorted (pa_cons (pe_callTy (cr_set hc) hg2 hm2 rfl (pa_cons pe pa_nil s1) (he := s1) (hpl := hpl _)) pa_nil s2) (he := s2) (hpl := hpl _), fun os σ H δ d Q s m k => ?_⟩
  obtain ⟨dx, e1, m⟩ := bind_inv m
  refine qe os σ H δ dx _ s e1 fun v H1 g1 r1 => ?_
  cases dx with
  | lst xs =>
    obtain ⟨is, e2, m⟩ := bind_inv m
    split at m
    · rename_i hb
      cases m
      obtain ⟨l, ys, rfl, h1, h2⟩ := r1.lst_up
      have := dens_ints e2 h2
      subst this
      refine ⟨l, is, rfl, h1, hb.1, fun p hp => ⟨p, _, rfl, upd_same, hb.2, fun q hq => ?_⟩⟩
      have g2 := same_new hp (SetO X.w p (is.foldl insK []))
      refine k _ _ (g1.trans (g2.trans (same_new hq _))) (.newL ((s.live.mono g1).mono g2) hq (Dens.ints _))
    · cases m
  | _ => cases m
theorem cr_sum (hc : X.calm = true) : CallR X (.builtin "sum") (fun xs H Q => ∃ (l : Addr) (ns : List Int), xs = [.ref l] ∧ (SqL X.K H l (ns.map V.int) ∨ SqT X.K H l (ns.map V.int)) ∧ Q (.int ns.sum) H) := by
  intro pins s σ H xs us Q I r h
  obtain ⟨l, ns, rfl, hq, q⟩ := h
  obtain ⟨u, rfl, ru⟩ := Vals.one r
  cases ru
  have hh : X.A.in1.handled = none := by have := I.ok.hd hc; simpa using this
  have pre : ∀ {its : List Value}, IntsAre its ns → preSum (fun i => ns.getD i 0) its.toArray.size = ns.sum := fun {its} hi => by
    rw [preSum_getD, List.take_of_length_le (by rw [List.size_toArray, IntsAre.length hi]; exact Nat.le_refl _)]
  have kept : ∀ {it : Addr} {o : Obj} {h' : Heap} {ax : Addr}, it = s.heap.objs.size → (∀ b ob, b ∉ [it] → (s.heap.push o).get? b = some ob → h'.get? b = some ob) → ∀ b ob, s.heap.get? b = some ob → h'.get? b = some ob := fun {it o h' ax} e k b ob q => k b ob (fun z => by rw [List.mem_singleton.mp z, e] at q; exact absurd (Heap.lt_size q) (Nat.lt_irrefl _)) (Heap.get?_push_of_some _ q)
  refine call_sum_walkG ?_
  rcases hq with hq | hq
  · obtain ⟨its, rv, p1, _⟩ := I.list hq
    have hi := intsAre_of rv
    have hlt : l < s.heap.objs.size := by obtain ⟨_, q, _⟩ := p1.isList; exact Heap.lt_size q
    refine wpAny_pyIter_list p1.isList ⟨s.heap.objs.size, _, _, _, _, _, fun i => ns.getD i 0, rfl, Walks.list hh _ l (Nat.ne_of_lt hlt) its.toArray, ⟨⟨_, Heap.get?_push_size _ rfl, rfl, rfl⟩, p1.isList.push _⟩, fun b hb => ?_, fun i v hv => IntsAre.int_at hi i v (by rw [← Array.getElem?_toList] at hv; exact hv), fun h' tk t' k => ?_⟩
    · rw [size_push']
      simp only [List.mem_cons, List.not_mem_nil, or_false] at hb
      rcases hb with rfl | rfl
      · exact Nat.lt_succ_self _
      · exact Nat.lt_succ_of_lt hlt
    · rw [pre hi]
      exact ⟨.int ns.sum, H, I.kept (t' := tk) (kept (ax := l) rfl k), ⟨t', rfl⟩, q⟩
  · obtain ⟨its, rv, p1, _⟩ := I.tuple hq
    have hi := intsAre_of rv
    have hlt : l < s.heap.objs.size := p1.lt
    have ht : s.heap.IsTuple l its.toArray := p1
    refine wpAny_pyIter_tuple ht ⟨s.heap.objs.size, _, _, _, _, _, fun i => ns.getD i 0, rfl, Walks.tuple hh _ l (Nat.ne_of_lt hlt) its.toArray, ⟨⟨_, Heap.get?_push_size _ rfl, rfl, rfl⟩, p1.push _⟩, fun b hb => ?_, fun i v hv => IntsAre.int_at hi i v (by rw [← Array.getElem?_toList] at hv; exact hv), fun h' tk t' k => ?_⟩
    · rw [size_push']
      simp only [List.mem_cons, List.not_mem_nil, or_false] at hb
      rcases hb with rfl | rfl
      · exact Nat.lt_succ_self _
      · exact Nat.lt_succ_of_lt hlt
    · rw [pre hi]
      exact ⟨.int ns.sum, H, I.kept (t' := tk) (kept (ax := l) rfl k), ⟨t', rfl⟩, q⟩
theorem cd_sum (hc : X.calm = true) : CallD X (.builtin "sum") fSum := by
  refine ⟨_, cr_sum hc, fun os H L ds d vs Q r m k => ?_⟩
  match ds, m with
  | [.tup xs], m =>
    obtain ⟨is, e, m⟩ := bind_inv m
    cases m
    obtain ⟨v, rfl, h⟩ := one_of r
    obtain ⟨p, ys, rfl, h1, h2⟩ := h.tup_up
    have := dens_ints e h2
    subst this
    exact ⟨p, is, rfl, .inr h1, k _ H (Same.refl _) (.int _)⟩
  | [.lst xs], m =>
    obtain ⟨is, e, m⟩ := bind_inv m
    cases m
    obtain ⟨v, rfl, h⟩ := one_of r
    obtain ⟨p, ys, rfl, h1, h2⟩ := h.lst_up
    have := dens_ints e h2
    subst this
    exact ⟨p, is, rfl, .inl h1, k _ H (Same.refl _) (.int _)⟩
theorem walk_range2 {K : PySem.W.Frag} {B : Hp} (a : Int) (n : Nat) : Walk K (Itr a n) B (rangeD2 a n) := by
  intro i os1 H1 L g
  have hlen : (rangeD2 a n).length = n := by simp [rangeD2]
  refine ⟨fun d hd => ?_, fun hl => by rw [hlen] at hl; exact Nat.le_of_eq hl.symm⟩
  have hi : i < n := by have := (List.getElem?_eq_some_iff.mp hd).1; omega
  refine ⟨hi, fun y H2 z => ?_⟩
  obtain ⟨rfl, rfl⟩ := z
  unfold rangeD2 at hd
  rw [List.getElem?_map, List.getElem?_range hi] at hd
  cases hd
  exact ⟨Same.refl _, .int _⟩
theorem di_range2 {p : Pos} (hg : Gl X "range") (hm : X.mg "range" = none) (ha : DE X a ma) (hb : DE X b mb) (h1 : starEach [a, b] X.env = (false, eval a X.env) :: starEach [b] X.env := by rfl) (h2 : starEach [b] X.env = (false, eval b X.env) :: starEach [] X.env := by rfl) (h3 : starEach [a, b] X.env = [(false, eval a X.env), (false, eval b X.env)] := by rfl) (h4 : starEach [b] X.env = [(false, eval b X.env)] := by rfl) :
    DI X tg (.Call (.Name "range" p) [a, b] [] pos) (iRange2 ma mb) := by
  obtain ⟨ta, pa, qa⟩ := ha
  obtain ⟨tb, pb, qb⟩ := hb
  refine ⟨_, pi_range2 hg hm (pa_cons pa (pa_cons pb pa_nil h2) h1) h3 h4, fun os σ H δ xs R s m k => ?_⟩
  obtain ⟨dx, e1, m⟩ := bind_inv m
  obtain ⟨dy, e2, m⟩ := bind_inv m
  refine qa os σ H δ dx _ s e1 fun v H1 g1 r1 => ?_
  refine qb os σ H1 δ dy _ (s.mono g1) e2 fun w H2 g2 r2 => ?_
  match dx, dy, m with
  | .int i, .int j, m =>
    have m' : (if -1073741824 < i ∧ i < 1073741824 ∧ -1073741824 < j ∧ j < 1073741824 then some (rangeD2 i (j - i).toNat) else none) = some xs := m
    split at m'
    · rename_i hj
      cases m'
      rw [r1.int_inv, r2.int_inv]
      exact ⟨i, j, rfl, by omega, k _ H2 (g1.trans g2) (walk_range2 _ _)⟩
    · cases m'
end
end DL

set_option Elab.async false
set_option linter.all false
set_option maxRecDepth 100000
namespace DL
open PySem PyProof.Rows
section
variable {P : Program} {w : World} {A : Around} {E : Value → Shared → Prop} {s : Shared}
def BZip (h : Heap) (z TI TO T : Addr) (f : Bool) : Prop := h.get? z = some { cls := .type "zip", dict := none, data := .fields #[.int T 0, .bool f, .bool false, .ref TI, .ref TO], slots := #[] }
structure Apart (z TI i1 i2 l1 l2 : Addr) : Prop where
  TIz : TI ≠ z
  i1z : i1 ≠ z
  i2z : i2 ≠ z
  TIi1 : TI ≠ i1
  TIi2 : TI ≠ i2
  i12 : i1 ≠ i2
  l1z : l1 ≠ z
  l1i1 : l1 ≠ i1
  l1i2 : l1 ≠ i2
  l2z : l2 ≠ z
  l2i1 : l2 ≠ i1
  l2i2 : l2 ≠ i2
theorem alive_any {a : Addr} {Q : Option Obj → Shared → Prop} (h : Q (s.heap.get? a) s) : wpAny (model P w) A (loadIfAlive a) Q E s := fun _ _ _ => h
theorem zb_busy {z TI TO T : Addr} {f : Bool} {Q : Bool → Shared → Prop} (hz : BZip s.heap z TI TO T f) (hT : ∃ o, s.heap.get? T = some o) (k : ∀ h', BZip h' z TI TO T true → Heap.SameBut z s.heap h' → Q false { s with heap := h' }) :
    wpAny (model P w) A (Builtin.SmallTypes.ownedTupleIsFree (.ref z)) Q E s := by
  obtain ⟨o, ho⟩ := hT
  refine wpAny_bind (m := field (.ref z) 0) (wpAny_field hz rfl (x := .int T 0) rfl (wpAny_bind (alive_any ?_)))
  rw [Int.toNat_natCast, ho]
  rw [if_neg (by simp)]
  refine wpAny_bind (wpAny_field hz rfl (x := .bool f) rfl ?_)
  cases f with
  | true =>
    rw [if_neg (by decide)]
    exact wpAny_pure (k s.heap hz (Heap.SameBut.refl _ _))
  | false =>
    rw [if_pos (by decide)]
    exact wpAny_bind (wpAny_setField_rec hz (by simp) fun h1 z1 sb => wpAny_pure (k h1 z1 sb))
theorem zb_ask {z TI TO T i1 i2 l1 l2 : Addr} {f : Bool} {m : Nat} {us ws : Array Value} {Q : PySem.Fin → Shared → Prop} (hh : A.handled = none) (D : Apart z TI i1 i2 l1 l2) (hz : BZip s.heap z TI TO T f) (hT : ∃ o, s.heap.get? T = some o) (hTI : IsPair s.heap TI (.ref i1) (.ref i2))
    (a1 : s.heap.IsListIter i1 l1 m) (b1 : s.heap.IsList l1 us) (a2 : s.heap.IsListIter i2 l2 m) (b2 : s.heap.IsList l2 ws)
    (go : ∀ x y h', us[m]? = some x → ws[m]? = some y → BZip h' z TI TO T true → h'.IsListIter i1 l1 (m + 1) → h'.IsListIter i2 l2 (m + 1) → IsPair h' s.heap.objs.size x y → (∀ c o, c ≠ z → c ≠ i1 → c ≠ i2 → s.heap.get? c = some o → h'.get? c = some o) → Q (.done (.ret (.ref s.heap.objs.size))) { s with heap := h' })
    (no : ∀ h' e, us[m]? = none ∨ ws[m]? = none → (∀ c o, c ≠ z → c ≠ i1 → c ≠ i2 → s.heap.get? c = some o → h'.get? c = some o) → (∃ o, h'.get? e = some o ∧ o.cls = .type "StopIteration") → E (.ref e) { s with heap := h' }) :
    wpAny (model P w) A (Builtin.«zip.__next__» ⟨[.ref z], []⟩) Q E s := by
  refine wpAny_bind (m := field (.ref z) 2) (wpAny_field hz rfl (x := .bool false) rfl (wpAny_bind (m := field (.ref z) 3) (wpAny_field hz rfl (x := .ref TI) rfl (wpAny_bind (wpAny_seqItems hTI rfl ?_)))))
  refine wpAny_bind (m := Builtin.SmallTypes.ownedTupleIsFree (.ref z)) (zb_busy hz hT fun g0 z0 s0 => ?_)
  simp only [Bool.false_eq_true, if_false, List.forIn_toArray, List.forIn_cons, List.forIn_nil]
  have c1 := a1.extBut s0.extBut D.i1z
  have d1 := b1.extBut s0.extBut D.l1z
  refine wpAny_bind (wpAny_bind (wpAny_bind (wpAny_holding (wpAny_bind (m := Builtin.SmallTypes.nextOf (.ref i1)) ?_))))
  cases e1 : us[m]? with
  | none => exact wpAny_nextOf_list_end hh c1 d1 e1 fun g1 e x1 he => no g1 e (.inl e1) (fun c o n1 n2 _ q => x1 _ _ n2 (s0.extBut _ _ n1 q)) he
  | some x =>
    refine wpAny_nextOf_list_item c1 d1 e1 fun g1 j1 s1 => wpAny_pure (wpAny_pure (wpAny_bind (wpAny_bind (wpAny_holding (wpAny_bind (m := Builtin.SmallTypes.nextOf (.ref i2)) ?_)))))
    have c2 := (a2.extBut s0.extBut D.i2z).extBut s1.extBut D.i12.symm
    have d2 := (b2.extBut s0.extBut D.l2z).extBut s1.extBut D.l2i1
    cases e2 : ws[m]? with
    | none => exact wpAny_nextOf_list_end hh c2 d2 e2 fun g2 e x2 he => no g2 e (.inr e2) (fun c o n1 n2 n3 q => x2 _ _ n3 (s1.extBut _ _ n2 (s0.extBut _ _ n1 q))) he
    | some y =>
      refine wpAny_nextOf_list_item c2 d2 e2 fun g2 j2 s2 => wpAny_pure ?_
      refine wpAny_pure (wpAny_pure (wpAny_bind (wpAny_newTuple (wpAny_pure ?_) (by show 2 ≤ sizeLine; rw [sizeLine_eq]; decide))))
      have sz : g2.objs.size = s.heap.objs.size := by rw [s2.1, s1.1, s0.1]
      have q := go x y (g2.push { cls := .type "tuple", data := .seq #[x, y] }) e1 e2 (Heap.get?_push_of_some _ (s2.extBut _ _ D.i2z.symm (s1.extBut _ _ D.i1z.symm z0))) ((j1.extBut s2.extBut D.i12).at fun o e => Heap.get?_push_of_some _ e) (j2.at fun o e => Heap.get?_push_of_some _ e)
        (by rw [← sz]; exact Heap.get?_push_size _ rfl) fun c o n1 n2 n3 e => Heap.get?_push_of_some _ (s2.extBut _ _ n3 (s1.extBut _ _ n2 (s0.extBut _ _ n1 e)))
      rw [← sz] at q
      exact q
theorem zb_turn {z TI TO T i1 i2 l1 l2 : Addr} {f : Bool} {m : Nat} {us ws : Array Value} {Q : Option Value → Shared → Prop} (hh : A.handled = none) (D : Apart z TI i1 i2 l1 l2) (hz : BZip s.heap z TI TO T f) (hT : ∃ o, s.heap.get? T = some o) (hTI : IsPair s.heap TI (.ref i1) (.ref i2))
    (a1 : s.heap.IsListIter i1 l1 m) (b1 : s.heap.IsList l1 us) (a2 : s.heap.IsListIter i2 l2 m) (b2 : s.heap.IsList l2 ws)
    (go : ∀ x y h', us[m]? = some x → ws[m]? = some y → BZip h' z TI TO T true → h'.IsListIter i1 l1 (m + 1) → h'.IsListIter i2 l2 (m + 1) → IsPair h' s.heap.objs.size x y → (∀ c o, c ≠ z → c ≠ i1 → c ≠ i2 → s.heap.get? c = some o → h'.get? c = some o) → Q (some (.ref s.heap.objs.size)) { s with heap := h' })
    (no : ∀ h', us[m]? = none ∨ ws[m]? = none → (∀ c o, c ≠ z → c ≠ i1 → c ≠ i2 → s.heap.get? c = some o → h'.get? c = some o) → Q none { s with heap := h' }) :
    wpAny (model P w) A (pyNext (.ref z)) Q E s := by
  have hTy : s.TypeIs (.ref z) "zip" := ⟨_, hz, rfl⟩
  unfold pyNext
  refine wpAny_bind (wpAny_attempt (wpAny_callSpecial?_slot (name := Str.ofString "__next__") hTy PySem.F.slot_zip_next (wpAny_call_entry PySem.F.slot_zip_next hTy PySem.F.entry_zip_next (zb_ask (A := A.in1) hh D hz hT hTI a1 b1 a2 b2
    (fun x y h' e1 e2 k1 k2 k3 k4 k5 => ⟨_, rfl, wpAny_pure (go x y h' e1 e2 k1 k2 k3 k4 k5)⟩) fun h' e hn hk he => ?_) (PySem.F.args_zip_next_1 _))))
  obtain ⟨o, ho, hc⟩ := he
  exact wpAny_bind (wpAny_isInstance (T := "StopIteration") (b := true) ⟨o, ho, hc⟩ isSubtype_stop (wpAny_pure (no _ hn hk)))
end
end DL

set_option Elab.async false
set_option linter.all false
set_option maxRecDepth 100000
namespace DL
open PySem PyProof.Rows
structure ZL (B z TI TO i1 i2 S : Addr) (l1 l2 : Addr) (xs ys : Array Value) (i : Nat) (ts : List Addr) (h0 h : Heap) : Prop where
  zs : (i = 0 ∧ IsZip h z TI TO .none ∧ ∃ a b, IsPair h TO a b) ∨ ∃ T f, BZip h z TI TO T f ∧ T ∈ ts
  ti : IsPair h TI (.ref i1) (.ref i2)
  a1 : h.IsListIter i1 l1 i
  a2 : h.IsListIter i2 l2 i
  old : ∀ b o, b < B → h0.get? b = some o → h.get? b = some o
  at_ : ∃ c, h.get? S = some { cls := .type "list", dict := none, data := .seq (ts.map Value.ref).toArray c, slots := #[] }
  tl : ts.length = i
  tp : ∀ (j : Nat) (t : Addr), ts[j]? = some t → (B ≤ t ∧ t ≠ z ∧ t ≠ TI ∧ t ≠ TO ∧ t ≠ i1 ∧ t ≠ i2 ∧ t ≠ S) ∧ ∃ x y, xs[j]? = some x ∧ ys[j]? = some y ∧ IsPair h t x y
  nd : ts.Nodup
section
variable {P : Program} {w : World} {A : Around} {E : Value → Shared → Prop} {s : Shared} {B z TI TO i1 i2 S l1 l2 : Addr} {xs ys : Array Value} {h0 : Heap}
structure ZApart (B z TI TO i1 i2 S l1 l2 : Addr) : Prop where
  D : ZipApart z TI TO i1 i2 l1 l2
  Sz : S ≠ z
  STI : S ≠ TI
  STO : S ≠ TO
  Si1 : S ≠ i1
  Si2 : S ≠ i2
  bz : B ≤ z
  bTO : B ≤ TO
  b1 : B ≤ i1
  b2 : B ≤ i2
  bS : B ≤ S
  l1B : l1 < B
  l2B : l2 < B
theorem ZApart.ap (q : ZApart B z TI TO i1 i2 S l1 l2) : Apart z TI i1 i2 l1 l2 := ⟨q.D.TIz, q.D.i1z, q.D.i2z, q.D.TIi1, q.D.TIi2, q.D.i12, q.D.l1z, q.D.l1i1, q.D.l1i2, q.D.l2z, q.D.l2i1, q.D.l2i2⟩
theorem ZL.more (q : ZApart B z TI TO i1 i2 S l1 l2) {i : Nat} {ts : List Addr} {h h1 : Heap} {T : Addr} {f : Bool} {x y : Value} (L : ZL B z TI TO i1 i2 S l1 l2 xs ys i ts h0 h) (hx : xs[i]? = some x) (hy : ys[i]? = some y)
    (bz : BZip h1 z TI TO T f) (hT : T = h.objs.size ∨ T ∈ ts) (j1 : h1.IsListIter i1 l1 (i + 1)) (j2 : h1.IsListIter i2 l2 (i + 1)) (hp : IsPair h1 h.objs.size x y)
    (k : ∀ b o, b ≠ z → b ≠ TO → b ≠ i1 → b ≠ i2 → h.get? b = some o → h1.get? b = some o) (bTOlt : TO < h.objs.size) (bTIlt : TI < h.objs.size) :
    ZL B z TI TO i1 i2 S l1 l2 xs ys (i + 1) (ts ++ [h.objs.size]) h0 (h1.update S (Obj.mapSeq (·.push (.ref h.objs.size)))) := by
  have ltz : z < h.objs.size := by rcases L.zs with ⟨_, q, _⟩ | ⟨_, _, q, _⟩ <;> exact Heap.lt_size q
  have lt1 : i1 < h.objs.size := by obtain ⟨_, q, _⟩ := L.a1; exact Heap.lt_size q
  have lt2 : i2 < h.objs.size := by obtain ⟨_, q, _⟩ := L.a2; exact Heap.lt_size q
  obtain ⟨c, aS⟩ := L.at_
  have ltS : S < h.objs.size := Heap.lt_size aS
  have gS : h1.get? S = _ := k S _ q.Sz q.STO q.Si1 q.Si2 aS
  have up : ∀ {b : Addr} {o : Obj}, b ≠ S → h1.get? b = some o → (h1.update S (Obj.mapSeq (·.push (.ref h.objs.size)))).get? b = some o := fun {b o} hb e => (Heap.get?_update_other _ _ (Ne.symm hb)).trans e
  refine ⟨.inr ⟨T, f, up q.Sz.symm bz, ?_⟩, up q.STI.symm (k _ _ q.D.TIz q.D.TITO q.D.TIi1 q.D.TIi2 L.ti), j1.at fun o e => up q.Si1.symm e, j2.at fun o e => up q.Si2.symm e, fun b o hb e => ?_, ?_, by simp [L.tl], fun j t hj => ?_, ?_⟩
  · rcases hT with rfl | hT
    · simp
    · simp [hT]
  · exact up (Nat.ne_of_lt (Nat.lt_of_lt_of_le hb q.bS)) (k b o (Nat.ne_of_lt (Nat.lt_of_lt_of_le hb q.bz)) (Nat.ne_of_lt (Nat.lt_of_lt_of_le hb q.bTO)) (Nat.ne_of_lt (Nat.lt_of_lt_of_le hb q.b1)) (Nat.ne_of_lt (Nat.lt_of_lt_of_le hb q.b2)) (L.old b o hb e))
  · have g := Heap.get?_update_self (Obj.mapSeq (·.push (.ref h.objs.size))) gS rfl
    simp only [Obj.mapSeq, List.push_toArray] at g
    rw [List.map_append]
    exact ⟨_, g⟩
  · by_cases hji : j < ts.length
    · rw [List.getElem?_append_left hji] at hj
      obtain ⟨⟨b1, b2, b3, b4, b5, b6, b7⟩, u, v, e1, e2, e3⟩ := L.tp j t hj
      exact ⟨⟨b1, b2, b3, b4, b5, b6, b7⟩, u, v, e1, e2, up b7 (k t _ b2 b4 b5 b6 e3)⟩
    · have hj' := (List.getElem?_eq_some_iff.mp hj).1
      simp only [List.length_append, List.length_cons, List.length_nil] at hj'
      have ej : j = ts.length := by omega
      subst ej
      simp only [List.getElem?_concat_length, Option.some.injEq] at hj
      subst hj
      refine ⟨⟨Nat.le_trans q.bS (Nat.le_of_lt ltS), Nat.ne_of_gt ltz, Nat.ne_of_gt bTIlt, Nat.ne_of_gt bTOlt, Nat.ne_of_gt lt1, Nat.ne_of_gt lt2, Nat.ne_of_gt ltS⟩, x, y, by rw [L.tl]; exact hx, by rw [L.tl]; exact hy, up (Nat.ne_of_gt ltS) hp⟩
  · rw [List.nodup_append]
    refine ⟨L.nd, by simp, fun a ha b hb e => ?_⟩
    simp only [List.mem_singleton] at hb
    subst hb
    subst e
    obtain ⟨j, hj⟩ := List.mem_iff_getElem?.mp ha
    obtain ⟨_, u, v, _, _, e3⟩ := L.tp j _ hj
    exact Nat.lt_irrefl _ (Heap.lt_size e3)
theorem loop_in {β : Type} {m : Sem β} {k : β → Sem PySem.Fin} {vs : List Value} {R : Result → Shared → Prop} (h : wpAny (model P w) A.in1 m (fun b s' => wpAny (model P w) A.in1 (k b) (fun fin s' => match fin with | .done f => R (.ok f) s' | .again c' => c'.quiet = true ∧ codeAny (model P w) A c' R s') (fun e s' => R (.error e) s') s') (fun e s' => R (.error e) s') s)
    (e : Builtin.«list.extend.loop» ⟨vs, []⟩ = m >>= k) : codeAny (model P w) A (.builtin "list.extend.loop" ⟨vs, []⟩) R s :=
  codeAny_builtin PySem.F.entry_extend_loop (by rw [Around.under_plainId PySem.F.plain_extend_loop _, e]; exact wpAny_bind h)
theorem zl_loop (hh : A.handled = none) (q : ZApart B z TI TO i1 i2 S l1 l2) (o1 : h0.IsList l1 xs) (o2 : h0.IsList l2 ys) (hn : min xs.size ys.size ≤ sizeLine) {res : Value} {R : Result → Shared → Prop} :
    ∀ (m i : Nat) (s : Shared) (ts : List Addr), min xs.size ys.size - i = m → i ≤ min xs.size ys.size → ZL B z TI TO i1 i2 S l1 l2 xs ys i ts h0 s.heap → (TO < s.heap.objs.size) →
      (∀ (h' : Heap) (ts' : List Addr), (∀ b o, b < B → h0.get? b = some o → h'.get? b = some o) → (∃ c, h'.get? S = some { cls := .type "list", dict := none, data := .seq (ts'.map Value.ref).toArray c, slots := #[] }) → ts'.length = min xs.size ys.size → ts'.Nodup →
        (∀ (j : Nat) (t : Addr), ts'[j]? = some t → B ≤ t ∧ t ≠ S ∧ ∃ x y, xs[j]? = some x ∧ ys[j]? = some y ∧ IsPair h' t x y) → R (.ok (.ret res)) { s with heap := h' }) →
      codeAny (model P w) A (.builtin "list.extend.loop" ⟨[.ref S, .ref z, res], []⟩) R s := by
  intro m
  induction m with
  | zero =>
    intro i s ts hm hi L lTO k
    have e : i = min xs.size ys.size := by omega
    refine loop_in (m := pyNext (.ref z)) ?_ rfl
    have p1 : s.heap.IsList l1 xs := let ⟨o, g, r⟩ := o1; ⟨o, L.old _ _ q.l1B g, r⟩
    have p2 : s.heap.IsList l2 ys := let ⟨o, g, r⟩ := o2; ⟨o, L.old _ _ q.l2B g, r⟩
    have hend : xs[i]? = none ∨ ys[i]? = none := by
      simp only [Array.getElem?_eq_none_iff]
      omega
    have fin : ∀ h', (∀ b o, b ≠ z → b ≠ TO → b ≠ i1 → b ≠ i2 → s.heap.get? b = some o → h'.get? b = some o) → R (.ok (.ret res)) { s with heap := h' } := fun h' kk => by
      obtain ⟨c, aS⟩ := L.at_
      refine k h' ts (fun b o hb e => kk b o (Nat.ne_of_lt (Nat.lt_of_lt_of_le hb q.bz)) (Nat.ne_of_lt (Nat.lt_of_lt_of_le hb q.bTO)) (Nat.ne_of_lt (Nat.lt_of_lt_of_le hb q.b1)) (Nat.ne_of_lt (Nat.lt_of_lt_of_le hb q.b2)) (L.old b o hb e)) ⟨c, kk S _ q.Sz q.STO q.Si1 q.Si2 aS⟩ (by rw [L.tl, e]) L.nd fun j t hj => ?_
      obtain ⟨⟨b1, b2, b3, b4, b5, b6, b7⟩, u, v, e1, e2, e3⟩ := L.tp j t hj
      exact ⟨b1, b7, u, v, e1, e2, kk t _ b2 b4 b5 b6 e3⟩
    rcases L.zs with ⟨_, hz, a, b, hTO⟩ | ⟨T, f, hz, hTm⟩
    · exact wpAny_pyNext_zip_end (A := A.in1) hh q.D hz L.ti hTO L.a1 L.a2 p1 p2 hend fun h' kk => wpAny_pure (fin h' fun b o c1 c2 c3 c4 e => kk b o c1 c2 c3 c4 e)
    · obtain ⟨j, hj⟩ := List.mem_iff_getElem?.mp hTm
      obtain ⟨_, u, v, _, _, e3⟩ := L.tp j T hj
      exact zb_turn (A := A.in1) hh q.ap hz ⟨_, e3⟩ L.ti L.a1 p1 L.a2 p2 (fun x y h' e1 e2 => absurd hend (by rw [e1, e2]; simp)) fun h' _ kk => wpAny_pure (fin h' fun b o c1 c2 c3 c4 e => kk b o c1 c3 c4 e)
  | succ m ih =>
    intro i s ts hm hi L lTO k
    have hlt : i < min xs.size ys.size := by omega
    refine loop_in (m := pyNext (.ref z)) ?_ rfl
    have p1 : s.heap.IsList l1 xs := let ⟨o, g, r⟩ := o1; ⟨o, L.old _ _ q.l1B g, r⟩
    have p2 : s.heap.IsList l2 ys := let ⟨o, g, r⟩ := o2; ⟨o, L.old _ _ q.l2B g, r⟩
    obtain ⟨x, hx⟩ : ∃ x, xs[i]? = some x := ⟨_, Array.getElem?_eq_getElem (by omega)⟩
    obtain ⟨y, hy⟩ : ∃ y, ys[i]? = some y := ⟨_, Array.getElem?_eq_getElem (by omega)⟩
    have lTI : TI < s.heap.objs.size := Heap.lt_size L.ti
    have go : ∀ h1 T f, BZip h1 z TI TO T f → (T = s.heap.objs.size ∨ T ∈ ts) → h1.IsListIter i1 l1 (i + 1) → h1.IsListIter i2 l2 (i + 1) → IsPair h1 s.heap.objs.size x y → (∀ b o, b ≠ z → b ≠ TO → b ≠ i1 → b ≠ i2 → s.heap.get? b = some o → h1.get? b = some o) →
        wpAny (model P w) A.in1 (updateSeq S (·.push (.ref s.heap.objs.size)) >>= fun _ => again (.builtin "list.extend.loop" ⟨[.ref S, .ref z, res], []⟩)) (fun fin s' => match fin with | .done f => R (.ok f) s' | .again c' => c'.quiet = true ∧ codeAny (model P w) A c' R s') (fun e s' => R (.error e) s') { s with heap := h1 } := fun h1 T f bz hT j1 j2 hp kk => by
      obtain ⟨c, aS⟩ := L.at_
      have gS := kk S _ q.Sz q.STO q.Si1 q.Si2 aS
      have L1 := L.more q hx hy bz hT j1 j2 hp kk lTO lTI
      refine wpAny_bind (wpAny_updateSeq (s := { s with heap := h1 }) gS rfl (wpAny_pure ⟨plainId_quiet PySem.F.plain_extend_loop _, ih (i + 1) _ _ (by omega) hlt L1 ?_ k⟩) (by simp [L.tl]; omega) (by simp [L.tl]; omega))
      rw [Heap.size_update]
      exact Nat.lt_of_lt_of_le lTO (Nat.le_of_lt (Heap.lt_size hp))
    rcases L.zs with ⟨_, hz, a, b, hTO⟩ | ⟨T, f, hz, hTm⟩
    · exact wpAny_pyNext_zip_item q.D hz L.ti hTO L.a1 L.a2 p1 p2 hx hy fun h' b1 b2 b3 b4 b5 b6 b7 => go h' s.heap.objs.size false b1 (.inl rfl) b3 b4 b5 b7
    · obtain ⟨j, hj⟩ := List.mem_iff_getElem?.mp hTm
      obtain ⟨_, u, v, _, _, e3⟩ := L.tp j T hj
      refine zb_turn (A := A.in1) hh q.ap hz ⟨_, e3⟩ L.ti L.a1 p1 L.a2 p2 (fun x' y' h' e1 e2 b1 b2 b3 b4 b5 => ?_) fun h' hn _ => absurd hn (by rw [hx, hy]; simp)
      cases hx.symm.trans e1
      cases hy.symm.trans e2
      exact go h' T true b1 (.inr hTm) b2 b3 b4 fun b o c1 c2 c3 c4 e => b5 b o c1 c3 c4 e
end
end DL

set_option Elab.async false
set_option linter.all false
set_option maxRecDepth 100000
namespace DL
open PySem PySem.Spec PyProof.Rows L2
section
variable {P : Program} {w : World} {A : Around} {E : Value → Shared → Prop} {s : Shared}
theorem hint_zip {r : Addr} {Q : Bool → Shared → Prop} (hT : s.TypeIs (.ref r) "zip") (k : ∀ b, Q b s) : wpAny (model P w) A (Builtin.List.listLengthHint (.ref r)) Q E s := by
  unfold Builtin.List.listLengthHint
  refine wpAny_bind (wpAny_specialOf hT (r := none) (by rw [typeLookup_type, builtinLookup_eq_fast]; kernel_rfl) ?_)
  dsimp only
  rw [if_neg (by decide)]
  rw [if_neg (by decide)]
  refine wpAny_bind (wpAny_specialOf hT (r := none) (by rw [typeLookup_type, builtinLookup_eq_fast]; kernel_rfl) ?_)
  exact wpAny_pure (k true)
theorem call_list_zip {B z TI TO i1 i2 l1 l2 : Addr} {xs ys : Array Value} {Q : Value → Shared → Prop} (hh : A.handled = none) (D : ZipApart z TI TO i1 i2 l1 l2) (hz : IsZip s.heap z TI TO .none) (hTI : IsPair s.heap TI (.ref i1) (.ref i2)) (hTO : ∃ a b, IsPair s.heap TO a b)
    (h1 : s.heap.IsListIter i1 l1 0) (h2 : s.heap.IsListIter i2 l2 0) (hl1 : s.heap.IsList l1 xs) (hl2 : s.heap.IsList l2 ys) (bz : B ≤ z) (bTO : B ≤ TO) (b1 : B ≤ i1) (b2 : B ≤ i2) (l1B : l1 < B) (l2B : l2 < B) (hn : min xs.size ys.size ≤ sizeLine)
    (k : ∀ (h' : Heap) (ts : List Addr), (∀ b o, b < B → s.heap.get? b = some o → h'.get? b = some o) → (∃ c, h'.get? s.heap.objs.size = some { cls := .type "list", dict := none, data := .seq (ts.map Value.ref).toArray c, slots := #[] }) → ts.length = min xs.size ys.size → ts.Nodup →
        (∀ (j : Nat) (t : Addr), ts[j]? = some t → B ≤ t ∧ t ≠ s.heap.objs.size ∧ ∃ x y, xs[j]? = some x ∧ ys[j]? = some y ∧ IsPair h' t x y) → Q (.ref s.heap.objs.size) { s with heap := h' }) :
    wpAny (model P w) A (call (.type "list") [.ref z]) Q E s := by
  have ltz : z < s.heap.objs.size := Heap.lt_size hz
  have ltI : TI < s.heap.objs.size := Heap.lt_size hTI
  have ltO : TO < s.heap.objs.size := by obtain ⟨_, _, q⟩ := hTO; exact Heap.lt_size q
  have lt1 : i1 < s.heap.objs.size := by obtain ⟨_, q, _⟩ := h1; exact Heap.lt_size q
  have lt2 : i2 < s.heap.objs.size := by obtain ⟨_, q, _⟩ := h2; exact Heap.lt_size q
  have q : ZApart B z TI TO i1 i2 s.heap.objs.size l1 l2 := ⟨D, Nat.ne_of_gt ltz, Nat.ne_of_gt ltI, Nat.ne_of_gt ltO, Nat.ne_of_gt lt1, Nat.ne_of_gt lt2, bz, bTO, b1, b2, Nat.le_trans bz (Nat.le_of_lt ltz), l1B, l2B⟩
  refine callType_codes (Q₁ := fun v s1 => v = .ref s.heap.objs.size ∧ s1 = { s with heap := s.heap.push { cls := .type "list", data := .seq #[] } }) PySem.F.called_list (PySem.F.typeCall_list_1 _) PySem.F.entry_list_init (code_list_new _ ⟨rfl, rfl⟩) fun v s1 z1 => ?_
  obtain ⟨rfl, rfl⟩ := z1
  have g0 : (s.heap.push { cls := .type "list", data := .seq #[] }).get? s.heap.objs.size = some { cls := .type "list", data := .seq #[] } := Heap.get?_push_size _ rfl
  refine ⟨⟨_, g0, rfl⟩, PySem.F.args_list_init_2 _ _, ?_⟩
  show wpAny _ _ (Builtin.List.listItems (.ref s.heap.objs.size) >>= fun old => Builtin.List.listUpdate (.ref s.heap.objs.size) (fun _ => #[]) >>= fun _ => letGo old.toList.reverse >>= fun _ => Builtin.List.listExtendWith (.ref s.heap.objs.size) (.ref z) .none) _ _ _
  refine wpAny_bind (wpAny_bind (wpAny_seqItems g0 rfl (wpAny_pure ?_)))
  refine wpAny_bind (show wpAny _ _ (updateSeq s.heap.objs.size fun _ => #[]) _ _ _ from wpAny_updateSeq g0 rfl (wpAny_bind (wpAny_letGo ?_)))
  have g1 := Heap.get?_update_self (Obj.mapSeq fun _ => (#[] : Array Value)) g0 rfl
  generalize hG : (s.heap.push { cls := .type "list", data := .seq #[] }).update s.heap.objs.size (Obj.mapSeq fun _ => (#[] : Array Value)) = G at g1 ⊢
  have kG : ∀ b o, b ≠ s.heap.objs.size → s.heap.get? b = some o → G.get? b = some o := fun b o hb e => by rw [← hG]; exact (Heap.get?_update_other _ _ (Ne.symm hb)).trans (Heap.get?_push_of_some _ e)
  have kG' : ∀ b o, s.heap.get? b = some o → G.get? b = some o := fun b o e => kG b o (Nat.ne_of_lt (Heap.lt_size e)) e
  unfold Builtin.List.listExtendWith
  have hTy : Shared.TypeIs { s with heap := G } (.ref z) "zip" := ⟨_, kG' _ _ hz, rfl⟩
  refine wpAny_bind (wpAny_typeOf (T := "zip") hTy ?_)
  have e1 : Builtin.List.listSameRef (.ref s.heap.objs.size) (.ref z) = false := by simp [Builtin.List.listSameRef, Nat.ne_of_gt ltz]
  have e2 : (Value.type "zip" == Value.type "list") = false := by decide
  have e3 : (Value.type "zip" == Value.type "tuple") = false := by decide
  simp only [e1, e2, e3, Bool.or_false, Bool.false_eq_true, if_false]
  refine wpAny_bind (wpAny_pyIter_zip (s := { s with heap := G }) (kG' _ _ hz) ?_)
  refine wpAny_bind (wpAny_holding (hint_zip hTy fun b => ?_))
  have run : ∀ (h : Heap) (c1 : Nat), (∀ b o, b ≠ s.heap.objs.size → G.get? b = some o → h.get? b = some o) → h.get? s.heap.objs.size = some { cls := .type "list", data := .seq #[] c1 } → codeAny (model P w) A.in1 (.builtin "list.extend.loop" ⟨[.ref s.heap.objs.size, .ref z, .none], []⟩) (wants (fun r s2 => r = .none ∧ Q (.ref s.heap.objs.size) s2) E) { s with heap := h } := fun h c1 hk gh => by
    have kk : ∀ b o, s.heap.get? b = some o → h.get? b = some o := fun b o e => hk b o (Nat.ne_of_lt (Heap.lt_size e)) (kG' b o e)
    refine zl_loop (A := A.in1) (h0 := s.heap) hh q hl1 hl2 hn _ 0 { s with heap := h } [] rfl (Nat.zero_le _) ⟨.inl ⟨rfl, kk _ _ hz, let ⟨a, b, e⟩ := hTO; ⟨a, b, kk _ _ e⟩⟩, kk _ _ hTI, h1.at fun o e => kk _ o e, h2.at fun o e => kk _ o e, fun b o _ e => kk b o e, ⟨c1, gh⟩, rfl, fun j t hj => by simp at hj, List.nodup_nil⟩ ?_ fun h' ts k1 k2 k3 k4 k5 => ⟨rfl, k h' ts k1 k2 k3 k4 k5⟩
    obtain ⟨a, b, e⟩ := hTO
    exact Heap.lt_size (kk _ _ e)
  refine wpAny_ite_split (fun _ => ?_) fun _ => wpAny_pure ⟨plainId_quiet PySem.F.plain_extend_loop _, run G _ (fun _ _ _ e => e) g1⟩
  refine wpAny_bind (wpAny_rule (wpAny_bind ?_))
  show wpAny _ _ (updateSeq s.heap.objs.size (·.push .none) >>= fun _ => updateSeq s.heap.objs.size (·.pop)) _ _ _
  have g2 := Heap.get?_update_self (Obj.mapSeq (·.push Value.none)) g1 rfl
  have g3 := Heap.get?_update_self (Obj.mapSeq (·.pop)) g2 rfl
  refine wpAny_bind (wpAny_updateSeq (s := { s with heap := G }) g1 rfl (wpAny_updateSeq (hz := by seq_fits) g2 rfl ?_))
  exact wpAny_pure ⟨plainId_quiet PySem.F.plain_extend_loop _, run _ _ (fun b o hb e => (Heap.get?_update_other _ _ (Ne.symm hb)).trans ((Heap.get?_update_other _ _ (Ne.symm hb)).trans e)) g3⟩
end
section
variable {X : Cx} {pins : List (Addr × Obj)} {σ : L2.St} {H H' : Hp} {s : Shared} {h' : Heap}
theorem Inv.lays {t' : Nat} (I : L2.Inv X pins σ H s) (k : ∀ b u, s.heap.get? b = some u → h'.get? b = some u) (hold : ∀ a o, H a = some o → H' a = some o)
    (hnew : ∀ a o, H' a = some o → H a = some o ∨ s.heap.objs.size ≤ a ∧ ObjOk X.prog X.w H' h' a o) : L2.Inv X pins σ H' { s with heap := h', toks := t' } := by
  refine I.un (t' := t') ⟨fun b o q _ _ _ => k b o q, fun b o q _ _ _ => ⟨o.slots, k b o q⟩, fun b o q n _ => ?_, fun b o q _ => ⟨o, k b o q⟩, fun b xs q => hold _ _ q, fun b o u q => hold _ _ q, fun b ps q => ⟨#[], by rw [hold _ _ q]; simp⟩⟩ fun a o e => ?_
  · cases e : H' b with
    | none => rfl
    | some u =>
      rcases hnew b u e with z | z
      · rw [n] at z; cases z
      · exact absurd (Nat.lt_of_lt_of_le (Heap.lt_size q) z.1) (Nat.lt_irrefl _)
  · rcases hnew a o e with z | z
    · exact (I.hok a o z).stay (fun b u _ q => k b u q) (fun b q => hold _ _ q) fun b xs q => hold _ _ q
    · exact z.2
end
def zh (ts : List Addr) (ps : List (List V)) (H : Hp) : Hp := fun b => match (ts.zip ps).lookup b with
  | some xs => some (.tup xs)
  | none => H b
theorem lk_some {β : Type} : ∀ {ts : List Addr} {ps : List β} {b : Addr} {p : β}, (ts.zip ps).lookup b = some p → ∃ j : Nat, ts[j]? = some b ∧ ps[j]? = some p
  | [], _, _, _, h => by simp at h
  | _ :: _, [], _, _, h => by simp at h
  | t :: ts, q :: ps, b, p, h => by
    rw [List.zip_cons_cons, List.lookup_cons] at h
    split at h
    · rename_i e
      cases h
      exact ⟨0, by simp [eq_of_beq e], rfl⟩
    · obtain ⟨j, e1, e2⟩ := lk_some h
      exact ⟨j + 1, by simpa using e1, by simpa using e2⟩
theorem lk_of {β : Type} : ∀ {ts : List Addr} {ps : List β} {b : Addr} {p : β} {j : Nat}, ts.Nodup → ts[j]? = some b → ps[j]? = some p → (ts.zip ps).lookup b = some p
  | [], _, _, _, _, _, h, _ => by simp at h
  | _ :: _, [], _, _, _, _, _, h => by simp at h
  | t :: ts, q :: ps, b, p, 0, hn, h1, h2 => by
    simp only [List.getElem?_cons_zero, Option.some.injEq] at h1 h2
    subst h1 h2
    rw [List.zip_cons_cons, List.lookup_cons]
    simp
  | t :: ts, q :: ps, b, p, j + 1, hn, h1, h2 => by
    rw [List.nodup_cons] at hn
    have hb : b ≠ t := fun z => hn.1 (z ▸ List.mem_of_getElem? (by simpa using h1))
    rw [List.zip_cons_cons, List.lookup_cons]
    have e : (b == t) = false := by simpa using hb
    rw [e]
    exact lk_of hn.2 (by simpa using h1) (by simpa using h2)
section
variable {X : Cx} {a b : Expr} {ma mb : ME} {pos p p2 p3 : Pos}
def tLz (K : PySem.W.Frag) (ta : TA) : TE := fun σ H Q => ta σ H fun vs H1 => ∃ l1 l2 xs ys, vs = [.ref l1, .ref l2] ∧ SqL K H1 l1 xs ∧ SqL K H1 l2 ys ∧ min xs.length ys.length ≤ sizeLine ∧
  ∀ (H2 : Hp) (S : Addr) (ts : List Addr), Same H1 H2 → H1 S = none → H2 S = some (.lst (ts.map V.ref)) → ts.length = min xs.length ys.length →
    (∀ (j : Nat) (t : Addr), ts[j]? = some t → H1 t = none ∧ ∃ x y, xs[j]? = some x ∧ ys[j]? = some y ∧ H2 t = some (.tup [x, y])) → Q (.ref S) H2
theorem vals_at {xs : List V} {us : List Value} {i : Nat} {u : Value} (r : Vals xs us) (h : us[i]? = some u) : ∃ x, xs[i]? = some x ∧ RelV x u := by
  have hi := (List.getElem?_eq_some_iff.mp h).1
  have hx : i < xs.length := by rw [r.length]; exact hi
  obtain ⟨u', e1, e2⟩ := r.get (List.getElem?_eq_getElem hx)
  rw [h] at e1
  cases e1
  exact ⟨_, List.getElem?_eq_getElem hx, e2⟩
theorem pe_listzip {ta : TA} (hc : X.calm = true) (hg1 : Gl X "list") (hm1 : X.mg "list" = none) (hg2 : Gl X "zip") (hm2 : X.mg "zip" = none) (ha : PA X [a, b] ta) (h1 : starEach [a, b] X.env = (false, eval a X.env) :: starEach [b] X.env := by rfl) (hpl : (backTo p3 (starEach [b] X.env)).any (·.1) = false := by rfl)
    (s1 : starEach [Expr.Call (.Name "zip" p2) [a, b] [] p3] X.env = (false, eval (Expr.Call (.Name "zip" p2) [a, b] [] p3) X.env) :: starEach [] X.env := by rfl) (hp0 : (backTo pos (starEach [] X.env)).any (·.1) = false := by rfl) :
    PE X (.Call (.Name "list" p) [.Call (.Name "zip" p2) [a, b] [] p3] [] pos) (tLz X.K ta) := by
  intro pins s σ H Q I h
  refine Call_ (ld_blt I hg1 hm1 (by rfl) (PyProof.Rows.callWith_type1 ?_ s1 hp0))
  rw [s1]
  show wpAny _ _ (spliced ((false, eval (Expr.Call (.Name "zip" p2) [a, b] [] p3) X.env) :: backTo pos (starEach [] X.env))) _ _ s
  refine Calls.spliced_cons ?_
  refine Call_ (ld_blt I hg2 hm2 (by rfl) (PyProof.Rows.callWith_type1 (thn (ha p3 pins s σ H _ I h) fun us s1 ⟨vs, H1, I1, r1, q1⟩ => ?_) h1 hpl))
  obtain ⟨l1, l2, xs, ys, e, hq1, hq2, hn, q⟩ := q1
  subst e
  obtain ⟨u, v, rfl, ru, rv⟩ := vals2 r1
  cases ru
  cases rv
  obtain ⟨its1, rv1, p1, _⟩ := I1.list hq1
  obtain ⟨its2, rv2, p2', _⟩ := I1.list hq2
  have a1 : l1 < s1.heap.objs.size := by obtain ⟨_, q, _⟩ := p1.isList; exact Heap.lt_size q
  have a2 : l2 < s1.heap.objs.size := by obtain ⟨_, q, _⟩ := p2'.isList; exact Heap.lt_size q
  refine call_zip_2 p1.isList p2'.isList fun h2 hz hTI hTO hi1 hi2 hsz hk => ?_
  refine Calls.spliced_nil ?_
  have m1 : h2.IsList l1 its1.toArray := let ⟨o, g, r⟩ := p1.isList; ⟨o, hk _ _ g, r⟩
  have m2 : h2.IsList l2 its2.toArray := let ⟨o, g, r⟩ := p2'.isList; ⟨o, hk _ _ g, r⟩
  have hlen : min its1.toArray.size its2.toArray.size = min xs.length ys.length := by rw [List.size_toArray, List.size_toArray, rv1.length, rv2.length]
  refine call_list_zip (s := { s1 with heap := h2 }) (B := s1.heap.objs.size) (I1.ok.hd hc) (zipApart_new a1 a2) hz hTI ⟨_, _, hTO⟩ hi1 hi2 m1 m2 (Nat.le_add_right _ _) (Nat.le_add_right _ _) (Nat.le_refl _) (Nat.le_add_right _ _) a1 a2 (by rw [hlen]; exact hn) fun h3 ts k1 k2 k3 k4 k5 => ?_
  have hS : s1.heap.objs.size ≤ h2.objs.size := by rw [hsz]; exact Nat.le_add_right _ _
  have kk : ∀ c o, s1.heap.get? c = some o → h3.get? c = some o := fun c o e => k1 c o (Heap.lt_size e) (hk c o e)
  have pz : ∀ (j : Nat) (t : Addr), ts[j]? = some t → ∃ x y ux uy, xs[j]? = some x ∧ ys[j]? = some y ∧ RelV x ux ∧ RelV y uy ∧ IsPair h3 t ux uy := fun j t hj => by
    obtain ⟨_, _, ux, uy, e1, e2, e3⟩ := k5 j t hj
    obtain ⟨x, f1, f2⟩ := vals_at rv1 (i := j) (u := ux) (by simpa using e1)
    obtain ⟨y, f3, f4⟩ := vals_at rv2 (i := j) (u := uy) (by simpa using e2)
    exact ⟨x, y, ux, uy, f1, f3, f2, f4, e3⟩
  let ps : List (List V) := (xs.zip ys).map fun q => [q.1, q.2]
  have hps : ∀ (j : Nat) x y, xs[j]? = some x → ys[j]? = some y → ps[j]? = some [x, y] := fun j x y e1 e2 => by
    simp only [ps, List.getElem?_map]
    have z : (xs.zip ys)[j]? = some (x, y) := List.getElem?_zip_eq_some.mpr ⟨e1, e2⟩
    rw [z]
    rfl
  let H2 : Hp := upd (zh ts ps H1) h2.objs.size (.lst (ts.map V.ref))
  have zt : ∀ (j : Nat) (t : Addr) x y, ts[j]? = some t → xs[j]? = some x → ys[j]? = some y → zh ts ps H1 t = some (.tup [x, y]) := fun j t x y e1 e2 e3 => by
    unfold zh
    rw [lk_of k4 e1 (hps j x y e2 e3)]
  have zo : ∀ c o, zh ts ps H1 c = some o → H1 c = some o ∨ ∃ (j : Nat) (x y : V), ts[j]? = some c ∧ xs[j]? = some x ∧ ys[j]? = some y ∧ o = .tup [x, y] := fun c o e => by
    unfold zh at e
    split at e
    · rename_i vs el
      cases e
      obtain ⟨j, e1, e2⟩ := lk_some el
      obtain ⟨x, y, _, _, f1, f2, _⟩ := pz j c e1
      rw [hps j x y f1 f2] at e2
      cases e2
      exact .inr ⟨j, x, y, e1, f1, f2, rfl⟩
    · exact .inl e
  have fr : ∀ (j : Nat) (t : Addr), ts[j]? = some t → H1 t = none := fun j t hj => I1.hok.fresh (k5 j t hj).1
  have hold : ∀ c o, H1 c = some o → H2 c = some o := fun c o e => by
    have hc : c ≠ h2.objs.size := ne_of_none e (I1.hok.fresh hS)
    show upd _ _ _ c = _
    rw [upd_ne hc]
    unfold zh
    split
    · rename_i vs el
      obtain ⟨j, e1, _⟩ := lk_some el
      rw [fr j c e1] at e
      cases e
    · exact e
  have H2S : H2 h2.objs.size = some (.lst (ts.map V.ref)) := upd_same
  have H2t : ∀ (j : Nat) (t : Addr) x y, ts[j]? = some t → xs[j]? = some x → ys[j]? = some y → H2 t = some (.tup [x, y]) := fun j t x y e1 e2 e3 => by
    show upd _ _ _ t = _
    rw [upd_ne (k5 j t e1).2.1]
    exact zt j t x y e1 e2 e3
  have J : L2.Inv X pins σ H2 { s1 with heap := h3, toks := s1.toks } := by
    refine Inv.lays (s := s1) (t' := s1.toks) I1 kk hold fun c o e => ?_
    by_cases hcS : c = h2.objs.size
    · subst hcS
      rw [H2S] at e
      cases e
      obtain ⟨cc, gS⟩ := k2
      refine .inr ⟨hS, by rw [List.length_map, k3, hlen]; exact hn, ts.map Value.ref, cc, ?_, gS⟩
      clear pz hps zt zo fr H2t k3 k4 k5 gS hold H2S
      induction ts with
      | nil => exact .nil
      | cons t ts ih => exact .cons rfl ih
    · have e' : zh ts ps H1 c = some o := by
        have : upd (zh ts ps H1) h2.objs.size (.lst (ts.map V.ref)) c = some o := e
        rw [upd_ne hcS] at this
        exact this
      rcases zo c o e' with z | ⟨j, x, y, e1, e2, e3, rfl⟩
      · exact .inl z
      · obtain ⟨x', y', ux, uy, f1, f2, f3, f4, f5⟩ := pz j c e1
        rw [e2] at f1
        rw [e3] at f2
        cases f1
        cases f2
        exact .inr ⟨(k5 j c e1).1, by show 2 ≤ sizeLine; rw [lim_eq]; decide, [ux, uy], .cons f3 (.cons f4 .nil), _, f5, rfl, _, rfl⟩
  refine ⟨.ref h2.objs.size, H2, J, rfl, q H2 h2.objs.size ts (fun c o e => hold c o e) (I1.hok.fresh hS) H2S (by rw [k3, hlen]) fun j t hj => ?_⟩
  obtain ⟨x, y, _, _, f1, f2, _⟩ := pz j t hj
  exact ⟨fr j t hj, x, y, f1, f2, H2t j t x y hj f1 f2⟩
theorem de_listzip (hc : X.calm = true) (hg1 : Gl X "list") (hm1 : X.mg "list" = none) (hg2 : Gl X "zip") (hm2 : X.mg "zip" = none) (ha : DE X a ma) (hb : DE X b mb) (h1 : starEach [a, b] X.env = (false, eval a X.env) :: starEach [b] X.env := by rfl) (h2 : starEach [b] X.env = (false, eval b X.env) :: starEach [] X.env := by rfl) (hpl : (backTo p3 (starEach [b] X.env)).any (·.1) = false := by rfl)
    (s1 : starEach [Expr.Call (.Name "zip" p2) [a, b] [] p3] X.env = (false, eval (Expr.Call (.Name "zip" p2) [a, b] [] p3) X.env) :: starEach [] X.env := by rfl) (hp0 : (backTo pos (starEach [] X.env)).any (·.1) = false := by rfl) :
    DE X (.Call (.Name "list" p) [.Call (.Name "zip" p2) [a, b] [] p3] [] pos) (eListZip ma mb) := by
  obtain ⟨ta, pa, qa⟩ := ha
  obtain ⟨tb, pb, qb⟩ := hb
  refine ⟨_, pe_listzip hc hg1 hm1 hg2 hm2 (pa_cons pa (pa_cons pb pa_nil h2) h1) h1 hpl s1 hp0, fun os σ H δ d Q s m k => ?_⟩
  obtain ⟨zs, m0, m⟩ := bind_inv m
  obtain ⟨dx, e1, m0⟩ := bind_inv m0
  obtain ⟨dy, e2, m0⟩ := bind_inv m0
  refine qa os σ H δ dx _ s e1 fun v H1 g1 r1 => ?_
  refine qb os σ H1 δ dy _ (s.mono g1) e2 fun w H2 g2 r2 => ?_
  match dx, dy, m0 with
  | .lst ds, .lst es, m0 =>
    cases m0
    split at m
    · rename_i hz
      cases m
      obtain ⟨l1, xs, rfl, q1, d1⟩ := (r1.mono g2.hd _ _).lst_up
      obtain ⟨l2, ys, rfl, q2, d2⟩ := r2.lst_up
      have zl : (zipD ds es).length = min xs.length ys.length := by simp [zipD, d1.length, d2.length]
      refine ⟨l1, l2, xs, ys, rfl, q1, q2, by rw [← zl, lim_eq]; exact hz, fun H3 S ts g3 hS h3 hl ht => ?_⟩
      have L := (s.live.mono g1).mono g2
      refine k _ H3 (g1.trans (g2.trans g3)) (.lst (.of ((hide_off (L.ne hS)).trans h3)) ?_)
      have key : ∀ (zs : List D) (us : List Addr), zs.length = us.length → (∀ (j : Nat) (t : Addr) (d : D), us[j]? = some t → zs[j]? = some d → Den X.K (hide os H3) d (.ref t)) → Dens X.K (hide os H3) zs (us.map V.ref) := by
        intro zs
        induction zs with
        | nil => intro us hl _; rw [List.length_eq_zero_iff.mp hl.symm]; exact .nil
        | cons z zs ih =>
          intro us hl hd
          cases us with
          | nil => simp at hl
          | cons u us => exact .cons (hd 0 u z rfl rfl) (ih us (by simpa using hl) fun j t d e1 e2 => hd (j + 1) t d (by simpa using e1) (by simpa using e2))
      refine key _ _ (by rw [zl, hl]) fun j t d ej ed => ?_
      obtain ⟨x, y, f1, f2, rfl⟩ := zip_getD ds es j d ed
      obtain ⟨tn, u, v, w1, w2, w3⟩ := ht j t ej
      obtain ⟨u', z1, z2⟩ := d1.get f1
      obtain ⟨v', z3, z4⟩ := d2.get f2
      rw [w1] at z1
      rw [w2] at z3
      cases z1
      cases z3
      exact .tup ((hide_off (L.ne tn)).trans w3) (.cons (z2.mono g3.hd _ _) (.cons (z4.mono g3.hd _ _) .nil))
    · cases m
end
end DL

set_option Elab.async false
set_option linter.all false
set_option maxRecDepth 100000
namespace L2
open PySem PySem.Spec PyProof.Rows

section
variable {κ : Type} [DecidableEq κ]
def valV (kvs : List (κ × V)) (k : κ) : Option V := (kvs.find? fun kv => decide (kv.1 = k)).map (·.2)
def putK (kvs : List (κ × V)) (k : κ) (v : V) : List (κ × V) :=
  if (kvs.any fun kv => decide (kv.1 = k)) = true then kvs.map (fun kv => if kv.1 = k then (kv.1, v) else kv) else kvs ++ [(k, v)]

theorem valV_pos {p : κ × V} {r : List (κ × V)} {k : κ} (e : p.1 = k) : valV (p :: r) k = some p.2 := by simp [valV, List.find?_cons, e]
theorem valV_neg {p : κ × V} {r : List (κ × V)} {k : κ} (e : ¬ p.1 = k) : valV (p :: r) k = valV r k := by simp [valV, List.find?_cons, e]
theorem valV_any (k : κ) : ∀ kvs : List (κ × V), (kvs.any fun kv => decide (kv.1 = k)) = (valV kvs k).isSome
  | [] => rfl
  | p :: r => by
    rw [List.any_cons]
    by_cases e : p.1 = k
    · simp only [valV_pos e, decide_eq_true e, Bool.true_or, Option.isSome_some]
    · rw [valV_neg e, decide_eq_false e, Bool.false_or]; exact valV_any k r
theorem length_putK (kvs : List (κ × V)) (k : κ) (v : V) : (putK kvs k v).length ≤ kvs.length + 1 := by
  unfold putK
  split
  · rw [List.length_map]; omega
  · rw [List.length_append, List.length_cons, List.length_nil]; omega
theorem putK_new {kvs : List (κ × V)} {k : κ} (v : V) (h : valV kvs k = none) : putK kvs k v = kvs ++ [(k, v)] := by
  unfold putK
  rw [valV_any, h]
  exact if_neg (by decide)

theorem RelO.isSome_eq {o : Option V} {u : Option Value} (r : RelO o u) : o.isSome = u.isSome := by
  cases o with
  | none => cases u with
    | none => rfl
    | some _ => exact (show False from r).elim
  | some _ => cases u with
    | none => exact (show False from r).elim
    | some _ => rfl
theorem RelO.getD {o : Option V} {u : Option Value} {d : V} {d' : Value} (r : RelO o u) (rd : RelV d d') : RelV (o.getD d) (u.getD d') := by
  cases o with
  | none => cases u with
    | none => exact rd
    | some _ => exact (show False from r).elim
  | some _ => cases u with
    | none => exact (show False from r).elim
    | some _ => exact r

theorem KV.val {kvs : List (κ × V)} {vs : List (κ × Value)} (r : KV kvs vs) (k : κ) : RelO (valV kvs k) (valueAt vs k) := by
  unfold KV at r
  induction r with
  | nil => exact True.intro
  | @cons p q ps qs h t ih =>
    obtain ⟨h1, h2⟩ := h
    by_cases e : p.1 = k
    · have e' : q.1 = k := h1.symm.trans e
      have b : valueAt (q :: qs) k = some q.2 := by simp [valueAt, List.find?_cons, e']
      rw [valV_pos e, b]; exact h2
    · have e' : ¬ q.1 = k := fun z => e (h1.trans z)
      have b : valueAt (q :: qs) k = valueAt qs k := by simp [valueAt, List.find?_cons, e']
      rw [valV_neg e, b]; exact ih
theorem KV.any {kvs : List (κ × V)} {vs : List (κ × Value)} (r : KV kvs vs) (k : κ) : (kvs.any fun kv => decide (kv.1 = k)) = vs.any fun kv => decide (kv.1 = k) := by
  unfold KV at r
  induction r with
  | nil => rfl
  | cons h t ih => rw [List.any_cons, List.any_cons, ih, h.1]
theorem KV.repl {kvs : List (κ × V)} {vs : List (κ × Value)} (r : KV kvs vs) (k : κ) {y : V} {u : Value} (ry : RelV y u) :
    KV (kvs.map fun kv => if kv.1 = k then (kv.1, y) else kv) (vs.map fun kv => if kv.1 = k then (kv.1, u) else kv) := by
  unfold KV at r ⊢
  induction r with
  | nil => exact .nil
  | @cons p q ps qs h t ih =>
    rw [List.map_cons, List.map_cons]
    refine .cons ?_ ih
    obtain ⟨h1, h2⟩ := h
    by_cases e : p.1 = k
    · rw [if_pos e, if_pos (h1.symm.trans e)]; exact ⟨h1, ry⟩
    · rw [if_neg e, if_neg (fun z => e (h1.trans z))]; exact ⟨h1, h2⟩
theorem KV.put {kvs : List (κ × V)} {vs : List (κ × Value)} (r : KV kvs vs) (k : κ) {y : V} {u : Value} (ry : RelV y u) : KV (putK kvs k y) (stored vs k u) := by
  unfold putK stored
  rw [r.any k]
  by_cases e : (vs.any fun kv => decide (kv.1 = k)) = true
  · rw [if_pos e, if_pos e]; exact r.repl k ry
  · rw [if_neg e, if_neg e]; exact Paired.snoc r ⟨rfl, ry⟩
theorem KV.length {kvs : List (κ × V)} {vs : List (κ × Value)} (r : KV kvs vs) : kvs.length = vs.length := Paired.length r
end


theorem kV_is {P : Program} {w : World} {k : Key} {u : Value} (r : RelV (kV k) u) : (mixKind P w).is k u = true := by
  cases k with
  | inl i => obtain ⟨t, e⟩ := (show ∃ t, u = Value.int i t from r); subst e; exact mixKind_int P w i t
  | inr x => obtain ⟨t, e⟩ := (show ∃ t, u = Value.str x t from r); subst e; exact mixKind_str P w x t
theorem items_are {P : Program} {w : World} : ∀ {ks : List Key} {us : List Value}, Vals (ks.map kV) us → ItemsAre (mixKind P w) ks us
  | [], _, r => by rw [List.map_nil] at r; cases r; exact .nil
  | k :: ks, _, r => by
    rw [List.map_cons] at r
    cases r with
    | cons h t => exact .cons (kV_is h) (items_are t)

abbrev KT (H : Hp) : List (List Key × V) → List (List Key × Addr × Value) → Prop := Paired fun p q => p.1 = q.1 ∧ H q.2.1 = some (.tup (p.1.map kV)) ∧ RelV p.2 q.2.2
theorem KT.val {H : Hp} {kvs : List (List Key × V)} {xs : List (List Key × Addr × Value)} (r : KT H kvs xs) (k : List Key) : RelO (valV kvs k) ((atKey xs k).map (·.2)) := by
  induction r with
  | nil => exact True.intro
  | @cons p q ps qs h t ih =>
    obtain ⟨h1, _, h2⟩ := h
    by_cases e : p.1 = k
    · have e' : q.1 = k := h1.symm.trans e
      have b : atKey (q :: qs) k = some q.2 := by simp [atKey, List.find?_cons, e']
      rw [valV_pos e, b]; exact h2
    · have e' : ¬ q.1 = k := fun z => e (h1.trans z)
      have b : atKey (q :: qs) k = atKey qs k := by simp [atKey, List.find?_cons, e']
      rw [valV_neg e, b]; exact ih
theorem KT.repl {H : Hp} {kvs : List (List Key × V)} {xs : List (List Key × Addr × Value)} (r : KT H kvs xs) (k : List Key) {y : V} {u : Value} (ry : RelV y u) :
    KT H (kvs.map fun kv => if kv.1 = k then (kv.1, y) else kv) (xs.map (putAt k u)) := by
  induction r with
  | nil => exact .nil
  | @cons p q ps qs h t ih =>
    rw [List.map_cons, List.map_cons]
    refine .cons ?_ ih
    obtain ⟨h1, h2, h3⟩ := h
    unfold putAt
    by_cases e : p.1 = k
    · rw [if_pos e, if_pos (h1.symm.trans e)]; exact ⟨h1, h2, ry⟩
    · rw [if_neg e, if_neg (fun z => e (h1.trans z))]; exact ⟨h1, h2, h3⟩
theorem KT.put {H : Hp} {kvs : List (List Key × V)} {xs : List (List Key × Addr × Value)} (r : KT H kvs xs) (k : List Key) {b : Addr} {y : V} {u : Value} (hb : H b = some (.tup (k.map kV))) (ry : RelV y u) :
    KT H (putK kvs k y) (storedH xs k b u) := by
  have e : (kvs.any fun kv => decide (kv.1 = k)) = (atKey xs k).isSome := by
    rw [valV_any, (r.val k).isSome_eq, Option.isSome_map]
  unfold putK storedH
  rw [e]
  by_cases q : (atKey xs k).isSome = true
  · rw [if_pos q, if_pos q]; exact r.repl k ry
  · rw [if_neg q, if_neg q]; exact Paired.snoc r ⟨rfl, hb, ry⟩
theorem KT.keeps {H H' : Hp} {kvs : List (List Key × V)} {xs : List (List Key × Addr × Value)} (r : KT H kvs xs) (ht : ∀ b ys, H b = some (.tup ys) → H' b = some (.tup ys)) : KT H' kvs xs :=
  Paired.mapP r fun _ _ z => ⟨z.1, ht _ _ z.2.1, z.2.2⟩

section
variable {P : Program} {w : World} {H : Hp} {h : Heap} {a : Addr}
theorem rd_of {u : HO} (ok : HOk P w H h) (e : Rd H a u) : ObjOk P w H h a u := e.ok ok
theorem dk_rd {kvs : List (Key × V)} (ok : HOk P w H h) (e : Rd H a (.dK kvs)) : kvs.length ≤ sizeLine ∧ (a == sysModules) = false ∧ ∃ vs, KV kvs vs ∧ h.DictOf (mixKind P w) a vs :=
  show ObjOk P w H h a (.dK kvs) from rd_of ok e
theorem dk_of {kvs : List (Key × V)} (ok : HOk P w H h) (e : H a = some (.dK kvs)) : kvs.length ≤ sizeLine ∧ (a == sysModules) = false ∧ ∃ vs, KV kvs vs ∧ h.DictOf (mixKind P w) a vs := dk_rd ok (.inl e)
theorem key_of {ks : List Key} (ok : HOk P w H h) (e : H a = some (.tup (ks.map kV))) : (tupleKind (mixKind P w)).is h ks a := by
  obtain ⟨_, its, r, o, h1, h2, n, h3⟩ := (show ObjOk P w H h a (.tup (ks.map kV)) from ok a _ e)
  exact ⟨o, its.toArray, n, h1, h2, h3, by simpa using items_are r⟩
theorem dt_rd {kvs : List (List Key × V)} (ok : HOk P w H h) (e : Rd H a (.dT kvs)) : kvs.length ≤ sizeLine ∧ (a == sysModules) = false ∧
    ∃ xs, KT H kvs xs ∧ h.DictOfH (tupleKind (mixKind P w)) a xs := by
  obtain ⟨z, y, xs, r, o, es, ep, h1, h2, h3, h4, h5⟩ := (show ObjOk P w H h a (.dT kvs) from rd_of ok e)
  refine ⟨z, y, xs, r, o, es, ep, h1, h2, h3, h4, fun x hx => ?_, h5⟩
  have all : ∀ {l : List (List Key × V)} {m : List (List Key × Addr × Value)}, KT H l m → ∀ x ∈ m, (tupleKind (mixKind P w)).is h x.1 x.2.1 := by
    intro l m q
    induction q with
    | nil => intro x hx; exact nomatch hx
    | @cons p q ps qs hq t ih =>
      intro x hx
      rcases List.mem_cons.mp hx with e | hx
      · subst e
        exact key_of ok (by rw [← hq.1]; exact hq.2.1)
      · exact ih x hx
  exact all r x hx
theorem dt_of {kvs : List (List Key × V)} (ok : HOk P w H h) (e : H a = some (.dT kvs)) : kvs.length ≤ sizeLine ∧ (a == sysModules) = false ∧
    ∃ xs, KT H kvs xs ∧ h.DictOfH (tupleKind (mixKind P w)) a xs := dt_rd ok (.inl e)
end

def DGet (H : Hp) (a : Addr) (y : V) (r : Option V) : Prop :=
  (∃ kvs k, Rd H a (.dK kvs) ∧ y = kV k ∧ r = valV kvs k) ∨ ∃ kvs k b, Rd H a (.dT kvs) ∧ y = .ref b ∧ H b = some (.tup (k.map kV)) ∧ r = valV kvs k
def DPut (H : Hp) (a : Addr) (y v : V) (H' : Hp) : Prop :=
  (∃ kvs k, H a = some (.dK kvs) ∧ y = kV k ∧ kvs.length < sizeLine ∧ H' = upd H a (.dK (putK kvs k v))) ∨
  ∃ kvs k b, H a = some (.dT kvs) ∧ y = .ref b ∧ H b = some (.tup (k.map kV)) ∧ kvs.length < sizeLine ∧ H' = upd H a (.dT (putK kvs k v))
theorem DPut.t {H : Hp} {a b : Addr} {kvs : List (List Key × V)} {k : List Key} {v : V} (e : H a = some (.dT kvs)) (eb : H b = some (.tup (k.map kV))) (hl : kvs.length < sizeLine) :
    DPut H a (.ref b) v (upd H a (.dT (putK kvs k v))) := .inr ⟨kvs, k, b, e, rfl, eb, hl, rfl⟩


section
variable {X : Cx} {pins : List (Addr × Obj)} {σ : St} {H : Hp} {s : Shared} {a : Addr} {y v : V} {u r : Value} {o : Option V} {A : Around} {E : Value → Shared → Prop}

theorem Inv.big (I : Inv X pins σ H s) : sysModules < s.heap.objs.size := by
  have h : mainGlobals < s.heap.objs.size := (I.mod.glob.keeps I.bk).lt
  exact Nat.lt_trans (by decide) h

theorem d_write {h' : Heap} {t' : Nat} {ob : HO} (I : Inv X pins σ H s) (mu : Mut (H a)) (hs : Heap.SameBut a s.heap h') (he : ∃ q, h'.get? a = some q) (new : ObjOk X.prog X.w (upd H a ob) h' a ob) :
    Inv X pins σ (upd H a ob) { s with heap := h', toks := t' } :=
  I.write (x := a) (e := a) mu (.inl rfl) (fun b q hb z => (hs.2 b hb).trans z) he new
theorem dk_new {P : Program} {w : World} {H' : Hp} {h' : Heap} {kvs : List (Key × V)} {vs : List (Key × Value)} (z : kvs.length ≤ sizeLine) (hd : (a == sysModules) = false) (rel : KV kvs vs) (dd : h'.DictOf (mixKind P w) a vs) :
    ObjOk P w H' h' a (.dK kvs) := ⟨z, hd, vs, rel, dd⟩
theorem d_setItem {H' : Hp} {Q : Unit → Shared → Prop} (hu : A.units + 1 < cLine) (I : Inv X pins σ H s) (g : DPut H a y v H') (ry : RelV y u) (rv : RelV v r) (h : ∀ s', Inv X pins σ H' s' → Q () s') :
    wpAny (model X.prog X.w) A (setItem (.ref a) u r) Q E s := by
  rcases g with ⟨kvs, k, e, ey, l, eH⟩ | ⟨kvs, k, b, e, ey, eb, l, eH⟩
  · subst ey eH
    obtain ⟨z, hd, vs, rel, dd⟩ := dk_of I.hok e
    have hz : vs.length ≤ sizeLine := by rw [← rel.length]; exact z
    have hl : (putK kvs k v).length ≤ sizeLine := by have := length_putK kvs k v; omega
    refine wpAny_setItem_pairs (hsz := hz) (kV_is ry) dd fun h' dd' hs => h _ ?_
    have he : ∃ q, h'.get? a = some q := let ⟨q, _, _, hq, _⟩ := dd'; ⟨q, hq⟩
    exact d_write I (by rw [e]; exact True.intro) hs he (dk_new hl hd (rel.put k rv) dd')
  · subst ey eH
    cases (show u = Value.ref b from ry)
    obtain ⟨z, hd, xs, rel, dd⟩ := dt_of I.hok e
    have hz : xs.length ≤ sizeLine := by rw [← Paired.length rel]; exact z
    have hl : (putK kvs k v).length ≤ sizeLine := by have := length_putK kvs k v; omega
    refine wpAny_setItem_heap (hsz := hz) (tupleKind_room_in1 hu) (key_of I.hok eb) dd fun h' dd' hs => h _ ?_
    obtain ⟨q, es, ep, hq, h2, h3, h4, _, h5⟩ := dd'
    refine d_write I (by rw [e]; exact True.intro) hs ⟨q, hq⟩ ⟨hl, hd, _, (rel.put k eb rv).keeps fun c ys ec => ?_, q, es, ep, hq, h2, h3, h4, h5⟩
    rw [upd_ne (ne_of ec e (fun z => nomatch z))]
    exact ec
end

section
variable {X : Cx} {pins : List (Addr × Obj)} {σ : St} {H : Hp} {s : Shared} {a : Addr} {kvs : List (Key × V)} {k : Key} {u : Value} {A : Around} {E : Value → Shared → Prop}
end




def sDPut (td ty tv : TE) : TS := fun D σ H => tv σ H fun v H1 => td σ H1 fun x H2 => ty σ H2 fun y H3 => ∃ a H4, x = .ref a ∧ DPut H3 a y v H4 ∧ D.nx σ H4

section
variable {X : Cx} {o i e value : Expr} {pos pos' tpos : Pos} {td ty tv : TE}
theorem ps_dput (hu : X.A.units + 1 < cLine) (ho : PE X o td) (hi : PE X i ty) (hv : PE X value tv) (hs : swapsWith value (some (.Subscript o i pos')) pos.line X.env = pure false) :
    PS X (.Assign [.Subscript o i pos'] value pos) (sDPut td ty tv) := by
  intro pins s σ H D I h
  refine wpAny_Assign_Subscript (thn (hv pins s σ H _ I h) fun r s1 ⟨v, H1, I1, rv, q1⟩ => thn (ho pins s1 σ H1 _ I1 q1) fun u s2 ⟨x, H2, I2, rx, q2⟩ => thn (hi pins s2 σ H2 _ I2 q2) fun iv s3 ⟨y, H3, I3, ry, a, H4, ex, g, q3⟩ => ?_) hs
  subst ex
  obtain rfl : u = Value.ref a := rx
  exact d_setItem hu I3 g ry rv fun s4 I4 => ⟨σ, H4, I4, q3⟩
end


theorem dk_empty {P : Program} {w : World} {H : Hp} (h : Heap) (hb : sysModules < h.objs.size) : ObjOk P w H (h.push { cls := .type "dict", data := .dict #[] }) h.objs.size (.dK []) :=
  ⟨Nat.zero_le _, beq_eq_false_iff_ne.mpr (Ne.symm (Nat.ne_of_lt hb)), [], .nil, Heap.DictOf.new h⟩
theorem dt_empty {P : Program} {w : World} {H : Hp} (h : Heap) (hb : sysModules < h.objs.size) : ObjOk P w H (h.push { cls := .type "dict", data := .dict #[] }) h.objs.size (.dT []) :=
  ⟨Nat.zero_le _, beq_eq_false_iff_ne.mpr (Ne.symm (Nat.ne_of_lt hb)), [], .nil, _, #[], 0, Heap.get?_push_size _ rfl, ⟨rfl, rfl, rfl⟩, rfl, rfl, List.nodup_nil⟩
def tDNewK : TE := fun _ H Q => ∀ p, H p = none → Q (.ref p) (upd H p (.dK []))
def tDNewT : TE := fun _ H Q => ∀ p, H p = none → Q (.ref p) (upd H p (.dT []))
section
variable {X : Cx} {pos : Pos}
theorem pe_dnewK : PE X (.Dict [] [] pos) tDNewK := fun pins s σ H Q I h =>
  wpAny_Dict_empty ⟨.ref s.heap.objs.size, _, I.laid (a := s.heap.objs.size) (o := .dK []) (t' := s.toks) (fun _ _ q => Heap.get?_push_of_some _ q) (Nat.le_refl _) (dk_empty s.heap I.big), rfl, h _ (I.hok.fresh (Nat.le_refl _))⟩
theorem pe_dnewT : PE X (.Dict [] [] pos) tDNewT := fun pins s σ H Q I h =>
  wpAny_Dict_empty ⟨.ref s.heap.objs.size, _, I.laid (a := s.heap.objs.size) (o := .dT []) (t' := s.toks) (fun _ _ q => Heap.get?_push_of_some _ q) (Nat.le_refl _) (dt_empty s.heap I.big), rfl, h _ (I.hok.fresh (Nat.le_refl _))⟩
end




structure M1 (X : Cx) (o : Expr) (m : Str) (apos : Pos) (e : Expr) (cpos : Pos) : Prop where
  base : attributeBase o m X.env (eval o X.env) = eval o X.env
  few : ((backTo cpos (starEach [e] X.env)).all (fun x => !x.1) && (backToKw cpos (keywordEach [] X.env)).all (fun x => x.1.isSome)
    && decide (([e] : List Expr).length + ([] : List Keyword).length + (if ([] : List Keyword).isEmpty then 0 else 1) < 30)) = true
  line : (apos.endLine == cpos.line) = true
  trees : backTo cpos (starEach [e] X.env) = [(false, eval e X.env)]
structure M2 (X : Cx) (o : Expr) (m : Str) (apos : Pos) (e f : Expr) (cpos : Pos) : Prop where
  base : attributeBase o m X.env (eval o X.env) = eval o X.env
  few : ((backTo cpos (starEach [e, f] X.env)).all (fun x => !x.1) && (backToKw cpos (keywordEach [] X.env)).all (fun x => x.1.isSome)
    && decide (([e, f] : List Expr).length + ([] : List Keyword).length + (if ([] : List Keyword).isEmpty then 0 else 1) < 30)) = true
  line : (apos.endLine == cpos.line) = true
  trees : backTo cpos (starEach [e, f] X.env) = [(false, eval e X.env), (false, eval f X.env)]

def IsD (H : Hp) (a : Addr) : Prop := (∃ kvs, Rd H a (.dK kvs)) ∨ ∃ kvs, Rd H a (.dT kvs)
theorem isD_at {X : Cx} {pins : List (Addr × Obj)} {σ : St} {H : Hp} {s : Shared} {a : Addr} (I : Inv X pins σ H s) (d : IsD H a) :
    s.TypeIs (.ref a) "dict" ∧ (∀ b, Value.ref a = .ref b → ∃ ob, s.heap.get? b = some ob ∧ ob.dict = none) ∧ (a == sysModules) = false := by
  rcases d with ⟨kvs, e⟩ | ⟨kvs, e⟩
  · obtain ⟨_, hd, vs, _, dd⟩ := dk_rd I.hok e
    refine ⟨dd.typeIs, fun b q => ?_, hd⟩
    cases q
    obtain ⟨ob, _, _, h1, h2, _⟩ := dd
    exact ⟨ob, h1, h2.2.1⟩
  · obtain ⟨_, hd, xs, _, dd⟩ := dt_rd I.hok e
    refine ⟨dd.typeIs, fun b q => ?_, hd⟩
    cases q
    obtain ⟨ob, _, _, h1, h2, _⟩ := dd
    exact ⟨ob, h1, h2.2.1⟩

section
variable {X : Cx} {pins : List (Addr × Obj)} {σ : St} {H : Hp} {s : Shared} {a : Addr} {y d : V} {u r : Value} {o : Option V} {A : Around} {E : Value → Shared → Prop}
theorem d_get2 {Q : Value → Shared → Prop} (hu : A.units + 1 < cLine) (I : Inv X pins σ H s) (g : DGet H a y o) (ry : RelV y u) (rd : RelV d r) (h : ∀ w' s', Inv X pins σ H s' → RelV (o.getD d) w' → Q w' s') :
    wpAny (model X.prog X.w) A (call (.builtin "dict.get") [.ref a, u, r]) Q E s := by
  rcases g with ⟨kvs, k, e, ey, l⟩ | ⟨kvs, k, b, e, ey, eb, l⟩
  · subst ey
    obtain ⟨z, hd, vs, rel, dd⟩ := dk_rd I.hok e
    refine call_meetsIn PySem.F.slot_dict_get dd.typeIs PySem.F.entry_dict_get (PySem.F.args_dict_get_3 _ _ _) (meets_dict_get_default (mixKind X.prog X.w) a (kV_is ry) hd r) ⟨_, dd.mapOf, h _ _ (I.tok _) ?_⟩
    rw [l]
    exact (rel.val k).getD rd
  · subst ey
    cases (show u = Value.ref b from ry)
    obtain ⟨z, hd, xs, rel, dd⟩ := dt_rd I.hok e
    refine call_meetsIn PySem.F.slot_dict_get dd.typeIs PySem.F.entry_dict_get (PySem.F.args_dict_get_3 _ _ _) (meetsH_dict_get_default (tupleKind (mixKind X.prog X.w)) a b hd r) ⟨tupleKind_room_in1 hu, k, xs, key_of I.hok eb, dd, h _ _ (I.tok _) ?_⟩
    rw [l]
    exact (rel.val k).getD rd
end

def tDGet2 (td ty tx : TE) : TE := fun σ H Q => td σ H fun x H1 => ∃ a, x = .ref a ∧ IsD H1 a ∧ ty σ H1 fun y H2 => tx σ H2 fun z H3 => ∃ o, DGet H3 a y o ∧ Q (o.getD z) H3
section
variable {X : Cx} {o e f : Expr} {apos cpos : Pos} {td ty tx : TE}
theorem pe_dget2 (hu : X.A.units + 1 < cLine) (ho : PE X o td) (he : PE X e ty) (hf : PE X f tx) (m : M2 X o "get" apos e f cpos) : PE X (.Call (.Attribute o "get" apos) [e, f] [] cpos) (tDGet2 td ty tx) := by
  intro pins s σ H Q I h
  refine wpAny_Call_method m.base m.few m.line PySem.F.plainAttrs_dict PySem.F.slot_dict_get PySem.F.type_dict_get (thn (ho pins s σ H _ I h) fun u s1 ⟨x, H1, I1, rx, a, ex, d, q1⟩ => ?_)
  subst ex
  obtain rfl : u = Value.ref a := rx
  obtain ⟨t1, t2, _⟩ := isD_at I1 d
  refine ⟨t1, t2, ?_⟩
  rw [m.trees]
  refine Calls.callWith_builtin rfl (Calls.evalArgs_plain (Calls.spliced_cons (thn (he pins s1 σ H1 _ I1 q1) fun iv s2 ⟨y, H2, I2, ry, q2⟩ =>
    Calls.spliced_cons (thn (hf pins s2 σ H2 _ I2 q2) fun fv s3 ⟨z, H3, I3, rz, ov, g, q3⟩ => Calls.spliced_nil ?_))))
  exact d_get2 hu I3 g ry rz fun w' s4 I4 rw' => ⟨_, H3, I4, rw', q3⟩
end

section
variable {X : Cx} {pins : List (Addr × Obj)} {σ : St} {H : Hp} {s : Shared} {a : Addr} {kvs : List (Key × V)} {A : Around} {E : Value → Shared → Prop}
end


section
variable {X : Cx} {pins : List (Addr × Obj)} {σ : St} {H : Hp} {s : Shared} {a : Addr} {y : V} {u : Value} {A : Around} {E : Value → Shared → Prop}
end
end L2

set_option Elab.async false
set_option linter.all false
set_option maxRecDepth 100000
namespace DL
open PySem PyProof.Rows
def DRaw (h : Heap) (d : Addr) (es : Array DictEntry) (ep : Nat) : Prop := ∃ o, h.get? d = some o ∧ o.ExactDict ∧ o.data = .dict es ep
theorem DRaw.at' {h h' : Heap} {d : Addr} {es : Array DictEntry} {ep : Nat} (x : DRaw h d es ep) (k : ∀ o, h.get? d = some o → h'.get? d = some o) : DRaw h' d es ep := let ⟨o, e, r⟩ := x; ⟨o, k _ e, r⟩
section
variable {P : Program} {w : World} {A : Around} {E : Value → Shared → Prop} {s : Shared} {d : Addr} {es : Array DictEntry} {ep : Nat}
theorem items_call {Q : Value → Shared → Prop} (hd : (d == sysModules) = false) (hm : DRaw s.heap d es ep) (k : Q (.ref s.heap.objs.size) { s with heap := s.heap.push { cls := .type "dict_items", data := .fields #[.ref d] } }) :
    wpAny (model P w) A (Builtin.«dict.items» ⟨[.ref d], []⟩) (fun fin s' => ∃ v, fin = .done (.ret v) ∧ Q v s') E s := by
  have hTy : s.TypeIs (.ref d) "dict" := by obtain ⟨o, e, x, _⟩ := hm; exact ⟨o, e, x.1⟩
  unfold Builtin.«dict.items» Builtin.Dict.noArgs
  refine wpAny_bind (wpAny_bind (wpAny_notOrdered_dict hTy (show wpAny _ _ (pure d) _ _ s from wpAny_pure (show wpAny _ _ (Builtin.Dict.showsAll d >>= _) _ _ s from ?_))))
  unfold Builtin.Dict.showsAll
  rw [if_neg (by rw [hd]; decide)]
  exact wpAny_bind (wpAny_pure (wpAny_bind (wpAny_newObj_type (wpAny_pure ⟨_, rfl, k⟩))))
theorem items_iter {v : Addr} {Q : Value → Shared → Prop} (hv : s.heap.IsItemsView v d) (hm : DRaw s.heap d es ep)
    (k : Q (.ref s.heap.objs.size) { s with heap := s.heap.push { cls := .type "dict_itemiterator", data := .fields #[.none, .bool false, .ref d, .int 0 0, .int es.size 0, .int ep 0, .none, .none] } }) :
    wpAny (model P w) A (pyIter (.ref v)) Q E s := by
  have hTy := hv.typeIs
  obtain ⟨ov, g1, _, g2⟩ := hv
  obtain ⟨o, ho, _, hdat⟩ := hm
  refine wpAny_pyIter_slot hTy PySem.F.slot_dict_items_iter (wpAny_call_entry PySem.F.slot_dict_items_iter hTy PySem.F.entry_dict_items_iter ?_ (PySem.F.args_dict_items_iter_1 _))
  unfold Builtin.«dict_items.__iter__» Builtin.Dict_items.dictOf
  refine wpAny_bind (wpAny_pure (wpAny_bind (wpAny_bind (wpAny_field g1 g2 (x := .ref d) rfl (wpAny_pure (wpAny_bind ?_))))))
  refine wpAny_bind (m := dictEntries d) (wpAny_dictEntries ho hdat (wpAny_bind (wpAny_dictEpoch ho hdat ?_)))
  have ow : Builtin.Dict_items.ownsTuple "dict_itemiterator" = true := by decide
  simp only [ow, if_true]
  refine wpAny_newObj_type (wpAny_pure ⟨_, rfl, "dict_itemiterator", _, ⟨_, Heap.get?_push_size _ rfl, rfl⟩, PySem.F.slot_dict_itemiterator_next.lookup, ?_⟩) (by simp only [sizeOk, Builtin.Dict_items.ownedTupleFields, List.size_toArray, List.length_append, List.length_cons, List.length_nil, sizeLine_eq]; omega)
  simpa [rawInt, Builtin.Dict_items.ownedTupleFields] using k
theorem pair_owned {it : Addr} {n : Nat} {a b ok ov : Value} {h1 : Heap} {Q : Value → Shared → Prop} (lit : it < s.heap.objs.size) (s1 : Heap.SameBut it s.heap h1) (j1 : IsItemIter h1 it d n es.size ep ok ov)
    (k : ∀ h', IsItemIterOut h' it d n es.size ep a b s.heap.objs.size → IsPair h' s.heap.objs.size a b → (∀ c o, c ≠ it → s.heap.get? c = some o → h'.get? c = some o) → Q (.ref s.heap.objs.size) { s with heap := h' }) :
    wpAny (model P w) A (Builtin.Dict_items.pairFromOwner (.ref it) 6 a b) Q E { s with heap := h1 } := by
  refine wpAny_bind (m := newTuple [a, b]) (wpAny_newTuple ?_)
  have z1 : h1.objs.size = s.heap.objs.size := s1.1
  have j2 : IsItemIter (h1.push { cls := .type "tuple", data := .seq #[a, b] }) it d n es.size ep ok ov := Heap.get?_push_of_some _ j1
  have t2 : IsPair (h1.push { cls := .type "tuple", data := .seq #[a, b] }) s.heap.objs.size a b := by rw [← z1]; exact Heap.get?_push_size _ rfl
  have k2 : ∀ c o, c ≠ it → s.heap.get? c = some o → (h1.push { cls := .type "tuple", data := .seq #[a, b] }).get? c = some o := fun c o hc q => Heap.get?_push_of_some _ (s1.extBut c o hc q)
  rw [show (h1.push { cls := .type "tuple", data := .seq [a, b].toArray }) = h1.push { cls := .type "tuple", data := .seq #[a, b] } from rfl] at *
  generalize h1.push { cls := .type "tuple", data := .seq #[a, b] } = h2 at j2 t2 k2 ⊢
  dsimp only
  rw [z1]
  refine wpAny_bind (m := Builtin.Dict_items.ownedTupleIsFree (.ref it)) (wpAny_bind (m := field (.ref it) 0) (wpAny_field j2 rfl (x := .none) rfl (wpAny_pure ?_)))
  simp only [if_true]
  refine wpAny_bind (wpAny_field j2 rfl (x := ok) rfl (wpAny_bind (wpAny_field j2 rfl (x := ov) rfl (wpAny_bind (wpAny_setField_rec j2 (by simp) fun h3 j3 s3 => ?_)))))
  have j3 : IsItemIter h3 it d n es.size ep a ov := j3
  refine wpAny_bind (wpAny_setField_rec (s := { s with heap := h3 }) j3 (by simp) fun h4 j4 s4 => ?_)
  have j4 : IsItemIter h4 it d n es.size ep a b := j4
  refine wpAny_bind (wpAny_setField_rec (s := { s with heap := h4 }) j4 (by simp) fun h5 j5 s5 => ?_)
  have j5 : IsItemIterOut h5 it d n es.size ep a b s.heap.objs.size := j5
  refine wpAny_bind (wpAny_setField_rec (s := { s with heap := h5 }) j5 (by simp) fun h6 j6 s6 => ?_)
  have up : ∀ c o, c ≠ it → h2.get? c = some o → h6.get? c = some o := fun c o hc q => Heap.SameBut.extBut s6 c o hc (Heap.SameBut.extBut s5 c o hc (Heap.SameBut.extBut s4 c o hc (Heap.SameBut.extBut s3 c o hc q)))
  exact wpAny_bind (wpAny_letGo (wpAny_pure (k h6 j6 (up _ _ (Nat.ne_of_gt lit) t2) fun c o hc q => up c o hc (k2 c o hc q))))
theorem items_ask {it : Addr} {i : Nat} {ok ov : Value} {Q : Option Value → Shared → Prop} (hh : A.handled = none) (hit : IsItemIter s.heap it d i es.size ep ok ov) (hm : DRaw s.heap d es ep)
    (go : ∀ e h', es[i]? = some e → IsItemIterOut h' it d (i + 1) es.size ep e.key e.val s.heap.objs.size → IsPair h' s.heap.objs.size e.key e.val → (∀ b o, b ≠ it → s.heap.get? b = some o → h'.get? b = some o) → Q (some (.ref s.heap.objs.size)) { s with heap := h' })
    (no : ∀ h', es[i]? = none → Heap.ExtBut it s.heap h' → Q none { s with heap := h' }) : wpAny (model P w) A (pyNext (.ref it)) Q E s := by
  have ⟨od, hod, _, hdd⟩ := hm
  have ty : ∀ h, (∃ o, h.get? it = some o ∧ o.cls = .type "dict_itemiterator") → Shared.TypeIs { s with heap := h } (.ref it) "dict_itemiterator" := fun _ q => q
  have t0 := ty s.heap ⟨_, hit, rfl⟩
  have lit : it < s.heap.objs.size := Heap.lt_size hit
  have ow : Builtin.Dict_items.ownsTuple "dict_itemiterator" = true := by decide
  unfold pyNext
  refine wpAny_bind (wpAny_attempt (wpAny_callSpecial?_slot (name := Str.ofString "__next__") t0 PySem.F.slot_dict_itemiterator_next (wpAny_call_entry PySem.F.slot_dict_itemiterator_next t0 PySem.F.entry_dict_itemiterator_next ?_ (PySem.F.args_dict_itemiterator_next_1 _))))
  refine wpAny_bind (wpAny_pure (wpAny_bind (wpAny_bind (wpAny_bind (wpAny_typeNameOfWhole_itemiter t0 (wpAny_pure (wpAny_bind (wpAny_fieldsOf hit rfl ?_))))))))
  simp only [ow, if_true]
  have nn : ¬ (Value.ref d == Value.none) = true := by intro z; cases z
  refine (?_ : wpAny _ _ (ite ((Value.ref d == Value.none) = true) _ _) _ _ _)
  rw [if_neg nn]
  refine wpAny_bind (wpAny_pure (wpAny_bind (wpAny_dictEntries hod hdd ?_)))
  rw [if_neg (by simp)]
  refine wpAny_bind (wpAny_pure (wpAny_bind (wpAny_dictEpoch hod hdd ?_)))
  rw [if_neg (by simp)]
  refine wpAny_pure ?_
  cases hx : es[i]? with
  | none =>
    simp only [show ¬ ((i : Int) < 0) from by omega, if_false, Int.toNat_natCast, hx]
    refine wpAny_bind (wpAny_bind (wpAny_typeNameOfWhole_itemiter t0 (wpAny_pure (wpAny_bind (m := setField (.ref it) 2 .none) (wpAny_setField_rec hit (by simp) fun h1 j1 s1 => ?_)))))
    refine stop_raise (s := { s with heap := h1 }) hh fun h2 e oe k2 ge ce => ?_
    exact wpAny_bind (wpAny_isInstance (T := "StopIteration") (b := true) ⟨oe, ge, ce⟩ isSubtype_stop (wpAny_pure (no h2 hx fun b o hb q => k2 _ _ (s1.extBut b o hb q))))
  | some e =>
    simp only [show ¬ ((i : Int) < 0) from by omega, if_false, Int.toNat_natCast, hx]
    refine wpAny_bind (wpAny_bind (wpAny_typeNameOfWhole_itemiter t0 (wpAny_pure (wpAny_bind (wpAny_isOneOf_itemiter t0 (wpAny_bind (m := setField (.ref it) 3 (rawInt ((i : Int) + 1))) (wpAny_setField_rec hit (by simp) fun h1 j1 s1 => ?_)))))))
    have j1 : IsItemIter h1 it d (i + 1) es.size ep ok ov := by
      unfold IsItemIter
      rw [Int.natCast_succ]
      simpa [rawInt] using j1
    have t1 := ty h1 ⟨_, j1, rfl⟩
    refine wpAny_bind (wpAny_holding (wpAny_bind (wpAny_isOneOf_itemiter t1 (wpAny_bind (wpAny_isOneOf_itemiter t1 ?_)))))
    exact pair_owned lit s1 j1 fun h6 j6 t6 up => wpAny_pure ⟨_, rfl, wpAny_pure (go e h6 hx j6 t6 up)⟩
end
end DL

set_option Elab.async false
set_option linter.all false
set_option maxRecDepth 100000
namespace DL
open PySem PySem.Spec PyProof.Rows L2
theorem key_of {d : D} (h : isKey d = true) : ∃ k, d = kD k := by
  cases d with
  | int i => exact ⟨.inl i, rfl⟩
  | str x => exact ⟨.inr x, rfl⟩
  | _ => cases h
theorem keys_of : ∀ {ds : List D}, ds.all isKey = true → ∃ ks : List Key, ds = ks.map kD
  | [], _ => ⟨[], rfl⟩
  | d :: ds, h => by
    rw [List.all_cons, Bool.and_eq_true] at h
    obtain ⟨k, rfl⟩ := key_of h.1
    obtain ⟨ks, rfl⟩ := keys_of h.2
    exact ⟨k :: ks, rfl⟩
theorem keyT_of {d : D} (h : isKeyT d = true) : ∃ ks, d = kT ks := by
  cases d with
  | tup ds => obtain ⟨ks, rfl⟩ := keys_of h; exact ⟨ks, rfl⟩
  | _ => cases h
theorem den_key {K : PySem.W.Frag} {B : Hp} (k : Key) : Den K B (kD k) (kV k) := by
  cases k with
  | inl i => exact .int i
  | inr x => exact .str x
theorem dens_keys {K : PySem.W.Frag} {B : Hp} : ∀ (ks : List Key), Dens K B (ks.map kD) (ks.map kV)
  | [] => .nil
  | k :: ks => .cons (den_key k) (dens_keys ks)
theorem dens_keys_inv {K : PySem.W.Frag} {B : Hp} : ∀ {ks : List Key} {xs : List V}, Dens K B (ks.map kD) xs → xs = ks.map kV
  | [], _, h => h.unnil
  | k :: ks, _, h => by
    obtain ⟨x, r, rfl, h1, h2⟩ := h.uncons
    rw [dens_keys_inv h2]
    cases k with
    | inl i => rw [Den.int_inv h1]; rfl
    | inr z => rw [Den.str_inv h1]; rfl
section
variable {X : Cx} {pins : List (Addr × Obj)} {σ : L2.St} {H : Hp} {s : Shared}
theorem Inv.still {a : Addr} {u : HO} (I : L2.Inv X pins σ H s) (hu : (∃ kvs, u = .dK kvs) ∨ ∃ kvs, u = .dT kvs) (e : H a = some u) : ∃ o, L2.Inv X pins σ (upd H a (.frz o u)) s := by
  obtain ⟨o, ho⟩ : ∃ o, s.heap.get? a = some o := by
    have := (I.hok a u e)
    rcases hu with ⟨kvs, rfl⟩ | ⟨kvs, rfl⟩
    · obtain ⟨_, _, _, _, o, _, _, q, _⟩ := this; exact ⟨o, q⟩
    · obtain ⟨_, _, _, _, o, _, _, q, _⟩ := this; exact ⟨o, q⟩
  have mu : Mut (H a) := by rw [e]; rcases hu with ⟨kvs, rfl⟩ | ⟨kvs, rfl⟩ <;> exact True.intro
  have ne : ∀ {b : Addr} {v : HO}, H b = some v → (∀ z, v ≠ .dK z) → (∀ z, v ≠ .dT z) → b ≠ a := fun {b v} q n1 n2 z => by
    subst z
    rw [e] at q
    cases q
    rcases hu with ⟨kvs, rfl⟩ | ⟨kvs, rfl⟩
    · exact n1 _ rfl
    · exact n2 _ rfl
  have st : ObjOk X.prog X.w (upd H a (.frz o u)) s.heap a u := (I.hok a u e).stay (fun _ _ _ q => q) (fun b q => by rw [upd_ne (ne q (fun _ z => nomatch z) (fun _ z => nomatch z))]; exact q) fun b xs q => by rw [upd_ne (ne q (fun _ z => nomatch z) (fun _ z => nomatch z))]; exact q
  have := I.write (o := .frz o u) (t' := s.toks) (h' := s.heap) mu (.inl rfl) (fun _ _ _ q => q) ⟨o, ho⟩ ⟨ho, st⟩
  exact ⟨o, this⟩
end
section
variable {X : Cx} {e k a b o : Expr} {me mk ma mb mo : ME} {m : MS} {PX : Prop} {pos p2 p3 pos' : Pos} {elts : List Expr} {kt : Nat}
theorem df_dnewT : DF X (.Dict [] [] pos) (eC (.dic true [] [])) := by
  refine ⟨_, pe_dnewT, fun os σ H δ d Q s m k p hp => ?_⟩
  cases m
  exact k p _ (same_new hp _) hp ⟨[], .inr ⟨rfl, [], upd_same, rfl, rfl⟩, .nil⟩
theorem dss_frzD {n i : Nat} {sts : List Stmt} (hn : X.N.length = n) (hi : i < n) (hfn : X.fn "" = true) (h : DSs X PX sts m) : DSs X PX sts (sFrzD n i m) := by
  obtain ⟨t, p, q⟩ := h
  refine ⟨fun D σ H => ∃ a u, ((∃ kvs, u = .dK kvs) ∨ ∃ kvs, u = .dT kvs) ∧ H a = some u ∧ ∀ o, t D σ (upd H a (.frz o u)), fun pins s σ H D I hh => ?_, fun os σ H δ r D s me k => ?_⟩
  · obtain ⟨a, u, hu, e, hh⟩ := hh
    obtain ⟨o, I'⟩ := Inv.still I hu e
    exact p pins s σ _ D I' (hh o)
  · unfold sFrzD at me
    split at me
    · rename_i tt ks vs ho
      obtain ⟨h1, h2, a, e1, e2, e3, xs, hd, hv⟩ := s.own_at hn hi ho
      obtain ⟨u, hu, ea, hF⟩ : ∃ u, ((∃ kvs, u = HO.dK kvs) ∨ ∃ kvs, u = HO.dT kvs) ∧ H a = some u ∧ ∀ (o : Obj) (B : Hp), B a = some (.frz o u) → DcF B a tt ks xs := by
        rcases hd with ⟨rfl, kvs, z, r⟩ | ⟨rfl, kvs, z, r⟩
        · exact ⟨_, .inl ⟨kvs, rfl⟩, z, fun o B hB => .inl ⟨rfl, o, kvs, hB, r⟩⟩
        · exact ⟨_, .inr ⟨kvs, rfl⟩, z, fun o B hB => .inr ⟨rfl, o, kvs, hB, r⟩⟩
      refine ⟨a, u, hu, ea, fun o => ?_⟩
      subst hn
      generalize hH : upd H a (.frz o u) = H1
      have H1a : H1 a = some (.frz o u) := by rw [← hH]; exact upd_same
      have H1n : ∀ {b : Addr}, b ≠ a → H1 b = H b := fun {b} z => by rw [← hH]; exact upd_ne z
      have mem : ∀ b, b ∈ os.filter (fun c => decide (c ≠ a)) ↔ b ∈ os ∧ b ≠ a := fun b => by simp
      have na : a ∉ os.filter (fun c => decide (c ≠ a)) := fun z => ((mem a).mp z).2 rfl
      have big : Same (hide os H) (hide (os.filter (fun c => decide (c ≠ a))) H1) := fun b v z => by
        have hb : b ∉ os := fun y => by rw [hide_on y] at z; cases z
        rw [hide_off hb] at z
        rw [hide_off (fun y => hb ((mem b).mp y).1), H1n (fun y => hb (by rw [y]; exact e2))]
        exact z
      have hid : i < δ.length := Nat.lt_of_lt_of_le hi s.len
      have hid2 : X.N.length + i < δ.length := (List.getElem?_eq_some_iff.mp h2).1
      have off : ∀ {j : Nat}, j ≠ i → j ≠ X.N.length + i → ((δ.set i (some (.dic tt ks vs))).set (X.N.length + i) none)[j]? = δ[j]? := fun {j} q1 q2 => by
        rw [List.getElem?_set_ne (Ne.symm q2), List.getElem?_set_ne (Ne.symm q1)]
      have at_i : ((δ.set i (some (DL.D.dic tt ks vs))).set (X.N.length + i) none)[i]? = some (some (.dic tt ks vs)) := by
        rw [List.getElem?_set_ne (by omega), List.getElem?_set_self hid]
      have sl : Sl X (os.filter (fun c => decide (c ≠ a))) H1 ((δ.set i (some (.dic tt ks vs))).set (X.N.length + i) none) σ := by
        refine ⟨s.n, by simpa using s.len, fun j d hj q => ?_, fun j d hj q1 q2 => ?_, fun j l d f b hj hl q1 q2 q3 q4 q5 q6 => ?_, fun b hb => ?_, fun b v z => ?_⟩
        · by_cases hji : j = i
          · subst hji
            rw [at_i] at q
            cases q
            exact ⟨_, e1, .dic (hF o _ ((hide_off na).trans H1a)) (hv.mono big _ _)⟩
          · rw [off hji (by omega)] at q
            obtain ⟨v, r1, r2⟩ := s.pl j d hj q
            exact ⟨v, r1, r2.mono big _ _⟩
        · by_cases hji : j = i
          · subst hji; rw [at_i] at q1; cases q1
          · rw [off hji (by omega)] at q1
            rw [off (by omega) (by omega)] at q2
            obtain ⟨b, r1, r2, r3, r4⟩ := s.ow j d hj q1 q2
            have hba : b ≠ a := fun z => by
              subst z
              exact hji (s.inj j i d _ b hj hi q1 h1 q2 h2 r1 e1)
            refine ⟨b, r1, (mem b).mpr ⟨r2, hba⟩, r3, ?_⟩
            cases d with
            | lst ds => obtain ⟨xs, w1, w2⟩ := r4; exact ⟨xs, (H1n hba).trans w1, w2.mono big _ _⟩
            | dic t' ks vs =>
              obtain ⟨xs, w1, w2⟩ := r4
              refine ⟨xs, ?_, w2.mono big _ _⟩
              rcases w1 with ⟨z, kvs, w1, r⟩ | ⟨z, kvs, w1, r⟩
              · exact .inl ⟨z, kvs, (H1n hba).trans w1, r⟩
              · exact .inr ⟨z, kvs, (H1n hba).trans w1, r⟩
            | _ => exact r4
        · by_cases hji : j = i
          · subst hji; rw [at_i] at q1; cases q1
          · by_cases hki : l = i
            · subst hki; rw [at_i] at q2; cases q2
            · rw [off hji (by omega)] at q1
              rw [off hki (by omega)] at q2
              rw [off (by omega) (by omega)] at q3 q4
              exact s.inj j l d f b hj hl q1 q2 q3 q4 q5 q6
        · obtain ⟨y1, y2⟩ := (mem b).mp hb
          obtain ⟨v, z1, z2⟩ := s.live b y1
          exact ⟨v, (H1n y2).trans z1, z2⟩
        · have hb : b ≠ a := fun y => by
            have := e3 hfn
            rw [y, this] at z
            cases z
          exact (H1n hb).trans (s.keep b v z)
      refine q _ σ H1 _ r D sl me (k.mono ⟨big, fun b hb hn => ?_⟩)
      refine (mem b).mpr ⟨hb, fun y => hn (by rw [y]; exact e3 hfn)⟩
    · cases me
theorem valV_fresh {kvs : List (List Key × V)} {kk : List Key} (h : ((kvs.map fun p => kT p.1).all fun q => !eqD q (kT kk)) = true) : valV kvs kk = none := by
  cases hv : valV kvs kk with
  | none => rfl
  | some v =>
    exfalso
    unfold valV at hv
    obtain ⟨p, hp, _⟩ := Option.map_eq_some_iff.mp hv
    have hm := List.mem_of_find?_eq_some hp
    have hk := List.find?_some hp
    simp only [decide_eq_true_eq] at hk
    have := List.all_eq_true.mp h (kT p.1) (List.mem_map.mpr ⟨p, hm, rfl⟩)
    rw [hk, eqD_refl] at this
    cases this
theorem ds_putT {n i : Nat} (hu : X.A.units + 1 < cLine) (hn : X.N.length = n) (hi : i < n) (hfn : X.fn "" = true) (hv : PE X o (tVar i)) (hk : DE X k mk) (he : DE X e me)
    (hs : swapsWith e (some (.Subscript o k pos')) pos.line X.env = pure false := by rfl) : DS X PX (.Assign [.Subscript o k pos'] e pos) (sPutT n i mk me) := by
  obtain ⟨te, pe, qe⟩ := he
  obtain ⟨tk, pk, qk⟩ := hk
  refine ⟨_, ps_dput hu hv pk pe hs, fun os σ H δ r D s m kq => ?_⟩
  obtain ⟨y, e1, m⟩ := bind_inv m
  obtain ⟨z, e2, m⟩ := bind_inv m
  split at m
  · rename_i ks vs ho
    split at m
    · rename_i hc
      cases m
      obtain ⟨kk, rfl⟩ := keyT_of hc.1
      refine qe os σ H δ y _ s e1 fun v H1 g1 r1 => ?_
      obtain ⟨w1, w2, a, w3, w4, w5, xs, w6, w7⟩ := s.own_at hn hi ho
      refine ⟨_, w3, qk os σ H1 δ _ _ (s.mono g1) e2 fun u H2 g2 r2 => ?_⟩
      have g12 := g1.trans g2
      rcases w6 with ⟨z, _⟩ | ⟨_, kvs, w6, rfl, rfl⟩
      · cases z
      obtain ⟨b, bs, rfl, hb, hbs⟩ := r2.tup_inv
      have := dens_keys_inv hbs
      subst this
      have hlen : kvs.length < sizeLine := by rw [lim_eq]; have := hc.2.2; simpa using this
      have hnew := valV_fresh hc.2.1
      refine ⟨a, _, rfl, DPut.t (k := kk) (g12 _ _ w6) (hide_le _ _ hb) hlen, ?_⟩
      rw [putK_new v hnew]
      obtain ⟨s2, f2⟩ := (s.mono g12).chg (d' := .dic true (kvs.map (fun p => kT p.1) ++ [kT kk]) (vs ++ [y])) (o := .dT (kvs ++ [(kk, v)])) hn hi hfn ho w3
        ⟨_, .inr ⟨rfl, _, upd_same, by simp, rfl⟩, by rw [List.map_append]; exact (w7.mono g12.hd _ _).append (.cons (r1.mono g2.hd _ _) .nil)⟩
      exact kq σ _ os ((Fr.of g12).trans f2) s2
    · cases m
  · cases m
def Itd (a : Addr) (o : Obj) (kvs : List (List Key × V)) : It :=
  ⟨fun i H => H a = some (.frz o (.dT kvs)) ∧ i < kvs.length,
   fun i H v H' => ∃ p b t, kvs[i]? = some p ∧ H b = some (.tup (p.1.map kV)) ∧ H t = none ∧ v = .ref t ∧ H' = upd H t (.tup [.ref b, p.2]),
   fun i H => H a = some (.frz o (.dT kvs)) ∧ i = kvs.length⟩
theorem paired_at {α β : Type} {F : α → β → Prop} : ∀ {l : List α} {r : List β} {i : Nat} {x : α}, Paired F l r → l[i]? = some x → ∃ y, r[i]? = some y ∧ F x y
  | _, _, _, _, .nil, e => by simp at e
  | _, _, 0, _, .cons r _, e => by simp at e; subst e; exact ⟨_, rfl, r⟩
  | _, _, i + 1, x, .cons _ t, e => by
    obtain ⟨y, h1, h2⟩ := paired_at (i := i) (x := x) t (by simpa using e)
    exact ⟨y, by simpa using h1, h2⟩
theorem dt_raw {P : Program} {w : World} {H : Hp} {h : Heap} {a : Addr} {o : Obj} {kvs : List (List Key × V)} (x : ObjOk P w H h a (.frz o (.dT kvs))) :
    (a == sysModules) = false ∧ ∃ es ep, DRaw h a es ep ∧ o.data = .dict es ep ∧ es.size = kvs.length ∧ ∀ (i : Nat) (p : List Key × V), kvs[i]? = some p → ∃ b u e, es[i]? = some e ∧ e.key = .ref b ∧ e.val = u ∧ H b = some (.tup (p.1.map kV)) ∧ RelV p.2 u := by
  obtain ⟨g, hz, hd, xs, rel, o', es, ep, h1, h2, h3, h4, h5⟩ := x
  rw [g] at h1
  cases h1
  refine ⟨hd, es, ep, ⟨o, g, h2, h3⟩, h3, ?_, fun i p hp => ?_⟩
  · rw [← Array.length_toList, h4, List.length_map]
    exact (Paired.length rel).symm
  · obtain ⟨q, e1, e2, e3, e4⟩ := paired_at rel hp
    refine ⟨q.2.1, q.2.2, entryOfKey (tupleKind (mixKind P w)) q, ?_, rfl, rfl, e3, e4⟩
    rw [← Array.getElem?_toList, h4, List.getElem?_map, e1]
    rfl
theorem turn_items {P : Program} {w : World} {K : PySem.W.Frag} (a it : Addr) (o : Obj) (kvs : List (List Key × V)) (es : Array DictEntry) (ep : Nat) (hes : o.data = .dict es ep) (hsz : es.size = kvs.length) :
    Turn P w K (.Tuple elts kt pos) (Itd a o kvs) [it] it (fun i h => ∃ ok ov, IsItemIter h it a i es.size ep ok ov) where
  mem := by simp
  obj := fun i h st b hb => by
    obtain ⟨ok, ov, g⟩ := st
    rw [List.mem_singleton.mp hb]
    exact ⟨_, g, fun v z => by cases z⟩
  keep := fun i h h' st k => by
    obtain ⟨ok, ov, g⟩ := st
    exact ⟨ok, ov, k it (by simp) _ g⟩
  item := by
    intro X hP hw hK hc i pins s σ H E I hf st hg
    subst hP hw hK
    obtain ⟨ok, ov, g⟩ := st
    obtain ⟨hH, hi⟩ := hg
    obtain ⟨_, es', ep', hraw, hes', _, hat⟩ := dt_raw (I.hok a _ hH)
    rw [hes] at hes'
    cases hes'
    have lit : it < s.heap.objs.size := Heap.lt_size g
    obtain ⟨b, u, en, e1, e2, e3, e4, e5⟩ := hat i kvs[i] (List.getElem?_eq_getElem hi)
    refine items_ask (I.ok.hd hc) g hraw (fun en' h1 z j1 t1 k1 => ?_) fun _ z _ => absurd (z.symm.trans e1) (by simp)
    cases e1.symm.trans z
    refine ⟨_, rfl, ?_⟩
    refine wpAny_letOwnedTupleGo_items j1 fun h2 j2 s2 => ?_
    replace s2 : Heap.SameBut it h1 h2 := s2
    have ne : s.heap.objs.size ≠ it := Nat.ne_of_gt lit
    refine ⟨.ref s.heap.objs.size, upd H s.heap.objs.size (.tup [.ref b, kvs[i].2]), ?_, rfl, ⟨kvs[i], b, s.heap.objs.size, List.getElem?_eq_getElem hi, e4, I.fresh, rfl, rfl⟩, ⟨_, _, j2⟩, fun c hc' => ?_⟩
    · refine pair_inv (s := s) (fp := [it]) (tk' := s.toks) I hf (fun c hc' => by rw [List.mem_singleton.mp hc']; exact lit) rfl (u := en.key) (w := en.val) (by rw [e2]; rfl) (by rw [e3]; exact e5) (fun c ob hc' q => ?_) (s2.extBut _ _ ne t1)
      have n1 : c ≠ it := fun z => hc' (by simp [z])
      exact s2.extBut c ob n1 (k1 c ob n1 q)
    · rw [List.mem_singleton.mp hc', upd_ne (Nat.ne_of_lt lit)]
      exact (hf it (by simp)).1
  done := by
    intro X hP hw hK hc i pins s σ H E I hf st hg
    subst hP hw hK
    obtain ⟨ok, ov, g⟩ := st
    obtain ⟨hH, hi⟩ := hg
    obtain ⟨_, es', ep', hraw, hes', _, _⟩ := dt_raw (I.hok a _ hH)
    rw [hes] at hes'
    cases hes'
    exact items_ask (I.ok.hd hc) g hraw (fun e h' z => absurd (Array.getElem?_eq_some_iff.mp z).1 (by omega)) fun h' _ ext => ⟨rfl, turnedL (fp := [it]) (t' := s.toks) I hf fun b ob hb q => ext b ob (fun z => hb (by simp [z])) q⟩
  self := fun A i s Q E st h => by
    obtain ⟨ok, ov, g⟩ := st
    exact PySem.W.kcp_self g h
theorem walk_items {K : PySem.W.Frag} {B : Hp} {a : Addr} {o : Obj} {kvs : List (List Key × V)} {vs : List D} (h : B a = some (.frz o (.dT kvs))) (d : Dens K B vs (kvs.map (·.2))) : Walk K (Itd a o kvs) B (zipD (kvs.map fun p => kT p.1) vs) := by
  intro i os1 H1 L g
  have hv := d.length
  rw [List.length_map] at hv
  have hz : (zipD (kvs.map fun p => kT p.1) vs).length = kvs.length := by simp [zipD, hv]
  have ha := hide_le _ _ (g _ _ h)
  refine ⟨fun e he => ?_, fun hl => ⟨ha, by rw [hl, hz]⟩⟩
  have hi : i < kvs.length := by have := (List.getElem?_eq_some_iff.mp he).1; omega
  refine ⟨⟨ha, hi⟩, fun v H2 z => ?_⟩
  obtain ⟨p, b, t, hp, hb, ht, rfl, rfl⟩ := z
  obtain ⟨x, y, e1, e2, rfl⟩ := zip_getD _ _ i e he
  rw [List.getElem?_map, hp] at e1
  cases e1
  obtain ⟨w, w1, w2⟩ := d.get e2
  rw [List.getElem?_map, hp] at w1
  cases w1
  exact ⟨same_new ht _, .newT L ht (.cons (.tup (hide_tup L hb) (dens_keys p.1)) (.cons (w2.mono g _ _) .nil))⟩
def iItemsT (te : TE) : TI := fun σ H R => te σ H fun x H1 => ∃ a o kvs, x = .ref a ∧ H1 a = some (.frz o (.dT kvs)) ∧ R (Itd a o kvs) H1
theorem pi_items {te : TE} {apos : Pos} (he : PE X e te) (hbase : attributeBase e "items" X.env (eval e X.env) = eval e X.env := by rfl) (hline : (apos.endLine == pos.line) = true := by rfl) :
    PI X (.Tuple elts kt pos') (.Call (.Attribute e "items" apos) [] [] pos) (iItemsT te) := by
  intro pins s σ H R I h
  refine wpAny_Call_method0_late hbase hline (thn (he pins s σ H _ I h) fun v s1 ⟨x, H1, I1, r1, q1⟩ => ?_)
  obtain ⟨a, o, kvs, rfl, hH, q⟩ := q1
  cases r1
  obtain ⟨hns, es, ep, hraw, hes, hsz, _⟩ := dt_raw (I1.hok a _ hH)
  have hTy : s1.TypeIs (.ref a) "dict" := by obtain ⟨o, e, x, _⟩ := hraw; exact ⟨o, e, x.1⟩
  refine ⟨"dict", "dict.items", PySem.F.plainAttrs_dict, PySem.F.slot_dict_items, PySem.F.type_dict_items, hTy, fun b z => ?_, ?_⟩
  · cases z
    obtain ⟨o, e, x, _⟩ := hraw
    exact ⟨o, e, x.2.1⟩
  refine Calls.callWith_builtin rfl (PySem.evalArgs_none ?_)
  refine wpAny_call_entry PySem.F.slot_dict_items hTy PySem.F.entry_dict_items (items_call hns hraw ?_) (PySem.F.args_dict_items_1 _)
  refine items_iter (s := { s1 with heap := s1.heap.push { cls := .type "dict_items", data := .fields #[.ref a] } }) (d := a) (es := es) (ep := ep) ⟨_, Heap.get?_push_size _ rfl, rfl, rfl⟩ (hraw.at' fun o z => Heap.get?_push_of_some _ z) ?_
  have sz := Heap.size_push s1.heap { cls := .type "dict_items", data := .fields #[.ref a] }
  refine ⟨_, [_], _, _, H1, rfl, I1.kept (t' := s1.toks) fun b u z => Heap.get?_push_of_some _ (Heap.get?_push_of_some _ z), turn_items a _ o kvs es ep hes hsz, ⟨_, _, Heap.get?_push_size _ rfl⟩, fun b hb => ?_, q⟩
  rw [List.mem_singleton.mp hb]
  have hb' : s1.heap.objs.size ≤ (s1.heap.push { cls := .type "dict_items", data := .fields #[.ref a] }).objs.size := by rw [sz]; exact Nat.le_succ _
  exact I1.fpOk hb' (I1.hok.fresh hb')
theorem di_items {apos : Pos} (he : DE X e me) (hbase : attributeBase e "items" X.env (eval e X.env) = eval e X.env := by rfl) (hline : (apos.endLine == pos.line) = true := by rfl) :
    DI X (.Tuple elts kt pos') (.Call (.Attribute e "items" apos) [] [] pos) (iItems me) := by
  obtain ⟨te, pe, qe⟩ := he
  refine ⟨_, pi_items pe hbase hline, fun os σ H δ xs R s m k => ?_⟩
  obtain ⟨d, e1, m⟩ := bind_inv m
  refine qe os σ H δ d _ s e1 fun v H1 g1 r1 => ?_
  split at m
  · rename_i ks vs
    cases m
    obtain ⟨a, ys, rfl, hF, hv⟩ := r1.dic_inv
    rcases hF with ⟨z, _⟩ | ⟨_, o, kvs, h1, rfl, rfl⟩
    · cases z
    exact ⟨a, o, kvs, rfl, hide_le _ _ h1, k _ H1 g1 (walk_items h1 hv)⟩
  · cases m
theorem look_val {K : PySem.W.Frag} {B : Hp} (i : Int) : ∀ {kvs : List (Key × V)} {vs : List D}, Dens K B vs (kvs.map (·.2)) → (lookD (kvs.map fun p => kD p.1) vs i = none ∧ valV kvs (.inl i) = none) ∨ ∃ d v, lookD (kvs.map fun p => kD p.1) vs i = some d ∧ valV kvs (.inl i) = some v ∧ Den K B d v
  | [], vs, h => by
    rw [List.map_nil]
    exact .inl ⟨by cases vs <;> rfl, rfl⟩
  | p :: kvs, [], h => by
    have := h.length
    simp at this
  | (k, x) :: kvs, d :: vs, h => by
    obtain ⟨y, r, e, h1, h2⟩ := h.uncons
    rw [List.map_cons] at e
    cases e
    rw [List.map_cons]
    cases k with
    | inl j =>
      show ((if j = i then some d else lookD (kvs.map fun p => kD p.1) vs i) = none ∧ _) ∨ ∃ d' v, (if j = i then some d else lookD (kvs.map fun p => kD p.1) vs i) = some d' ∧ _
      by_cases hj : j = i
      · subst hj
        rw [if_pos rfl, valV_pos rfl]
        exact .inr ⟨d, x, rfl, rfl, h1⟩
      · rw [if_neg hj, valV_neg (by simpa using hj)]
        exact look_val i h2
    | inr z =>
      show (lookD (kvs.map fun p => kD p.1) vs i = none ∧ _) ∨ ∃ d' v, lookD (kvs.map fun p => kD p.1) vs i = some d' ∧ _
      rw [valV_neg (by simp)]
      exact look_val i h2
theorem de_get2 {apos : Pos} (hu : X.A.units + 1 < cLine) (ho : DE X o mo) (hk : DE X k mk) (he : DE X e me) (h1 : attributeBase o "get" X.env (eval o X.env) = eval o X.env := by rfl)
    (h2 : ((backTo pos (starEach [k, e] X.env)).all (fun x => !x.1) && (backToKw pos (keywordEach [] X.env)).all (fun x => x.1.isSome) && decide (([k, e] : List Expr).length + ([] : List Keyword).length + (if ([] : List Keyword).isEmpty then 0 else 1) < 30)) = true := by rfl)
    (h3 : (apos.endLine == pos.line) = true := by rfl) (h4 : backTo pos (starEach [k, e] X.env) = [(false, eval k X.env), (false, eval e X.env)] := by rfl) :
    DE X (.Call (.Attribute o "get" apos) [k, e] [] pos) (eGet2 mo mk me) := by
  obtain ⟨to, po, qo⟩ := ho
  obtain ⟨tk, pk, qk⟩ := hk
  obtain ⟨te, pe, qe⟩ := he
  refine ⟨_, pe_dget2 hu po pk pe ⟨h1, h2, h3, h4⟩, fun os σ H δ d Q s m kq => ?_⟩
  obtain ⟨dd, e1, m⟩ := bind_inv m
  obtain ⟨z, e2, m⟩ := bind_inv m
  obtain ⟨y, e3, m⟩ := bind_inv m
  match dd, z, e1, e2, m with
  | .dic false ks vs, .int i, e1, e2, m =>
    cases m
    refine qo os σ H δ _ _ s e1 fun v H1 g1 r1 => ?_
    obtain ⟨a, ys, rfl, hF, hv⟩ := r1.dic_inv
    rcases hF with ⟨_, ob, kvs, f1, rfl, rfl⟩ | ⟨z, _⟩
    · refine ⟨a, rfl, .inl ⟨kvs, .inr ⟨ob, hide_le _ _ f1⟩⟩, ?_⟩
      refine qk os σ H1 δ _ _ (s.mono g1) e2 fun u H2 g2 r2 => ?_
      refine qe os σ H2 δ _ _ ((s.mono g1).mono g2) e3 fun w H3 g3 r3 => ?_
      have g23 := g2.trans g3
      rw [r2.int_inv]
      refine ⟨valV kvs (.inl i), .inl ⟨kvs, .inl i, .inr ⟨ob, g23 _ _ (hide_le _ _ f1)⟩, rfl, rfl⟩, ?_⟩
      have gt := g1.trans g23
      rcases look_val i hv with ⟨c1, c2⟩ | ⟨d, v, c1, c2, c3⟩
      · rw [c1] at kq
        rw [c2]
        exact kq _ H3 gt r3
      · rw [c1] at kq
        rw [c2]
        exact kq _ H3 gt (c3.mono g23.hd _ _)
    · cases z
end
end DL

set_option Elab.async false
set_option linter.all false
namespace DL
open PySem
abbrev Tab := List (Int × List Int)
def addRow (r : List Int) (ts : List Int) (b : Int) : List Int := ts.foldl (fun r t => r.set t.toNat (r.getD t.toNat 0 + b)) r
def addT : Tab → Int → List Int → Int → Tab
  | [], far, ts, b => [(far, addRow (List.replicate 24 0) ts b)]
  | (k, r) :: T, far, ts, b => if k = far then (k, addRow r ts b) :: T else (k, r) :: addT T far ts b
def turnsI : D → Option (List Int)
  | .lst ds => (intsOf ds).bind fun is => if (is.all fun t => decide (0 ≤ t) && decide (t < 24)) = true then some is else none
  | _ => none
def spanI : D → Option (Int × Int)
  | .tup [.int a, .int b] => some (a, b)
  | _ => none
def chgs (sp tu : MF) : List D → Tab → Option Tab
  | [], T => some T
  | p :: ps, T => (sp [p]).bind fun s => (spanI s).bind fun q => (tu [p]).bind fun t => (turnsI t).bind fun ts =>
    if T.length + 2 ≤ 1000000 then chgs sp tu ps (addT (addT T q.1 ts 1) q.2 ts (-1)) else none
def dicOf (T : Tab) : D := .dic false (T.map fun p => .int p.1) (T.map fun p => .lst (p.2.map D.int))
def mChanges (sp tu : MF) : MF := fun ds => match ds with
  | [.tup ps] => (chgs sp tu ps []).bind fun T => some (dicOf T)
  | _ => none
theorem addRow_len (b : Int) : ∀ (ts r : List Int), (addRow r ts b).length = r.length
  | [], _ => rfl
  | t :: ts, r => by
    show (addRow (r.set t.toNat _) ts b).length = _
    rw [addRow_len b ts]
    simp
theorem addT_len : ∀ (T : Tab) (far : Int) (ts : List Int) (b : Int), (addT T far ts b).length ≤ T.length + 1
  | [], _, _, _ => by simp [addT]
  | (k, r) :: T, far, ts, b => by
    unfold addT
    split
    · simp
    · have := addT_len T far ts b
      simp only [List.length_cons]
      omega
end DL

set_option Elab.async false
set_option linter.all false
set_option maxRecDepth 100000
namespace DL
open PySem PySem.Spec PyProof.Rows L2
section
variable {X : Cx} {pins : List (Addr × Obj)} {σ : L2.St} {H : Hp} {s : Shared} {A : Around} {E : Value → Shared → Prop} {a : Addr} {kvs : List (Key × V)} {k : Key} {z : V} {u r : Value}
theorem d_setd {Q : Value → Shared → Prop} (I : L2.Inv X pins σ H s) (e : H a = some (.dK kvs)) (hl : kvs.length < sizeLine) (ry : RelV (kV k) u) (rz : RelV z r)
    (h1 : ∀ v w s', valV kvs k = some v → L2.Inv X pins σ H s' → RelV v w → Q w s') (h2 : ∀ s', valV kvs k = none → L2.Inv X pins σ (upd H a (.dK (kvs ++ [(k, z)]))) s' → Q r s') :
    wpAny (model X.prog X.w) A (call (.builtin "dict.setdefault") [.ref a, u, r]) Q E s := by
  obtain ⟨hz, hd, vs, rel, dd⟩ := dk_of I.hok e
  have hz' : vs.length ≤ sizeLine := by rw [← rel.length]; exact hz
  refine call_meetsIn PySem.F.slot_dict_setdefault dd.typeIs PySem.F.entry_dict_setdefault (PySem.F.args_dict_setdefault_3 _ _ _) (kt_meets_setdefault (mixKind X.prog X.w) a (kV_is ry) hd r) ⟨vs, dd, hz', fun v hv => ?_, fun hn h' dd' hs => ?_⟩
  · have rv := rel.val k
    rw [hv] at rv
    cases hk : valV kvs k with
    | none => rw [hk] at rv; exact rv.elim
    | some y => rw [hk] at rv; exact h1 y v _ hk (I.tok _) rv
  · have rv := rel.val k
    rw [hn] at rv
    have hk : valV kvs k = none := by
      cases hk : valV kvs k with
      | none => rfl
      | some y => rw [hk] at rv; exact rv.elim
    refine h2 _ hk ?_
    rw [← putK_new z hk]
    have he : ∃ q, h'.get? a = some q := let ⟨q, _, _, hq, _⟩ := dd'; ⟨q, hq⟩
    have hl' : (putK kvs k z).length ≤ sizeLine := by have := length_putK kvs k z; omega
    exact d_write I (by rw [e]; exact True.intro) hs he (dk_new hl' hd (rel.put k rz) dd')
end
def tSetd (td ty tx : TE) : TE := fun σ H Q => td σ H fun x H1 => ∃ a, x = .ref a ∧ IsD H1 a ∧ ty σ H1 fun y H2 => tx σ H2 fun z H3 => ∃ kvs k, H3 a = some (.dK kvs) ∧ kvs.length < sizeLine ∧ y = kV k ∧
  (∀ v, valV kvs k = some v → Q v H3) ∧ (valV kvs k = none → Q z (upd H3 a (.dK (kvs ++ [(k, z)]))))
theorem pe_setd {X : Cx} {o e f : Expr} {td ty tx : TE} {apos cpos : Pos} (ho : PE X o td) (he : PE X e ty) (hf : PE X f tx) (h1 : attributeBase o "setdefault" X.env (eval o X.env) = eval o X.env := by rfl)
    (h2 : ((backTo cpos (starEach [e, f] X.env)).all (fun x => !x.1) && (backToKw cpos (keywordEach [] X.env)).all (fun x => x.1.isSome) && decide (([e, f] : List Expr).length + ([] : List Keyword).length + (if ([] : List Keyword).isEmpty then 0 else 1) < 30)) = true := by rfl)
    (h3 : (apos.endLine == cpos.line) = true := by rfl) (h4 : backTo cpos (starEach [e, f] X.env) = [(false, eval e X.env), (false, eval f X.env)] := by rfl) :
    PE X (.Call (.Attribute o "setdefault" apos) [e, f] [] cpos) (tSetd td ty tx) := by
  intro pins s σ H Q I h
  refine wpAny_Call_method h1 h2 h3 PySem.F.plainAttrs_dict PySem.F.slot_dict_setdefault PySem.F.type_dict_setdefault (thn (ho pins s σ H _ I h) fun u s1 ⟨x, H1, I1, rx, a, ex, d, q1⟩ => ?_)
  subst ex
  obtain rfl : u = Value.ref a := rx
  obtain ⟨t1, t2, _⟩ := isD_at I1 d
  refine ⟨t1, t2, ?_⟩
  rw [h4]
  refine Calls.callWith_builtin rfl (Calls.evalArgs_plain (Calls.spliced_cons (thn (he pins s1 σ H1 _ I1 q1) fun iv s2 ⟨y, H2, I2, ry, q2⟩ =>
    Calls.spliced_cons (thn (hf pins s2 σ H2 _ I2 q2) fun fv s3 ⟨z, H3, I3, rz, kvs, k, e, hl, ey, qa, qb⟩ => Calls.spliced_nil ?_))))
  subst ey
  exact d_setd I3 e hl ry rz (fun v w s' hv I' rv => ⟨v, H3, I', rv, qa v hv⟩) fun s' hn I' => ⟨z, _, I', rz, qb hn⟩
def Rows (H : Hp) : List Addr → Tab → Prop
  | [], [] => True
  | l :: ls, (_, r) :: T => H l = some (.lst (r.map V.int)) ∧ r.length = 24 ∧ Rows H ls T
  | _, _ => False
def kvsOf : List Addr → Tab → List (Key × V)
  | l :: ls, (k, _) :: T => (.inl k, .ref l) :: kvsOf ls T
  | _, _ => []
structure ChAt (H : Hp) (a : Addr) (ls : List Addr) (T : Tab) : Prop where
  d : H a = some (.dK (kvsOf ls T))
  r : Rows H ls T
  n : ls.Nodup
theorem Rows.len {H : Hp} : ∀ {ls : List Addr} {T : Tab}, Rows H ls T → ls.length = T.length
  | [], [], _ => rfl
  | _ :: ls, (_, _) :: T, h => by simp [Rows.len h.2.2]
theorem kvsOf_len : ∀ {ls : List Addr} {T : Tab}, ls.length = T.length → (kvsOf ls T).length = T.length
  | [], [], _ => rfl
  | _ :: ls, (_, _) :: T, h => by simp [kvsOf, kvsOf_len (ls := ls) (T := T) (by simpa using h)]
theorem Rows.mem {H : Hp} : ∀ {ls : List Addr} {T : Tab} {l : Addr}, Rows H ls T → l ∈ ls → ∃ xs, H l = some (.lst xs)
  | [], _, _, _, h => by cases h
  | m :: ls, (_, r) :: T, l, h, q => by
    rcases List.mem_cons.mp q with rfl | q
    · exact ⟨_, h.1⟩
    · exact Rows.mem h.2.2 q
theorem Rows.keep {H H' : Hp} : ∀ {ls : List Addr} {T : Tab}, Rows H ls T → (∀ l ∈ ls, H' l = H l) → Rows H' ls T
  | [], [], _, _ => True.intro
  | l :: ls, (_, r) :: T, h, k => ⟨(k l List.mem_cons_self).trans h.1, h.2.1, Rows.keep h.2.2 fun m q => k m (List.mem_cons_of_mem _ q)⟩
theorem row_at {H : Hp} (far : Int) : ∀ {ls : List Addr} {T : Tab} {v : V}, Rows H ls T → ls.Nodup → valV (kvsOf ls T) (.inl far) = some v →
    ∃ l r, v = .ref l ∧ l ∈ ls ∧ H l = some (.lst (r.map V.int)) ∧ r.length = 24 ∧ ∀ ts b, kvsOf ls (addT T far ts b) = kvsOf ls T ∧ ∀ H' : Hp, H' l = some (.lst ((addRow r ts b).map V.int)) → (∀ m ∈ ls, m ≠ l → H' m = H m) → Rows H' ls (addT T far ts b)
  | [], [], v, _, _, h => by cases h
  | l :: ls, (k, r) :: T, v, h, n, e => by
    rw [kvsOf] at e
    by_cases hk : k = far
    · rw [valV_pos (by rw [hk])] at e
      cases e
      refine ⟨l, r, rfl, List.mem_cons_self, h.1, h.2.1, fun ts b => ?_⟩
      rw [addT, if_pos hk]
      refine ⟨rfl, fun H' h1 h2 => ⟨h1, by rw [addRow_len]; exact h.2.1, h.2.2.keep fun m q => h2 m (List.mem_cons_of_mem _ q) fun z => ?_⟩⟩
      rw [List.nodup_cons] at n
      exact n.1 (z ▸ q)
    · rw [valV_neg (by simpa using hk)] at e
      rw [List.nodup_cons] at n
      obtain ⟨l', r', e1, e2, e3, e4, e5⟩ := row_at far h.2.2 n.2 e
      refine ⟨l', r', e1, List.mem_cons_of_mem _ e2, e3, e4, fun ts b => ?_⟩
      rw [addT, if_neg hk]
      obtain ⟨f1, f2⟩ := e5 ts b
      refine ⟨by rw [kvsOf, kvsOf, f1], fun H' h1 h2 => ⟨(h2 l List.mem_cons_self fun z => n.1 (z ▸ e2)).trans h.1, h.2.1, f2 H' h1 fun m q z => h2 m (List.mem_cons_of_mem _ q) z⟩⟩
theorem row_new {H : Hp} (far : Int) : ∀ {ls : List Addr} {T : Tab}, Rows H ls T → valV (kvsOf ls T) (.inl far) = none →
    ∀ ts b l, kvsOf (ls ++ [l]) (addT T far ts b) = kvsOf ls T ++ [(.inl far, .ref l)] ∧ ∀ H' : Hp, H' l = some (.lst ((addRow (List.replicate 24 0) ts b).map V.int)) → (∀ m ∈ ls, H' m = H m) → Rows H' (ls ++ [l]) (addT T far ts b)
  | [], [], _, _, ts, b, l => ⟨rfl, fun H' h1 _ => ⟨h1, by rw [addRow_len]; rfl, True.intro⟩⟩
  | m :: ls, (k, r) :: T, h, e, ts, b, l => by
    rw [kvsOf] at e
    have hk : k ≠ far := fun z => by rw [valV_pos (by rw [z])] at e; cases e
    rw [valV_neg (by simpa using hk)] at e
    obtain ⟨f1, f2⟩ := row_new far h.2.2 e ts b l
    rw [addT, if_neg hk]
    refine ⟨?_, fun H' h1 h2 => ⟨(h2 m List.mem_cons_self).trans h.1, h.2.1, f2 H' h1 fun c q => h2 c (List.mem_cons_of_mem _ q)⟩⟩
    show (Sum.inl k, V.ref m) :: kvsOf (ls ++ [l]) (addT T far ts b) = _
    rw [f1]
    rfl
theorem ChAt.live {H : Hp} {a : Addr} {ls : List Addr} {T : Tab} (c : ChAt H a ls T) : Live (a :: ls) H := fun b hb => by
  rcases List.mem_cons.mp hb with rfl | hb
  · exact ⟨_, c.d, True.intro⟩
  · obtain ⟨xs, e⟩ := c.r.mem hb
    exact ⟨_, e, True.intro⟩
theorem ChAt.na {H : Hp} {a : Addr} {ls : List Addr} {T : Tab} (c : ChAt H a ls T) : a ∉ ls := fun z => by
  obtain ⟨xs, e⟩ := c.r.mem z
  rw [c.d] at e
  cases e
theorem ChAt.mono {H H' : Hp} {a : Addr} {ls : List Addr} {T : Tab} (c : ChAt H a ls T) (g : Same H H') : ChAt H' a ls T :=
  ⟨g _ _ c.d, c.r.keep fun l hl => by obtain ⟨xs, e⟩ := c.r.mem hl; rw [e]; exact g _ _ e, c.n⟩
def spAdd (K : PySem.W.Frag) (fnT : MF) : Sp := fun vs H Q _ => ∃ a far pd pv b ls T ts, vs = [.ref a, .int far, pv, .int b] ∧ ChAt H a ls T ∧ Den K (hide (a :: ls) H) pd pv ∧ (∃ d, fnT [pd] = some d ∧ turnsI d = some ts) ∧ T.length + 1 ≤ 1000000 ∧
  ∀ H' ls', ChAt H' a ls' (addT T far ts b) → Same (hide (a :: ls) H) (hide (a :: ls') H') → (∀ m ∈ ls', m ∈ ls ∨ H m = none) → Q .non H'
theorem turnsI_inv {d : D} {ts : List Int} (h : turnsI d = some ts) : ∃ ds, d = .lst ds ∧ intsOf ds = some ts ∧ ∀ t ∈ ts, 0 ≤ t ∧ t < 24 := by
  cases d with
  | lst ds =>
    obtain ⟨is, e1, e2⟩ := Option.bind_eq_some_iff.mp h
    split at e2
    · rename_i hc
      cases e2
      refine ⟨ds, rfl, e1, fun t ht => ?_⟩
      have := List.all_eq_true.mp hc t ht
      simpa using this
    · cases e2
  | _ => cases h
def tZeros : TE := tOp rRep (tLst (tCons (tC (.int 0)) tNil)) (tC (.int 24))
def tAdd (K : PySem.W.Frag) (fnT : MF) (E : XK) : TS := tSeq (tAsg (tSetd (tVar 0) (tVar 1) tZeros) (gName 4))
  (tFor (iList K (tCall (spD K fnT) [] E (tCons (tVar 2) tNil))) (gName 5) (tAugS (tVar 4) (tVar 5) (tVar 3) (rIxL K) (ipI fun i j => i + j) rSetL))
theorem zeros_read {σ : L2.St} {H : Hp} {Q : VK} (h : ∀ p H', Same H H' → H p = none → H' p = some (.lst ((List.replicate 24 (0 : Int)).map V.int)) → Q (.ref p) H') : tZeros σ H Q := by
  refine ⟨by show 1 ≤ sizeLine; rw [lim_eq]; decide, fun p hp => ⟨p, 24, [.int 0], rfl, rfl, upd_same, by decide, by decide, by show 1 * 24 ≤ sizeLine; rw [lim_eq]; decide, fun q hq => ?_⟩⟩
  have g1 := same_new (H := H) hp (HO.lst [V.int 0])
  have hq' : H q = none := g1.free hq
  exact h q _ (g1.trans (same_new hq _)) hq' upd_same
theorem addRow_snoc (r : List Int) (ts : List Int) (t b : Int) : addRow r (ts ++ [t]) b = (addRow r ts b).set t.toNat ((addRow r ts b).getD t.toNat 0 + b) := by
  unfold addRow
  rw [List.foldl_append]
  rfl
theorem add_loop {K : PySem.W.Frag} {H : Hp} {σ : L2.St} {m l : Addr} {r ts : List Int} {b : Int} {D : Ends} (hm : SqL K H m (ts.map V.int)) (hml : ∀ xs, SqL K (upd H l (.lst xs)) m (ts.map V.int)) (hl : H l = some (.lst (r.map V.int))) (hr : r.length = 24) (ht : ∀ t ∈ ts, 0 ≤ t ∧ t < 24)
    (h6 : σ.length = 6) (s3 : σ[3]? = some (some (.int b))) (s4 : σ[4]? = some (some (.ref l))) (k : ∀ σ', D.nx σ' (upd H l (.lst ((addRow r ts b).map V.int)))) :
    ∃ W : Nat → Nat → L2.St → Hp → Prop, (∃ m, W 0 m σ H) ∧ ∀ i n σ H, W i n σ H → ((Itl K m).stop i H ∧ D.nx σ H) ∨ ((Itl K m).go i H ∧ ∃ N : L2.St → Hp → Prop, (∀ σ' H', N σ' H' → ∃ m', m' < n ∧ W (i + 1) m' σ' H') ∧ ∀ x H', (Itl K m).yld i H x H' → gName 5 x σ H' fun σ2 H2 => tAugS (tVar 4) (tVar 5) (tVar 3) (rIxL K) (ipI fun i j => i + j) rSetL { D with nx := N, ct := N, bk := D.nx } σ2 H2) := by
  have e0 : upd H l (.lst ((addRow r (ts.take 0) b).map V.int)) = H := by
    funext c
    by_cases hc : c = l
    · subst hc; rw [upd_same, hl]; rfl
    · rw [upd_ne hc]
  refine for_list (xs := ts.map V.int) (fun i σ' H' => σ'.length = 6 ∧ σ'[3]? = some (some (.int b)) ∧ σ'[4]? = some (some (.ref l)) ∧ H' = upd H l (.lst ((addRow r (ts.take i) b).map V.int))) ⟨h6, s3, s4, e0.symm⟩ (fun i σ' H' _ p => ?_) (fun i x σ' H' hx p => ?_) fun σ' H' p => ?_
  · obtain ⟨_, _, _, rfl⟩ := p
    exact hml _
  · obtain ⟨p6, p3, p4, rfl⟩ := p
    rw [List.getElem?_map] at hx
    cases ht' : ts[i]? with
    | none => rw [ht'] at hx; cases hx
    | some t =>
      rw [ht'] at hx
      cases hx
      have hti : i < ts.length := (List.getElem?_eq_some_iff.mp ht').1
      have hlen : (addRow r (ts.take i) b).length = 24 := by rw [addRow_len]; exact hr
      obtain ⟨t0, t24⟩ := ht t (List.mem_of_getElem? ht')
      have hj : ixN ((addRow r (ts.take i) b).map V.int).length t = some t.toNat := by
        unfold ixN
        rw [List.length_map, hlen, if_pos t0, if_pos (by omega)]
      have hlt : t.toNat < (addRow r (ts.take i) b).length := by omega
      have hat : ((addRow r (ts.take i) b).map V.int)[t.toNat]? = some (.int ((addRow r (ts.take i) b).getD t.toNat 0)) := by
        rw [List.getElem?_map, List.getElem?_eq_getElem hlt]
        simp [hlt]
      refine ⟨_, by rw [List.getElem?_set_ne (by decide)]; exact p4, _, by rw [List.getElem?_set_self (by omega)], l, _, t, _, rfl, rfl, .of upd_same, by unfold atI; rw [hj]; exact hat, ?_⟩
      refine ⟨_, by rw [List.getElem?_set_ne (by decide)]; exact p3, _, _, rfl, rfl, l, _, t, t.toNat, rfl, rfl, upd_same, hj, ?_⟩
      refine ⟨by rw [List.length_set]; exact p6, by rw [List.getElem?_set_ne (by decide)]; exact p3, by rw [List.getElem?_set_ne (by decide)]; exact p4, ?_⟩
      rw [upd_upd]
      have et : ts.take (i + 1) = ts.take i ++ [t] := by
        rw [List.take_succ, ht']
        rfl
      rw [et, addRow_snoc, List.map_set]
  · obtain ⟨_, _, _, rfl⟩ := p
    have := k σ'
    rw [List.length_map, List.take_length]
    exact this
theorem add_read {K : PySem.W.Frag} {fnT : MF} {E E' : XK} {N : List Str} {vs : List V} {H : Hp} {Q : VK} {D : Ends} (hN : N.length = 6) (h : spAdd K fnT vs H Q E') (hD : ∀ σ H', Q .non H' → D.nx σ H') : tAdd K fnT E D (L2.start N vs) H := by
  obtain ⟨a, far, pd, pv, b, ls, T, ts, rfl, c, dp, ⟨d, hf, hti⟩, hT, k⟩ := h
  obtain ⟨ds, rfl, hints, hrange⟩ := turnsI_inv hti
  have hst : L2.start N [V.ref a, .int far, pv, .int b] = [some (V.ref a), some (.int far), some pv, some (.int b), none, none] := by
    unfold L2.start
    rw [hN]
    rfl
  rw [hst]
  have hkl := kvsOf_len c.r.len
  refine ⟨_, rfl, a, rfl, .inl ⟨_, .inl c.d⟩, _, rfl, zeros_read fun p H1 g1 hp h1 => ?_⟩
  have c1 := c.mono g1
  refine ⟨kvsOf ls T, .inl far, c1.d, by rw [hkl, lim_eq]; omega, rfl, fun v hv => ?_, fun hv => ?_⟩
  · obtain ⟨l, r, rfl, ml, hl, hr, q⟩ := row_at far c1.r c1.n hv
    refine ⟨_, rfl, ?_⟩
    have dp1 : Den K (hide (a :: ls) H1) pd pv := dp.mono g1.hd _ _
    show spD K fnT ([pv] ++ []) H1 _ E
    refine ⟨a :: ls, [pd], .lst ds, c1.live, .cons dp1 .nil, hf, fun v H2 g2 rv => ?_⟩
    obtain ⟨m, ms, rfl, hm, dm⟩ := rv.lst_inv
    have := dens_ints hints dm
    subst this
    have c2 := c1.mono g2
    have hh : ∀ xs, hide (a :: ls) (upd H2 l (.lst xs)) = hide (a :: ls) H2 := fun xs => by
      funext y
      by_cases hy : y ∈ a :: ls
      · rw [hide_on hy, hide_on hy]
      · rw [hide_off hy, hide_off hy, upd_ne (fun z : y = l => hy (by rw [z]; exact List.mem_cons_of_mem _ ml))]
    refine ⟨m, rfl, ⟨_, hide_le.seq hm⟩, add_loop (hide_le.seq hm) (fun xs => hide_le.seq (by rw [hh]; exact hm)) (g2 _ _ hl) hr hrange rfl rfl rfl fun σ' => hD _ _ ?_⟩
    obtain ⟨f1, f2⟩ := q ts b
    have nal : a ≠ l := fun z => c.na (z ▸ ml)
    refine k _ ls ⟨by rw [upd_ne nal, f1]; exact c2.d, f2 _ upd_same fun y hy hn => ?_, c.n⟩ (fun y o e => ?_) fun y hy => .inl hy
    · rw [upd_ne hn]
      obtain ⟨xs, e⟩ := c1.r.mem hy
      rw [e]
      exact g2 _ _ e
    · rw [hh]
      exact (g1.trans g2).hd _ _ e
  · refine ⟨_, rfl, ?_⟩
    have npa : a ≠ p := fun z => by
      have := c.d
      rw [z, hp] at this
      cases this
    have npl : ∀ {y : Addr}, y ∈ ls → y ≠ p := fun {y} hy z => by
      obtain ⟨xs, e⟩ := c.r.mem hy
      rw [z, hp] at e
      cases e
    generalize hH : upd H1 a (.dK (kvsOf ls T ++ [(.inl far, .ref p)])) = H1'
    have ha : H1' a = some (.dK (kvsOf ls T ++ [(.inl far, .ref p)])) := by rw [← hH]; exact upd_same
    have hne : ∀ {y : Addr}, y ≠ a → H1' y = H1 y := fun {y} z => by rw [← hH]; exact upd_ne z
    have lv : Live (a :: (ls ++ [p])) H1' := fun y hy => by
      rcases List.mem_cons.mp hy with rfl | hy
      · exact ⟨_, ha, True.intro⟩
      · rcases List.mem_append.mp hy with hy | hy
        · obtain ⟨xs, e⟩ := c1.r.mem hy
          exact ⟨_, (hne fun z => c.na (z ▸ hy)).trans e, True.intro⟩
        · rw [List.mem_singleton.mp hy]
          exact ⟨_, (hne npa.symm).trans h1, True.intro⟩
    have big : Same (hide (a :: ls) H) (hide (a :: (ls ++ [p])) H1') := fun y o e => by
      have hy : y ∉ a :: ls := fun z => by rw [hide_on z] at e; cases e
      rw [hide_off hy] at e
      have hyp : y ≠ p := ne_of_none e hp
      have hy2 : y ∉ a :: (ls ++ [p]) := fun z => by
        rcases List.mem_cons.mp z with z | z
        · exact hy (by rw [z]; exact List.mem_cons_self)
        · rcases List.mem_append.mp z with z | z
          · exact hy (List.mem_cons_of_mem _ z)
          · exact hyp (List.mem_singleton.mp z)
      rw [hide_off hy2, hne (fun z => hy (by rw [z]; exact List.mem_cons_self))]
      exact g1 _ _ e
    show spD K fnT ([pv] ++ []) H1' _ E
    refine ⟨a :: (ls ++ [p]), [pd], .lst ds, lv, .cons (dp.mono big _ _) .nil, hf, fun v H2 g2 rv => ?_⟩
    obtain ⟨m, ms, rfl, hm, dm⟩ := rv.lst_inv
    have := dens_ints hints dm
    subst this
    have hh : ∀ xs, hide (a :: (ls ++ [p])) (upd H2 p (.lst xs)) = hide (a :: (ls ++ [p])) H2 := fun xs => by
      funext y
      by_cases hy : y ∈ a :: (ls ++ [p])
      · rw [hide_on hy, hide_on hy]
      · rw [hide_off hy, hide_off hy, upd_ne (fun z : y = p => hy (by rw [z]; simp))]
    refine ⟨m, rfl, ⟨_, hide_le.seq hm⟩, add_loop (hide_le.seq hm) (fun xs => hide_le.seq (by rw [hh]; exact hm)) (g2 _ _ ((hne npa.symm).trans h1)) (by simp) hrange rfl rfl rfl fun σ' => hD _ _ ?_⟩
    obtain ⟨f1, f2⟩ := row_new far c.r hv ts b p
    refine k _ (ls ++ [p]) ⟨by rw [upd_ne npa, f1]; exact g2 _ _ ha, f2 _ upd_same fun y hy => ?_, ?_⟩ (fun y o e => ?_) fun y hy => ?_
    · rw [upd_ne (npl hy)]
      obtain ⟨xs, e⟩ := c.r.mem hy
      rw [e]
      exact g2 _ _ ((hne fun z => c.na (z ▸ hy)).trans (g1 _ _ e))
    · rw [List.nodup_append]
      exact ⟨c.n, by simp, fun y hy z hz e => npl hy (e.trans (List.mem_singleton.mp hz))⟩
    · rw [hh]
      exact g2.hd _ _ (big _ _ e)
    · rcases List.mem_append.mp hy with hy | hy
      · exact .inl hy
      · exact .inr (by rw [List.mem_singleton.mp hy]; exact hp)
end DL
namespace DL
open PySem PySem.Spec PyProof.Rows L2
def tStill (t : TS) : TS := fun D σ H => ∃ a u, ((∃ kvs, u = .dK kvs) ∨ ∃ kvs, u = .dT kvs) ∧ H a = some u ∧ ∀ o, t D σ (upd H a (.frz o u))
theorem pss_still {X : Cx} {sts : List Stmt} {t : TS} (h : PSs X sts t) : PSs X sts (tStill t) := fun pins s σ H D I hh => by
  obtain ⟨a, u, hu, e, hh⟩ := hh
  obtain ⟨o, I'⟩ := Inv.still I hu e
  exact h pins s σ _ D I' (hh o)
def tNeg1 : TE := tUn (rU fun i => .int (-i)) (tC (.int 1))
def tDc (K : PySem.W.Frag) (fnS fnT : MF) (E1 E2 E3 : XK) : TS := tSeq (tAsg tDNewK (gName 1)) (tSeq (tFor (iTup K (tVar 0)) (gName 2)
  (tSeq (tAsg (tCall (spD K fnS) [] E1 (tCons (tVar 2) tNil)) (gName 3))
  (tSeq (tDrop (tCall (spAdd K fnT) [] E2 (tCons (tVar 1) (tCons (tOp (rIxT K) (tVar 3) (tC (.int 0))) (tCons (tVar 2) (tCons (tC (.int 1)) tNil))))))
  (tDrop (tCall (spAdd K fnT) [] E3 (tCons (tVar 1) (tCons (tOp (rIxT K) (tVar 3) (tC (.int 1))) (tCons (tVar 2) (tCons tNeg1 tNil)))))))))
  (tStill (tRet (tVar 1))))
theorem spanI_inv {d : D} {q : Int × Int} (h : spanI d = some q) : d = .tup [.int q.1, .int q.2] := by
  unfold spanI at h
  split at h
  · cases h; rfl
  · cases h
theorem rows_den {K : PySem.W.Frag} {B : Hp} : ∀ {ls : List Addr} {T : Tab}, Rows B ls T → Dens K B (T.map fun p => .lst (p.2.map D.int)) ((kvsOf ls T).map (·.2))
  | [], [], _ => .nil
  | l :: ls, (k, r) :: T, h => .cons (.lst (.of h.1) (Dens.ints r)) (rows_den h.2.2)
theorem rows_keys : ∀ {H : Hp} {ls : List Addr} {T : Tab}, Rows H ls T → (T.map fun p => D.int p.1) = (kvsOf ls T).map fun p => kD p.1
  | _, [], [], _ => rfl
  | _, l :: ls, (k, r) :: T, h => by
    rw [List.map_cons, rows_keys h.2.2]
    rfl
theorem dc_read {K : PySem.W.Frag} {fnS fnT : MF} {E0 E1 E2 E3 : XK} {N : List Str} {vs : List V} {H : Hp} {Q : VK} (hN : N.length = 4) (h : spD K (mChanges fnS fnT) vs H Q E0) : tDc K fnS fnT E1 E2 E3 { nx := fun _ H' => Q .non H', rt := Q } (L2.start N vs) H := by
  obtain ⟨os, ds, r, L, dn, hm, fin⟩ := h
  have hds : ∃ ps, ds = [.tup ps] := by
    unfold mChanges at hm
    split at hm
    · exact ⟨_, rfl⟩
    · cases hm
  obtain ⟨ps, rfl⟩ := hds
  obtain ⟨TF, hT, hr⟩ := Option.bind_eq_some_iff.mp (show (chgs fnS fnT ps []).bind (fun T => some (dicOf T)) = some r from hm)
  cases hr
  obtain ⟨v, rr, rfl, hv, hn⟩ := dn.uncons
  have := hn.unnil
  subst this
  obtain ⟨tt, xs, rfl, htt, hxs⟩ := hv.tup_inv
  have hst : L2.start N [V.ref tt] = [some (V.ref tt), none, none, none] := by
    unfold L2.start
    rw [hN]
    rfl
  rw [hst]
  intro a ha
  have wk := walk_tup (K := K) (B := hide os H) (.of htt) hxs
  have g0 := same_new ha (HO.dK [])
  refine ⟨_, rfl, tt, rfl, ⟨xs, .of (g0 _ _ (hide_le _ _ htt))⟩, ?_⟩
  refine ⟨fun i n σ H' => n = ps.length - i ∧ i ≤ ps.length ∧ σ.length = 4 ∧ σ[1]? = some (some (.ref a)) ∧ ∃ ls T, ChAt H' a ls T ∧ Same H H' ∧ (∀ l ∈ ls, H l = none) ∧ chgs fnS fnT (ps.drop i) T = some TF,
    ⟨ps.length, by simp, Nat.zero_le _, rfl, rfl, [], [], ⟨upd_same, True.intro, List.nodup_nil⟩, g0, (fun l hl => by cases hl), by rw [List.drop_zero]; exact hT⟩, ?_⟩
  rintro i n σ H1 ⟨rfl, hi, h4, s1, ls, T, c, g1, hls, hch⟩
  have free : ∀ {y : Addr} {o : HO}, H y = some o → y ∉ a :: ls := fun {y o} e z => by
    rcases List.mem_cons.mp z with rfl | z
    · rw [ha] at e; cases e
    · rw [hls y z] at e; cases e
  have lv : Live (os ++ a :: ls) H1 := fun y hy => by
    rcases List.mem_append.mp hy with hy | hy
    · exact (L.mono g1) y hy
    · exact c.live y hy
  have big : Same (hide os H) (hide (os ++ a :: ls) H1) := fun y o e => by
    have hy : y ∉ os := fun z => by rw [hide_on z] at e; cases e
    rw [hide_off hy] at e
    rw [hide_off (fun z => (List.mem_append.mp z).elim hy (free e))]
    exact g1 _ _ e
  obtain ⟨w1, w2⟩ := wk i (os ++ a :: ls) H1 lv big
  by_cases hlt : i < ps.length
  · have hp : ps[i]? = some ps[i] := List.getElem?_eq_getElem hlt
    obtain ⟨go, yl⟩ := w1 _ hp
    rw [List.drop_eq_getElem_cons hlt, chgs] at hch
    obtain ⟨sd, f1, hc1⟩ := Option.bind_eq_some_iff.mp hch
    obtain ⟨q, f2, hc2⟩ := Option.bind_eq_some_iff.mp hc1
    obtain ⟨td, f3, hc3⟩ := Option.bind_eq_some_iff.mp hc2
    obtain ⟨ts, f4, hc4⟩ := Option.bind_eq_some_iff.mp hc3
    clear hch hc1 hc2 hc3
    split at hc4
    · rename_i hroom
      have := spanI_inv f2
      subst this
      refine .inr ⟨go, fun σ' H' => ∃ m', m' < ps.length - i ∧ (m' = ps.length - (i + 1) ∧ i + 1 ≤ ps.length ∧ σ'.length = 4 ∧ σ'[1]? = some (some (.ref a)) ∧ ∃ ls T, ChAt H' a ls T ∧ Same H H' ∧ (∀ l ∈ ls, H l = none) ∧ chgs fnS fnT (ps.drop (i + 1)) T = some TF), fun σ' H' z => z, fun x H2 y => ?_⟩
      obtain ⟨g2, rx⟩ := yl x H2 y
      have e2 : ∀ {σ : L2.St}, σ.length = 4 → (σ.set 2 (some x))[2]? = some (some x) := fun {σ} z => List.getElem?_set_self (by omega)
      refine ⟨_, e2 h4, ?_⟩
      show spD K fnS ([x] ++ []) H2 _ E1
      refine ⟨os ++ a :: ls, [ps[i]], _, lv.mono g2, .cons rx .nil, f1, fun v H3 g3 rv => ?_⟩
      obtain ⟨ta, ys, rfl, hta, hys⟩ := rv.tup_inv
      obtain ⟨y1, yr, rfl, d1, hys⟩ := hys.uncons
      obtain ⟨y2, yr, rfl, d2, hys⟩ := hys.uncons
      have := hys.unnil
      subst this
      have := d1.int_inv
      have := d2.int_inv
      subst y1 y2
      have g23 := g2.trans g3
      have c3 := c.mono g23
      have hta3 : H3 ta = some (.tup [.int q.1, .int q.2]) := hide_le _ _ hta
      have rx3 : Den K (hide (a :: ls) H3) ps[i] x := rx.mono (fun y o e => by
        have hy : y ∉ os ++ a :: ls := fun z => by rw [hide_on z] at e; cases e
        rw [hide_off hy] at e
        rw [hide_off (fun z => hy (List.mem_append_right _ z))]
        exact g3 _ _ e) _ _
      have z4 : ((σ.set 2 (some x)).set 3 (some (V.ref ta))).length = 4 := by simpa using h4
      have z1 : ((σ.set 2 (some x)).set 3 (some (V.ref ta)))[1]? = some (some (.ref a)) := by rw [List.getElem?_set_ne (by decide), List.getElem?_set_ne (by decide)]; exact s1
      have z2 : ((σ.set 2 (some x)).set 3 (some (V.ref ta)))[2]? = some (some x) := by rw [List.getElem?_set_ne (by decide)]; exact e2 h4
      have z3 : ((σ.set 2 (some x)).set 3 (some (V.ref ta)))[3]? = some (some (.ref ta)) := by exact List.getElem?_set_self (by simpa using (by omega : 3 < σ.length))
      refine ⟨.ref a, z1, .ref ta, z3, ta, [.int q.1, .int q.2], 0, .int q.1, rfl, rfl, .of hta3, rfl, x, z2, ?_⟩
      refine ⟨a, q.1, ps[i], x, 1, ls, T, ts, rfl, c3, rx3, ⟨td, f3, f4⟩, by omega, fun H5 ls5 c5 g5 l5 => ?_⟩
      have ta5 : H5 ta = some (.tup [.int q.1, .int q.2]) := hide_le _ _ (g5 _ _ (hide_tup c3.live hta3))
      have rx5 := rx3.mono g5 _ _
      refine ⟨.ref a, z1, .ref ta, z3, ta, [.int q.1, .int q.2], 1, .int q.2, rfl, rfl, .of ta5, rfl, x, z2, 1, rfl, ?_⟩
      refine ⟨a, q.2, ps[i], x, -1, ls5, _, ts, rfl, c5, rx5, ⟨td, f3, f4⟩, by have := addT_len T q.1 ts 1; omega, fun H6 ls6 c6 g6 l6 => ?_⟩
      have n5 : ∀ l ∈ ls5, H l = none := fun l hl => by
        rcases l5 l hl with z | z
        · exact hls l z
        · exact (g1.trans g23).free z
      have s5 : Same H H5 := fun y o e => hide_le _ _ (g5 _ _ ((hide_off (free e)).trans ((g1.trans g23) _ _ e)))
      have free5 : ∀ {y : Addr} {o : HO}, H y = some o → y ∉ a :: ls5 := fun {y o} e z => by
        rcases List.mem_cons.mp z with rfl | z
        · rw [ha] at e; cases e
        · rw [n5 y z] at e; cases e
      have s6 : Same H H6 := fun y o e => hide_le _ _ (g6 _ _ ((hide_off (free5 e)).trans (s5 _ _ e)))
      have n6 : ∀ l ∈ ls6, H l = none := fun l hl => by
        rcases l6 l hl with z | z
        · exact n5 l z
        · exact s5.free z
      exact ⟨ps.length - (i + 1), by omega, rfl, hlt, z4, z1, ls6, _, c6, s6, n6, hc4⟩
    · cases hc4
  · have e : i = ps.length := by omega
    subst e
    rw [List.drop_length, chgs] at hch
    cases hch
    refine .inl ⟨w2 rfl, a, _, .inl ⟨_, rfl⟩, c.d, fun o => ⟨_, s1, fin _ _ (fun y ob e => ?_) ?_⟩⟩
    · rw [upd_ne (fun z => free e (by rw [z]; exact List.mem_cons_self))]
      exact g1 _ _ e
    · have nao : a ∉ os := L.ne ha
      have rows : Rows (hide os (upd H1 a (.frz o (.dK (kvsOf ls TF))))) ls TF := c.r.keep fun l hl => by
        rw [hide_off (L.ne (hls l hl)), upd_ne (fun z : l = a => c.na (by rw [← z]; exact hl))]
      exact .dic (.inl ⟨rfl, o, _, (hide_off nao).trans upd_same, rows_keys c.r, rfl⟩) (rows_den rows)
end DL
namespace DL
open PySem PySem.Spec PyProof.Rows L2
theorem dc_len {K : PySem.W.Frag} {fnS fnT : MF} {vs : List V} {H : Hp} {Q : VK} {E : XK} (h : spD K (mChanges fnS fnT) vs H Q E) : vs.length = 1 := by
  obtain ⟨os, ds, r, L, dn, hm, fin⟩ := h
  rw [← dn.length]
  unfold mChanges at hm
  split at hm
  · rfl
  · cases hm
theorem lstM_rep (a b : ME) : LstM (eRep a b) := fun δ d h => by
  obtain ⟨x, _, h⟩ := Option.bind_eq_some_iff.mp h
  obtain ⟨y, _, h⟩ := Option.bind_eq_some_iff.mp h
  split at h
  · split at h
    · cases h
      exact ⟨_, rfl⟩
    · cases h
  · cases h
end DL

set_option Elab.async false
set_option linter.all false
namespace DL.Pg
open PySem DL
noncomputable def b_bands_between : MS := (sRet (eListZip (eVar 0) (eUn (uFrom 1) (eVar 0))))
noncomputable def m_bands_between : MF := fnM 1 1 b_bands_between
noncomputable def b_span_of : MS := (sSeq (sAsg (eCall fMax (aCons (eOp oIx (eVar 0) (eC (.int 0))) (aCons (eC (.int 0)) aNil))) (gN 1))
    (sRet (eTup (aCons (eVar 1) (aCons (eCall fMax (aCons (eOp oIx (eVar 0) (eC (.int 1))) (aCons (eVar 1) aNil))) aNil)))))
noncomputable def m_span_of : MF := fnM 1 2 b_span_of
noncomputable def b_edges_of_1 : MS := (sExt 3 1 (eCall m_span_of (aCons (eVar 2) aNil)))
noncomputable def b_edges_of : MS := (sSeq (sOwn 3 1 (eLst (aCons (eC (.int 0)) aNil)))
    (sSeq (sFor (iSeq (eVar 0)) (gN 2)
    b_edges_of_1)
    (sFrz 3 [1] (sRet (eUn uSortSet (eVar 1))))))
noncomputable def m_edges_of : MF := fnM 1 6 b_edges_of
noncomputable def b_turns_of : MS := (sSeq (sAsg (eCall fMin (aCons (eOp oIx (eVar 0) (eC (.int 3))) (aCons (eC (.int 24)) aNil))) (gN 1))
    (sRet (eComp 1 [0] (iRange (eVar 1)) (gN 0) tT (eOp oMod (eOp oAdd (eOp oIx (eVar 1) (eC (.int 2))) (eVar 0)) (eC (.int 24))))))
noncomputable def m_turns_of : MF := fnM 1 2 b_turns_of
noncomputable def m_depth_changes : MF := mChanges m_span_of m_turns_of
noncomputable def b_depth_rows_1 : MS := (sSeq (sAsg (eGet2 (eVar 2) (eOp oIx (eVar 5) (eC (.int 0))) (eRep (eLst (aCons (eC (.int 0)) aNil)) (eC (.int 24)))) (gN 6))
    (sSeq (sAsg (eComp 2 [] (iZip (eVar 4) (eVar 6)) (gT (gsCons (gN 0) (gsCons (gN 1) gsNil))) tT (eOp oAdd (eVar 0) (eVar 1))) (gN 4))
    (sApp 7 3 (eVar 4))))
noncomputable def b_depth_rows : MS := (sSeq (sAsg (eCall m_depth_changes (aCons (eVar 0) aNil)) (gN 2))
    (sSeq (sOwn 7 3 (eLst aNil))
    (sSeq (sAsg (eRep (eLst (aCons (eC (.int 0)) aNil)) (eC (.int 24))) (gN 4))
    (sSeq (sFor (iSeq (eVar 1)) (gN 5)
    b_depth_rows_1)
    (sFrz 7 [3] (sRet (eVar 3)))))))
noncomputable def m_depth_rows : MF := fnM 2 14 b_depth_rows
noncomputable def b_cell_area : MS := (sRet (eOp oSub (eOp oMul (eOp oIx (eVar 0) (eC (.int 1))) (eOp oIx (eVar 0) (eC (.int 1)))) (eOp oMul (eOp oIx (eVar 0) (eC (.int 0))) (eOp oIx (eVar 0) (eC (.int 0))))))
noncomputable def m_cell_area : MF := fnM 1 1 b_cell_area
noncomputable def b_depth_areas_2 : MS := (sAugL 6 1 (eVar 5) (eCall m_cell_area (aCons (eVar 3) aNil)))
noncomputable def b_depth_areas_1 : MS := (sFor (iSeq (eVar 4)) (gN 5)
    b_depth_areas_2)
noncomputable def b_depth_areas : MS := (sSeq (sOwn 6 1 (eRep (eLst (aCons (eC (.int 0)) aNil)) (eOp oAdd (eCall fLen (aCons (eVar 0) aNil)) (eC (.int 1)))))
    (sSeq (sAsg (eCall m_bands_between (aCons (eCall m_edges_of (aCons (eVar 0) aNil)) aNil)) (gN 2))
    (sSeq (sFor (iZip (eVar 2) (eCall m_depth_rows (aCons (eVar 0) (aCons (eVar 2) aNil)))) (gT (gsCons (gN 3) (gsCons (gN 4) gsNil)))
    b_depth_areas_1)
    (sFrz 6 [1] (sRet (eCall fTuple (aCons (eUn (uFrom 1) (eVar 1)) aNil)))))))
noncomputable def m_depth_areas : MF := fnM 1 12 b_depth_areas
noncomputable def b_area_of : MS := (sRet (eOp oMul (eOp oSub (eOp oMul (eOp oIx (eVar 0) (eC (.int 1))) (eOp oIx (eVar 0) (eC (.int 1)))) (eOp oMul (eOp oIx (eVar 0) (eC (.int 0))) (eOp oIx (eVar 0) (eC (.int 0))))) (eOp oIx (eVar 0) (eC (.int 3)))))
noncomputable def m_area_of : MF := fnM 1 1 b_area_of
noncomputable def b_shared_area : MS := (sSeq (sAsg (eCall fTuple (aCons (eComp 2 [1] (iEnum (eVar 0)) (gT (gsCons (gN 0) (gsCons (gN 1) gsNil))) (tV (eOp oIn (eVar 0) (eVar 2))) (eVar 1)) aNil)) (gN 2))
    (sSeq (sIf (tV (eOp oEq (eCall fLen (aCons (eVar 2) aNil)) (eC (.int 0)))) (sRet (eC (.int 0))) sNil)
    (sRet (eOp oIx (eCall m_depth_areas (aCons (eVar 2) aNil)) (eUn uNeg (eC (.int 1)))))))
noncomputable def m_shared_area : MF := fnM 2 3 b_shared_area
noncomputable def b_covered_area : MS := (sRet (eCall fSum (aCons (eCall m_depth_areas (aCons (eVar 0) aNil)) aNil)))
noncomputable def m_covered_area : MF := fnM 1 1 b_covered_area
end DL.Pg

set_option Elab.async false
set_option linter.all false
set_option maxRecDepth 100000
namespace DL.Pg
open PySem DL
structure Pc where
  i : Nat
  o : Nat
  b : Nat
  w : Nat
def Pc.ok (p : Pc) : Prop := p.i < p.o ∧ p.o ≤ 1000 ∧ p.b < 24 ∧ 1 ≤ p.w ∧ p.w ≤ 24
def pD (p : Pc) : D := .tup [.int p.i, .int p.o, .int p.b, .int p.w]
def shD (s : List Pc) : D := .tup (s.map pD)
def Pc.at (p : Pc) (t : Nat) : Bool := decide ((t + 24 - p.b) % 24 < p.w)
def Pc.has (p : Pc) (r t : Nat) : Bool := decide (p.i ≤ r) && decide (r < p.o) && p.at t
def dep (s : List Pc) (r t : Nat) : Nat := s.countP fun p => p.has r t
def turnsZ (p : Pc) : List Int := (List.range p.w).map fun k => (((p.b + k) % 24 : Nat) : Int)
theorem r_span {p : Pc} (h : p.ok) : m_span_of [pD p] = some (.tup [.int p.i, .int p.o]) := by
  have h1 : ¬ ((0 : Int) > p.i) := by omega
  have h2 : ¬ ((p.i : Int) > p.o) := by have := h.1; omega
  simp [m_span_of, fnM, b_span_of, sSeq, sAsg, sRet, eCall, aCons, aNil, eOp, eVar, slot, eC, oIx, ixD, fMax, gN, eTup, pD]
  have := h.1
  omega
theorem range_mem {n : Nat} {x : D} (h : x ∈ rangeD n) : ∃ k : Nat, k < n ∧ x = .int k := by
  unfold rangeD at h
  obtain ⟨k, h1, h2⟩ := List.mem_map.mp h
  exact ⟨k, List.mem_range.mp h1, h2.symm⟩
theorem range_ev {a : ME} {δ : Ev} {j : Int} (h : a δ = some (.int j)) (h1 : -1073741824 < j ∧ j < 1073741824) : iRange a δ = some (rangeD j.toNat) := by
  unfold iRange
  rw [h]
  simp only [Option.bind_some]
  rw [if_pos h1]
theorem range_nat {a : ME} {δ : Ev} {n : Nat} (h : a δ = some (.int n)) (h1 : n < 1073741824) : iRange a δ = some (rangeD n) := by
  have e := range_ev h ⟨by omega, by omega⟩
  rwa [Int.toNat_natCast] at e
theorem r_turns {p : Pc} (h : p.ok) : m_turns_of [pD p] = some (.lst ((turnsZ p).map D.int)) := by
  obtain ⟨_, _, _, h4, h5⟩ := h
  have e0 : b_turns_of [some (pD p), none] = sRet (eComp 1 [0] (iRange (eVar 1)) (gN 0) tT (eOp oMod (eOp oAdd (eOp oIx (eVar 1) (eC (.int 2))) (eVar 0)) (eC (.int 24)))) [some (pD p), some (.int p.w)] := by
    unfold b_turns_of
    refine seq_nx (asg_ev (d := .int p.w) ?_ rfl)
    have : ¬ ((24 : Int) < p.w) := by omega
    simp [eCall, aCons, aNil, eOp, eVar, slot, eC, oIx, ixD, fMin, pD]
    omega
  refine fn_ev rfl (e0.trans ?_)
  have hi : iRange (eVar 1) [some (pD p), some (.int p.w)] = some (rangeD p.w) := range_nat rfl (by omega)
  refine ret_ev ((comp_ev (fun x => match x with | .int k => some (.int ((p.b + k) % 24)) | _ => none) hi (by simp [rangeD]; omega) fun x hx => ?_).trans ?_)
  · obtain ⟨k, _, rfl⟩ := range_mem hx
    refine ⟨[some (.int k), some (pD p)], rfl, .inl ⟨rfl, .int ((p.b + k) % 24), ?_, rfl⟩⟩
    simp [eOp, eVar, slot, eC, oIx, ixD, pD, oAdd, oMod, oI]
  · refine congrArg (fun l => some (D.lst l)) ?_
    unfold turnsZ rangeD
    generalize List.range p.w = l
    induction l with
    | nil => rfl
    | cons a l ih =>
      have e : (((p.b + a) % 24 : Nat) : Int) = ((p.b : Int) + (a : Int)) % 24 := by omega
      simp only [List.map_cons, List.filterMap_cons]
      rw [ih, e]
theorem ints_map : ∀ (l : List Int), intsOf (l.map D.int) = some l
  | [] => rfl
  | a :: l => by simp [intsOf, ints_map l]
theorem turns_in {p : Pc} : ∀ t ∈ turnsZ p, 0 ≤ t ∧ t < 24 := fun t h => by
  unfold turnsZ at h
  obtain ⟨k, _, rfl⟩ := List.mem_map.mp h
  have := Nat.mod_lt (p.b + k) (show 0 < 24 by decide)
  omega
theorem turnsI_ev (p : Pc) : turnsI (.lst ((turnsZ p).map D.int)) = some (turnsZ p) := by
  show (intsOf ((turnsZ p).map D.int)).bind _ = _
  rw [ints_map]
  simp only [Option.bind_some]
  rw [if_pos]
  rw [List.all_eq_true]
  intro t ht
  have := turns_in t ht
  simp [this]
def tabStep (T : Tab) (p : Pc) : Tab := addT (addT T p.i (turnsZ p) 1) p.o (turnsZ p) (-1)
def tabOf (s : List Pc) : Tab := s.foldl tabStep []
theorem chgs_ev : ∀ (s : List Pc) (T : Tab), (∀ p ∈ s, p.ok) → T.length + 2 * s.length ≤ 1000000 → chgs m_span_of m_turns_of (s.map pD) T = some (s.foldl tabStep T)
  | [], T, _, _ => rfl
  | p :: s, T, h, hl => by
    have hp := h p List.mem_cons_self
    simp only [List.length_cons] at hl
    rw [List.map_cons, chgs, r_span hp]
    simp only [Option.bind_some, spanI]
    rw [r_turns hp]
    simp only [Option.bind_some, turnsI_ev]
    rw [if_pos (by omega)]
    have h1 := addT_len T p.i (turnsZ p) 1
    have h2 := addT_len (addT T p.i (turnsZ p) 1) p.o (turnsZ p) (-1)
    exact chgs_ev s _ (fun q hq => h q (List.mem_cons_of_mem _ hq)) (by omega)
theorem r_changes {s : List Pc} (h : ∀ p ∈ s, p.ok) (hl : s.length ≤ 400000) : m_depth_changes [shD s] = some (dicOf (tabOf s)) := by
  unfold m_depth_changes mChanges shD
  simp only
  rw [chgs_ev s [] h (by simp only [List.length_nil]; omega)]
  rfl
def zeros : List Int := List.replicate 24 0
def rowL (T : Tab) (e : Int) : List Int := (T.lookup e).getD zeros
def valT (T : Tab) (e : Int) (t : Nat) : Int := (rowL T e).getD t 0
def GoodT (T : Tab) : Prop := ∀ q ∈ T, q.2.length = 24
theorem look_add (far : Int) (ts : List Int) (b : Int) : ∀ (T : Tab) (e : Int), (addT T far ts b).lookup e = if e = far then some (addRow (rowL T far) ts b) else T.lookup e
  | [], e => by
    unfold addT rowL
    by_cases h : e = far
    · subst h
      simp [List.lookup, zeros]
    · have h' : (e == far) = false := by simpa using h
      simp [List.lookup, h, h']
  | (k, r) :: T, e => by
    unfold addT
    by_cases hk : k = far
    · subst hk
      rw [if_pos rfl, List.lookup_cons]
      by_cases he : e = k
      · subst he
        simp [rowL, List.lookup_cons]
      · have : (e == k) = false := by simpa using he
        simp [this, he, List.lookup_cons]
    · rw [if_neg hk, List.lookup_cons, List.lookup_cons, look_add far ts b T e]
      by_cases he : e = k
      · subst he
        simp [hk]
      · have h1 : (e == k) = false := by simpa using he
        have h2 : (far == k) = false := by simpa using Ne.symm hk
        simp only [h1, rowL, List.lookup_cons, h2]
theorem good_add {T : Tab} (h : GoodT T) (far : Int) (ts : List Int) (b : Int) : GoodT (addT T far ts b) := by
  induction T with
  | nil =>
    intro q hq
    unfold addT at hq
    rw [List.mem_singleton.mp hq, addRow_len]
    rfl
  | cons kr T ih =>
    obtain ⟨k, r⟩ := kr
    intro q hq
    have hr : r.length = 24 := h (k, r) List.mem_cons_self
    unfold addT at hq
    split at hq
    · rcases List.mem_cons.mp hq with rfl | hq
      · rw [addRow_len]; exact hr
      · exact h q (List.mem_cons_of_mem _ hq)
    · rcases List.mem_cons.mp hq with rfl | hq
      · exact hr
      · exact ih (fun q' hq' => h q' (List.mem_cons_of_mem _ hq')) q hq
theorem rowL_len {T : Tab} (h : GoodT T) (e : Int) : (rowL T e).length = 24 := by
  unfold rowL
  cases hl : T.lookup e with
  | none => rfl
  | some r =>
    obtain ⟨_, _, hm⟩ : ∃ k, k = e ∧ (k, r) ∈ T := by
      clear h
      induction T with
      | nil => simp at hl
      | cons kr T ih =>
        obtain ⟨k, r'⟩ := kr
        rw [List.lookup_cons] at hl
        split at hl
        · rename_i hk
          cases hl
          exact ⟨k, (eq_of_beq hk).symm, List.mem_cons_self⟩
        · obtain ⟨k', h1, h2⟩ := ih hl
          exact ⟨k', h1, List.mem_cons_of_mem _ h2⟩
    exact h _ hm
theorem addRow_get (b : Int) : ∀ (ts r : List Int) (t : Nat), (∀ z ∈ ts, 0 ≤ z ∧ z < r.length) → (addRow r ts b).getD t 0 = r.getD t 0 + b * (ts.count (t : Int) : Nat)
  | [], r, t, _ => by simp [addRow]
  | z :: ts, r, t, h => by
    obtain ⟨z0, z1⟩ := h z List.mem_cons_self
    have e : addRow r (z :: ts) b = addRow (r.set z.toNat (r.getD z.toNat 0 + b)) ts b := rfl
    rw [e, addRow_get b ts _ t fun y hy => by rw [List.length_set]; exact h y (List.mem_cons_of_mem _ hy), List.count_cons]
    by_cases hz : z = t
    · subst hz
      have : t < r.length := by omega
      simp [List.getD_eq_getElem?_getD, List.getElem?_set, this, Int.mul_add]
      omega
    · have h1 : z.toNat ≠ t := by omega
      have h2 : (z == (t : Int)) = false := by simpa using hz
      simp [List.getD_eq_getElem?_getD, List.getElem?_set, h1, h2]
theorem count_turns : ∀ b, b < 24 → ∀ w, w < 25 → ∀ t, t < 24 → ((List.range w).map fun k => (b + k) % 24).count t = if (t + 24 - b) % 24 < w then 1 else 0 := by decide +kernel
theorem cnt_turns {p : Pc} (h : p.ok) {t : Nat} (ht : t < 24) : (turnsZ p).count (t : Int) = if p.at t = true then 1 else 0 := by
  obtain ⟨_, _, h3, _, h5⟩ := h
  have := count_turns p.b h3 p.w (by omega) t ht
  unfold Pc.at
  simp only [decide_eq_true_eq]
  rw [← this]
  unfold turnsZ
  generalize List.range p.w = l
  induction l with
  | nil => rfl
  | cons a l ih =>
    rw [List.map_cons, List.map_cons, List.count_cons, List.count_cons, ih]
    congr 1
    have : ((((p.b + a) % 24 : Nat) : Int) == (t : Int)) = ((p.b + a) % 24 == t) := by
      rw [Bool.eq_iff_iff]
      simp only [beq_iff_eq]
      omega
    rw [this]
theorem valT_add {T : Tab} (h : GoodT T) {p : Pc} (hp : p.ok) (far b : Int) (e : Int) {t : Nat} (ht : t < 24) : valT (addT T far (turnsZ p) b) e t = valT T e t + if e = far then b * (if p.at t = true then 1 else 0) else 0 := by
  unfold valT
  have : rowL (addT T far (turnsZ p) b) e = if e = far then addRow (rowL T far) (turnsZ p) b else rowL T e := by
    unfold rowL
    rw [look_add]
    split <;> rfl
  rw [this]
  by_cases he : e = far
  · subst he
    rw [if_pos rfl, if_pos rfl, addRow_get b _ _ t fun z hz => by rw [rowL_len h]; exact turns_in z hz, cnt_turns hp ht]
    split <;> simp
  · rw [if_neg he, if_neg he]
    simp
def chg (p : Pc) (e t : Nat) : Int := if p.at t = true then (if e = p.i then 1 else 0) - (if e = p.o then 1 else 0) else 0
theorem valT_tab : ∀ (s : List Pc) (T : Tab), GoodT T → (∀ p ∈ s, p.ok) → ∀ (e t : Nat), t < 24 → valT (s.foldl tabStep T) e t = valT T e t + (s.map fun p => chg p e t).sum
  | [], T, _, _, e, t, _ => by simp
  | p :: s, T, h, hs, e, t, ht => by
    have hp := hs p List.mem_cons_self
    have h1 := good_add h p.i (turnsZ p) 1
    have h2 : GoodT (tabStep T p) := good_add h1 p.o (turnsZ p) (-1)
    rw [List.foldl_cons, valT_tab s _ h2 (fun q hq => hs q (List.mem_cons_of_mem _ hq)) e t ht, List.map_cons, List.sum_cons]
    unfold tabStep
    rw [valT_add h1 hp _ _ _ ht, valT_add h hp _ _ _ ht]
    unfold chg
    have e1 : ((e : Int) = (p.i : Int)) ↔ e = p.i := by omega
    have e2 : ((e : Int) = (p.o : Int)) ↔ e = p.o := by omega
    simp only [e1, e2]
    by_cases ha : p.at t = true <;> by_cases h1 : e = p.i <;> by_cases h2 : e = p.o <;> simp [ha, h1, h2] <;> omega
theorem good_tab : ∀ (s : List Pc) (T : Tab), GoodT T → GoodT (s.foldl tabStep T)
  | [], T, h => h
  | p :: s, T, h => good_tab s _ (good_add (good_add h _ _ _) _ _ _)
theorem good_nil : GoodT [] := fun q h => by cases h
end DL.Pg

set_option Elab.async false
set_option linter.all false
set_option maxRecDepth 100000
namespace DL.Pg
open PySem DL
def rowOf (f : Nat → Int) : List Int := (List.range 24).map f
def rowD (r : List Int) : D := .lst (r.map D.int)
def bandD (q : Nat × Nat) : D := .tup [.int q.1, .int q.2]
theorem rowOf_len (f : Nat → Int) : (rowOf f).length = 24 := by simp [rowOf]
theorem rowOf_congr {f g : Nat → Int} (h : ∀ t, t < 24 → f t = g t) : rowOf f = rowOf g := List.map_congr_left fun t ht => h t (List.mem_range.mp ht)
theorem rowOf_row {r : List Int} (h : r.length = 24) : rowOf (fun t => r.getD t 0) = r := by
  refine List.ext_getElem (by rw [rowOf_len, h]) fun i h1 h2 => ?_
  simp [rowOf, h2]
theorem zip_rows (f g : Nat → Int) : List.zipWith (· + ·) (rowOf f) (rowOf g) = rowOf fun t => f t + g t := by
  unfold rowOf
  rw [List.zipWith_map]
  generalize List.range 24 = l
  induction l with
  | nil => rfl
  | cons a l ih => rw [List.zipWith_cons_cons, ih]; rfl
theorem look_tab : ∀ (T : Tab) (e : Int), lookD (T.map fun p => .int p.1) (T.map fun p => .lst (p.2.map D.int)) e = (T.lookup e).map fun r => .lst (r.map D.int)
  | [], e => rfl
  | (k, r) :: T, e => by
    rw [List.map_cons, List.map_cons, lookD, look_tab T e, List.lookup_cons]
    by_cases h : k = e
    · subst h; simp
    · have : (e == k) = false := by simpa using Ne.symm h
      rw [if_neg h, this]
theorem get_ev {o k x : ME} {δ : Ev} {T : Tab} {e : Int} (ho : o δ = some (dicOf T)) (hk : k δ = some (.int e)) (hx : x δ = some (rowD zeros)) : eGet2 o k x δ = some (rowD (rowL T e)) := by
  unfold eGet2
  rw [ho, hk, hx]
  simp only [Option.bind_some, dicOf]
  rw [look_tab]
  unfold rowL
  cases T.lookup e <;> rfl
theorem zeros_ev (δ : Ev) : eRep (eLst (aCons (eC (.int 0)) aNil)) (eC (.int 24)) δ = some (rowD zeros) := by
  unfold eRep
  simp [eLst, aCons, aNil, eC]
  rfl
theorem zipD_ints : ∀ (a b : List Int), zipD (a.map D.int) (b.map D.int) = (a.zip b).map fun p => D.tup [.int p.1, .int p.2]
  | [], _ => rfl
  | _ :: _, [] => rfl
  | x :: a, y :: b => by
    have := zipD_ints a b
    unfold zipD at this ⊢
    rw [List.map_cons, List.map_cons, List.zip_cons_cons, List.zip_cons_cons, List.map_cons, List.map_cons, this]
theorem comp_add {x y : ME} {δ : Ev} {a b : List Int} (hx : x δ = some (rowD a)) (hy : y δ = some (rowD b)) (hl : a.length ≤ 1000) : eComp 2 [] (iZip x y) (gT (gsCons (gN 0) (gsCons (gN 1) gsNil))) tT (eOp oAdd (eVar 0) (eVar 1)) δ = some (rowD (List.zipWith (· + ·) a b)) := by
  have hi : iZip x y δ = some ((a.zip b).map fun p => D.tup [.int p.1, .int p.2]) := by
    unfold iZip
    rw [hx, hy]
    simp only [Option.bind_some, rowD]
    rw [zipD_ints]
  refine (comp_ev (fun d => match d with | .tup [.int u, .int v] => some (.int (u + v)) | _ => none) hi (by simp; omega) fun d hd => ?_).trans ?_
  · obtain ⟨p, _, rfl⟩ := List.mem_map.mp hd
    exact ⟨[some (.int p.1), some (.int p.2)], rfl, .inl ⟨rfl, .int (p.1 + p.2), rfl, rfl⟩⟩
  · refine congrArg (fun l => some (D.lst l)) ?_
    clear hi hx hy hl
    induction a generalizing b with
    | nil => rfl
    | cons u a ih =>
      cases b with
      | nil => rfl
      | cons v b =>
        rw [List.zip_cons_cons, List.map_cons, List.filterMap_cons, List.zipWith_cons_cons, List.map_cons]
        simp only
        rw [ih]
def rowsL (T : Tab) : (Nat → Int) → List (Nat × Nat) → List (List Int)
  | _, [] => []
  | f, q :: qs => rowOf (fun t => f t + valT T q.1 t) :: rowsL T (fun t => f t + valT T q.1 t) qs
theorem rows_loop {T : Tab} (hT : GoodT T) (sh bd : D) : ∀ (qs : List (Nat × Nat)) (f : Nat → Int) (rs : List D) (x5 x6 : Option D), rs.length + qs.length ≤ 1000 → ∃ y4 y5 y6,
    forM (gN 5) b_depth_rows_1 (qs.map bandD) [some sh, some bd, some (dicOf T), none, some (rowD (rowOf f)), x5, x6, none, none, none, some (.lst rs), none, none, none] =
      some (.nx [some sh, some bd, some (dicOf T), none, y4, y5, y6, none, none, none, some (.lst (rs ++ (rowsL T f qs).map rowD)), none, none, none])
  | [], f, rs, x5, x6, _ => ⟨_, _, _, by rw [List.map_nil, forM, rowsL, List.map_nil, List.append_nil]⟩
  | q :: qs, f, rs, x5, x6, hl => by
    simp only [List.length_cons] at hl
    have e : b_depth_rows_1 [some sh, some bd, some (dicOf T), none, some (rowD (rowOf f)), some (bandD q), x6, none, none, none, some (.lst rs), none, none, none] =
        some (.nx [some sh, some bd, some (dicOf T), none, some (rowD (rowOf fun t => f t + valT T q.1 t)), some (bandD q), some (rowD (rowL T q.1)), none, none, none, some (.lst (rs ++ [rowD (rowOf fun t => f t + valT T q.1 t)])), none, none, none]) := by
      unfold b_depth_rows_1
      rw [seq_nx (asg_ev (get_ev (T := T) (e := q.1) rfl rfl (zeros_ev _)) rfl)]
      have hz : List.zipWith (· + ·) (rowOf f) (rowL T q.1) = rowOf fun t => f t + valT T q.1 t := by
        rw [← rowOf_row (rowL_len hT q.1), zip_rows]
        rfl
      rw [seq_nx (asg_ev ((comp_add (a := rowOf f) (b := rowL T q.1) rfl rfl (by rw [rowOf_len]; decide)).trans (by rw [hz])) rfl)]
      unfold sApp
      have : (rs.length < 16777216) := by omega
      simp [eVar, slot, gN, ownAt, this]
    obtain ⟨y4, y5, y6, ih⟩ := rows_loop hT sh bd qs (fun t => f t + valT T q.1 t) (rs ++ [rowD (rowOf fun t => f t + valT T q.1 t)]) (some (bandD q)) (some (rowD (rowL T q.1))) (by simp; omega)
    refine ⟨y4, y5, y6, ?_⟩
    rw [List.map_cons, forM]
    show (b_depth_rows_1 [some sh, some bd, some (dicOf T), none, some (rowD (rowOf f)), some (bandD q), x6, none, none, none, some (.lst rs), none, none, none]).bind _ = _
    rw [e]
    simp only [Option.bind_some]
    rw [ih, rowsL, List.map_cons, List.append_assoc]
    rfl
theorem r_rows {s : List Pc} (h : ∀ p ∈ s, p.ok) (hl : s.length ≤ 400000) {qs : List (Nat × Nat)} (hq : qs.length ≤ 1000) : m_depth_rows [shD s, .lst (qs.map bandD)] = some (.lst ((rowsL (tabOf s) (fun _ => 0) qs).map rowD)) := by
  have hz : rowD zeros = rowD (rowOf fun _ => 0) := rfl
  obtain ⟨y4, y5, y6, e⟩ := rows_loop (T := tabOf s) (good_tab s [] good_nil) (shD s) (.lst (qs.map bandD)) qs (fun _ => 0) [] none none (by simpa using hq)
  refine fn_ev rfl ?_
  show b_depth_rows [some (shD s), some (.lst (qs.map bandD)), none, none, none, none, none, none, none, none, none, none, none, none] = _
  unfold b_depth_rows
  rw [seq_nx (asg_ev ((call1_ev rfl).trans (r_changes h hl)) rfl)]
  rw [seq_nx (show sOwn 7 3 (eLst aNil) _ = some (.nx [some (shD s), some (.lst (qs.map bandD)), some (dicOf (tabOf s)), none, none, none, none, none, none, none, some (.lst []), none, none, none]) from rfl)]
  rw [seq_nx (asg_ev (δ' := [some (shD s), some (.lst (qs.map bandD)), some (dicOf (tabOf s)), none, some (rowD (rowOf fun _ => 0)), none, none, none, none, none, some (.lst []), none, none, none]) (zeros_ev _) rfl)]
  rw [seq_nx ((sfor_ev (xs := qs.map bandD) rfl).trans e)]
  rfl
end DL.Pg

set_option Elab.async false
set_option linter.all false
set_option maxRecDepth 100000
namespace DL.Pg
open PySem DL
def cumL (s : List Pc) (e t : Nat) : Int := (s.map fun p => if p.at t = true then ((if p.i < e then 1 else 0) - (if p.o < e then 1 else 0) : Int) else 0).sum
theorem num_step {i o e : Nat} (h : i < o) : ((if i < e then 1 else 0) - (if o < e then 1 else 0) : Int) + ((if e = i then 1 else 0) - (if e = o then 1 else 0)) = if i ≤ e ∧ e < o then 1 else 0 := by
  split <;> split <;> split <;> split <;> split <;> omega
theorem num_next {i o e e' : Nat} (h : i < o) (h1 : i < e' ↔ i ≤ e) (h2 : o < e' ↔ o ≤ e) : ((if i < e' then 1 else 0) - (if o < e' then 1 else 0) : Int) = if i ≤ e ∧ e < o then 1 else 0 := by
  split <;> split <;> split <;> omega
theorem cum_step {s : List Pc} (h : ∀ p ∈ s, p.ok) (e t : Nat) : cumL s e t + (s.map fun p => chg p e t).sum = (dep s e t : Int) := by
  unfold cumL dep
  induction s with
  | nil => rfl
  | cons p s ih =>
    have ih' := ih fun q hq => h q (List.mem_cons_of_mem _ hq)
    have hp := (h p List.mem_cons_self).1
    rw [List.map_cons, List.map_cons, List.sum_cons, List.sum_cons, List.countP_cons, Int.natCast_add, ← ih']
    have : (if p.at t = true then ((if p.i < e then 1 else 0) - (if p.o < e then 1 else 0) : Int) else 0) + chg p e t = ((if p.has e t = true then 1 else 0 : Nat) : Int) := by
      unfold chg Pc.has
      cases ha : p.at t
      · simp
      · simp only [if_true, Bool.and_true, Bool.and_eq_true, decide_eq_true_eq]
        rw [num_step hp]
        split <;> rfl
    omega
theorem cum_next {s : List Pc} {e e' : Nat} (h : ∀ p ∈ s, p.i < p.o ∧ (p.i < e' ↔ p.i ≤ e) ∧ (p.o < e' ↔ p.o ≤ e)) (t : Nat) : cumL s e' t = (dep s e t : Int) := by
  unfold cumL dep
  induction s with
  | nil => rfl
  | cons p s ih =>
    obtain ⟨h0, h1, h2⟩ := h p List.mem_cons_self
    rw [List.map_cons, List.sum_cons, List.countP_cons, Int.natCast_add, ih fun q hq => h q (List.mem_cons_of_mem _ hq)]
    have : (if p.at t = true then ((if p.i < e' then 1 else 0) - (if p.o < e' then 1 else 0) : Int) else 0) = ((if p.has e t = true then 1 else 0 : Nat) : Int) := by
      unfold Pc.has
      cases ha : p.at t
      · simp
      · simp only [if_true, Bool.and_true, Bool.and_eq_true, decide_eq_true_eq]
        rw [num_next h0 h1 h2]
        split <;> rfl
    omega
def Left (s : List Pc) (e : Nat) (es : List Nat) : Prop := ∀ p ∈ s, (p.i < e ∨ p.i ∈ e :: es) ∧ (p.o < e ∨ p.o ∈ e :: es)
theorem Left.next {s : List Pc} {e e' : Nat} {es : List Nat} (h : Left s e (e' :: es)) (hs : (e :: e' :: es).Pairwise (· < ·)) : Left s e' es := by
  have hlt : e < e' := (List.pairwise_cons.mp hs).1 e' List.mem_cons_self
  have key : ∀ x, x < e ∨ x ∈ e :: e' :: es → x < e' ∨ x ∈ e' :: es := fun x hx => by
    rcases hx with hx | hx
    · exact .inl (by omega)
    · rcases List.mem_cons.mp hx with rfl | hx
      · exact .inl hlt
      · exact .inr hx
  exact fun p hp => ⟨key _ (h p hp).1, key _ (h p hp).2⟩
theorem Left.iff {s : List Pc} {e e' : Nat} {es : List Nat} (h : Left s e (e' :: es)) (hs : (e :: e' :: es).Pairwise (· < ·)) : ∀ p ∈ s, (p.i < e' ↔ p.i ≤ e) ∧ (p.o < e' ↔ p.o ≤ e) := by
  have hlt : e < e' := (List.pairwise_cons.mp hs).1 e' List.mem_cons_self
  have h2 := (List.pairwise_cons.mp (List.pairwise_cons.mp hs).2).1
  have key : ∀ x, x < e ∨ x ∈ e :: e' :: es → (x < e' ↔ x ≤ e) := fun x hx => by
    rcases hx with hx | hx
    · omega
    · rcases List.mem_cons.mp hx with rfl | hx
      · omega
      · rcases List.mem_cons.mp hx with rfl | hx
        · omega
        · have := h2 x hx
          omega
  exact fun p hp => ⟨key _ (h p hp).1, key _ (h p hp).2⟩
def depRow (s : List Pc) (e : Nat) : List Int := rowOf fun t => (dep s e t : Int)
theorem rows_sem {s : List Pc} (h : ∀ p ∈ s, p.ok) : ∀ (es : List Nat) (e : Nat) (f : Nat → Int), (e :: es).Pairwise (· < ·) → Left s e es → (∀ t, t < 24 → f t = cumL s e t) →
    rowsL (tabOf s) f ((e :: es).zip es) = ((e :: es).zip es).map fun q => depRow s q.1
  | [], e, f, _, _, _ => rfl
  | e' :: es, e, f, hs, hL, hf => by
    have hrow : ∀ t, t < 24 → f t + valT (tabOf s) e t = (dep s e t : Int) := fun t ht => by
      rw [hf t ht]
      unfold tabOf
      rw [valT_tab s [] good_nil h e t ht, ← cum_step h e t]
      have : valT [] (e : Int) t = 0 := by
        unfold valT rowL zeros
        rw [List.lookup_nil, Option.getD_none, List.getD_eq_getElem?_getD, List.getElem?_replicate]
        split <;> rfl
      omega
    rw [List.zip_cons_cons, rowsL, List.map_cons]
    simp only
    rw [rowOf_congr hrow, rows_sem h es e' (fun t => f t + valT (tabOf s) e t) (List.pairwise_cons.mp hs).2 (hL.next hs) fun t ht => ?_]
    · rfl
    · rw [hrow t ht]
      exact (cum_next (fun p hp => ⟨(h p hp).1, hL.iff hs p hp⟩) t).symm
def fars (s : List Pc) : List Nat := 0 :: s.flatMap fun p => [p.i, p.o]
def edges (s : List Pc) : List Nat := (List.range 1001).filter fun r => decide (r ∈ fars s)
theorem edges_sorted (s : List Pc) : (edges s).Pairwise (· < ·) := List.pairwise_lt_range.filter _
theorem mem_edges {s : List Pc} (h : ∀ p ∈ s, p.ok) (x : Nat) : x ∈ edges s ↔ x ∈ fars s := by
  unfold edges
  rw [List.mem_filter, List.mem_range, decide_eq_true_eq]
  refine ⟨fun z => z.2, fun z => ⟨?_, z⟩⟩
  unfold fars at z
  rcases List.mem_cons.mp z with rfl | z
  · decide
  · obtain ⟨p, hp, hx⟩ := List.mem_flatMap.mp z
    have := h p hp
    have h1 := this.1
    have h2 := this.2.1
    simp only [List.mem_cons, List.not_mem_nil, or_false] at hx
    omega
theorem insK_mem (ks : List Int) (n x : Int) : x ∈ insK ks n ↔ x ∈ ks ∨ x = n := by
  unfold insK
  split
  · rename_i h
    exact ⟨.inl, fun z => z.elim id fun e => e ▸ h⟩
  · simp
theorem insK_nodup {ks : List Int} (h : ks.Nodup) (n : Int) : (insK ks n).Nodup := by
  unfold insK
  split
  · exact h
  · rename_i hn
    rw [List.nodup_append]
    exact ⟨h, by simp, fun a ha b hb e => hn (by rw [List.mem_singleton.mp hb] at e; exact e ▸ ha)⟩
theorem dedup_all : ∀ (l ks : List Int), ks.Nodup → (l.foldl insK ks).Nodup ∧ ∀ x, x ∈ l.foldl insK ks ↔ x ∈ ks ∨ x ∈ l
  | [], ks, h => ⟨h, fun x => by simp⟩
  | n :: l, ks, h => by
    obtain ⟨h1, h2⟩ := dedup_all l (insK ks n) (insK_nodup h n)
    refine ⟨h1, fun x => ?_⟩
    rw [List.foldl_cons, h2, insK_mem, List.mem_cons, or_assoc]
theorem sort_uniq {a b : List Int} (hp : a.Perm b) (ha : a.Pairwise (· ≤ ·)) (hb : b.Pairwise (· ≤ ·)) : a = b :=
  hp.eq_of_pairwise (fun x y _ _ h1 h2 => Int.le_antisymm h1 h2) ha hb
theorem sortI_sorted (ks : List Int) : (sortI ks).Pairwise (· ≤ ·) := by
  have := List.pairwise_mergeSort (le := fun a b : Int => decide (a ≤ b)) (fun a b c h1 h2 => by simp only [decide_eq_true_eq] at *; omega) (fun a b => by simp only [Bool.or_eq_true, decide_eq_true_eq]; omega) ks
  exact this.imp fun h => by simpa using h
theorem sort_edges {s : List Pc} (h : ∀ p ∈ s, p.ok) : sortI (((fars s).map fun (n : Nat) => (n : Int)).foldl insK []) = (edges s).map fun (n : Nat) => (n : Int) := by
  obtain ⟨n1, n2⟩ := dedup_all ((fars s).map fun (n : Nat) => (n : Int)) [] List.nodup_nil
  have hs : ((edges s).map fun (n : Nat) => (n : Int)).Pairwise (· < ·) := by
    rw [List.pairwise_map]
    exact (edges_sorted s).imp fun z => by omega
  refine sort_uniq ?_ (sortI_sorted _) (hs.imp fun z => by omega)
  refine (List.mergeSort_perm _ _).trans ?_
  refine (List.perm_ext_iff_of_nodup n1 (hs.imp fun z => by omega)).mpr fun x => ?_
  rw [n2]
  simp only [List.not_mem_nil, false_or, List.mem_map, mem_edges h]
end DL.Pg

set_option Elab.async false
set_option linter.all false
set_option maxRecDepth 100000
namespace DL.Pg
open PySem DL
def natD (E : List Nat) : List D := E.map fun (n : Nat) => D.int (n : Int)
theorem ints_nat (E : List Nat) : intsOf (natD E) = some (E.map fun (n : Nat) => (n : Int)) := by
  have : natD E = (E.map fun (n : Nat) => (n : Int)).map D.int := by unfold natD; rw [List.map_map]; rfl
  rw [this, ints_map]
theorem edges_loop (sh : D) : ∀ (s : List Pc) (ds : List D) (x2 : Option D), (∀ p ∈ s, p.ok) → ds.length + 2 * s.length ≤ 10000 → ∃ y2,
    forM (gN 2) b_edges_of_1 (s.map pD) [some sh, none, x2, none, some (.lst ds), none] = some (.nx [some sh, none, y2, none, some (.lst (ds ++ natD (s.flatMap fun p => [p.i, p.o]))), none])
  | [], ds, x2, _, _ => ⟨x2, by simp [forM, natD]⟩
  | p :: s, ds, x2, h, hl => by
    simp only [List.length_cons] at hl
    have e : b_edges_of_1 [some sh, none, some (pD p), none, some (.lst ds), none] = some (.nx [some sh, none, some (pD p), none, some (.lst (ds ++ [.int p.i, .int p.o])), none]) := by
      unfold b_edges_of_1 sExt
      rw [call1_ev (x := pD p) rfl, r_span (h p List.mem_cons_self)]
      have : ds.length + 2 ≤ 16777216 := by omega
      simp [ownAt, slot, this]
    obtain ⟨y2, ih⟩ := edges_loop sh s (ds ++ [.int p.i, .int p.o]) (some (pD p)) (fun q hq => h q (List.mem_cons_of_mem _ hq)) (by simp; omega)
    refine ⟨y2, ?_⟩
    rw [List.map_cons, forM]
    show (b_edges_of_1 [some sh, none, some (pD p), none, some (.lst ds), none]).bind _ = _
    rw [e]
    simp only [Option.bind_some]
    rw [ih]
    simp [natD]
theorem r_edges {s : List Pc} (h : ∀ p ∈ s, p.ok) (hl : s.length ≤ 1000) (he : (edges s).length < 64) : m_edges_of [shD s] = some (.lst (natD (edges s))) := by
  obtain ⟨y2, e⟩ := edges_loop (shD s) s [.int 0] none h (by simp; omega)
  refine fn_ev rfl ?_
  show b_edges_of [some (shD s), none, none, none, none, none] = _
  unfold b_edges_of
  rw [seq_nx (show sOwn 3 1 (eLst (aCons (eC (.int 0)) aNil)) _ = some (.nx [some (shD s), none, none, none, some (.lst [.int 0]), none]) from rfl)]
  rw [seq_nx ((sfor_ev (xs := s.map pD) rfl).trans e)]
  have ef : [D.int 0] ++ natD (s.flatMap fun p => [p.i, p.o]) = natD (fars s) := rfl
  rw [ef]
  show sRet (eUn uSortSet (eVar 1)) [some (shD s), some (.lst (natD (fars s))), y2, none, none, none] = _
  refine ret_ev ((un_ev (x := .lst (natD (fars s))) rfl).trans ?_)
  unfold uSortSet
  simp only
  rw [ints_nat]
  simp only [Option.bind_some]
  have hs := sort_edges h
  have h1 : ((fars s).map fun (n : Nat) => (n : Int)).length + 1 < 4096 := by
    unfold fars
    simp
    have : (s.flatMap fun p => [p.i, p.o]).length = 2 * s.length := by
      clear h hl he e ef hs
      induction s with
      | nil => rfl
      | cons p s ih => rw [List.flatMap_cons, List.length_append, ih]; simp; omega
    simp at this
    omega
  have h2 : (((fars s).map fun (n : Nat) => (n : Int)).foldl insK []).length < 64 := by
    have := congrArg List.length hs
    rw [List.length_map] at this
    unfold sortI at this
    rw [List.length_mergeSort] at this
    omega
  rw [if_pos ⟨h1, h2⟩, hs]
  unfold natD
  rw [List.map_map]
  rfl
def bands (E : List Nat) : List (Nat × Nat) := E.zip E.tail
theorem zip_nat : ∀ (E F : List Nat), zipD (natD E) (natD F) = (E.zip F).map bandD
  | [], _ => rfl
  | _ :: _, [] => rfl
  | a :: E, b :: F => by
    have := zip_nat E F
    unfold zipD natD at this ⊢
    rw [List.map_cons, List.map_cons, List.zip_cons_cons, List.zip_cons_cons, List.map_cons, List.map_cons, this]
    rfl
theorem r_bands {E : List Nat} (hl : E.length ≤ 1000) : m_bands_between [.lst (natD E)] = some (.lst ((bands E).map bandD)) := by
  refine fn_ev rfl ?_
  show b_bands_between [some (.lst (natD E))] = _
  unfold b_bands_between
  refine ret_ev ?_
  unfold eListZip iZip
  have e : eUn (uFrom 1) (eVar 0) [some (.lst (natD E))] = some (.lst (natD E.tail)) := by
    show some (D.lst ((natD E).drop 1)) = _
    rw [show (natD E).drop 1 = natD E.tail by cases E <;> rfl]
  rw [e, show eVar 0 [some (.lst (natD E))] = some (.lst (natD E)) from rfl]
  simp only [Option.bind_some]
  rw [zip_nat]
  have : ((E.zip E.tail).map bandD).length ≤ 16777216 := by simp; omega
  rw [if_pos this]
  rfl
def ar (q : Nat × Nat) : Int := (q.2 : Int) * q.2 - (q.1 : Int) * q.1
theorem small_nat {n : Nat} (h : n ≤ 1000) : small (n : Int) = true := by
  unfold small
  simp only [Bool.and_eq_true, decide_eq_true_eq]
  omega
theorem mul_small {i j : Int} (h : small j = true) : oMul (.int i) (.int j) = some (.int (i * j)) := by
  simp [oMul, h]
theorem rep_ev {a b : ME} {δ : Ev} {ds : List D} {k : Int} (ha : a δ = some (.lst ds)) (hb : b δ = some (.int k)) (h : -9223372036854775808 ≤ k ∧ k < 9223372036854775808 ∧ ds.length * k.toNat ≤ 16777216) : eRep a b δ = some (.lst (List.replicate k.toNat ds).flatten) := by
  unfold eRep
  rw [ha, hb]
  simp only [Option.bind_some]
  rw [if_pos h]
theorem cell_area {a b : Int} (ha : small a = true) (hb : small b = true) : m_cell_area [.tup [.int a, .int b]] = some (.int (b * b - a * a)) := by
  refine fn_ev rfl ?_
  show b_cell_area [some (.tup [.int a, .int b])] = _
  unfold b_cell_area
  refine ret_ev ((op_ev ((op_ev (x := .int b) (y := .int b) rfl rfl).trans (mul_small hb)) ((op_ev (x := .int a) (y := .int a) rfl rfl).trans (mul_small ha))).trans rfl)
theorem r_cell_area {q : Nat × Nat} (h1 : q.1 ≤ 1000) (h2 : q.2 ≤ 1000) : m_cell_area [bandD q] = some (.int (ar q)) := cell_area (small_nat h1) (small_nat h2)
theorem areas_row (sh bd bn rw' : D) (A : Int) (hA : m_cell_area [bn] = some (.int A)) : ∀ (row hs : List Int) (x5 : Option D), (∀ z ∈ row, 0 ≤ z ∧ z < hs.length) → ∃ y5,
    forM (gN 5) b_depth_areas_2 (row.map D.int) [some sh, none, some bd, some bn, some rw', x5, none, some (.lst (hs.map D.int)), none, none, none, none] =
      some (.nx [some sh, none, some bd, some bn, some rw', y5, none, some (.lst ((addRow hs row A).map D.int)), none, none, none, none])
  | [], hs, x5, _ => ⟨x5, rfl⟩
  | z :: row, hs, x5, h => by
    obtain ⟨z0, z1⟩ := h z List.mem_cons_self
    have hz : z.toNat < hs.length := by omega
    have e : b_depth_areas_2 [some sh, none, some bd, some bn, some rw', some (.int z), none, some (.lst (hs.map D.int)), none, none, none, none] =
        some (.nx [some sh, none, some bd, some bn, some rw', some (.int z), none, some (.lst ((hs.set z.toNat (hs.getD z.toNat 0 + A)).map D.int)), none, none, none, none]) := by
      unfold b_depth_areas_2 sAugL
      rw [show eVar 5 [some sh, none, some bd, some bn, some rw', some (.int z), none, some (.lst (hs.map D.int)), none, none, none, none] = some (.int z) from rfl, call1_ev (x := bn) rfl, hA]
      have hi : ixD (hs.map D.int).length z = some z.toNat := by
        unfold ixD
        rw [List.length_map, if_pos z0, if_pos (by omega)]
      have hg : (hs.map D.int)[z.toNat]? = some (.int (hs.getD z.toNat 0)) := by
        rw [List.getElem?_map, List.getElem?_eq_getElem hz]
        simp [hz]
      simp only [Option.bind_some]
      rw [show ownAt 6 1 [some sh, none, some bd, some bn, some rw', some (.int z), none, some (.lst (hs.map D.int)), none, none, none, none] = some (.lst (hs.map D.int)) from rfl]
      simp only
      rw [hi]
      simp only [Option.bind_some]
      rw [hg]
      simp only [Option.bind_some]
      rw [List.map_set]
      rfl
    obtain ⟨y5, ih⟩ := areas_row sh bd bn rw' A hA row (hs.set z.toNat (hs.getD z.toNat 0 + A)) (some (.int z)) fun y hy => by rw [List.length_set]; exact h y (List.mem_cons_of_mem _ hy)
    refine ⟨y5, ?_⟩
    rw [List.map_cons, forM]
    show (b_depth_areas_2 [some sh, none, some bd, some bn, some rw', some (.int z), none, some (.lst (hs.map D.int)), none, none, none, none]).bind _ = _
    rw [e]
    simp only [Option.bind_some]
    rw [ih]
    rfl
theorem for_cons {g : MG} {body : MS} {x : D} {xs : List D} {δ δ1 δ2 : Ev} (hg : g x δ = some δ1) (hb : body δ1 = some (.nx δ2)) : forM g body (x :: xs) δ = forM g body xs δ2 := by
  rw [forM, hg]
  simp only [Option.bind_some]
  rw [hb]
  rfl
def areasF (s : List Pc) (hs : List Int) (qs : List (Nat × Nat)) : List Int := qs.foldl (fun hs q => addRow hs (depRow s q.1) (ar q)) hs
theorem areasF_cons (s : List Pc) (hs : List Int) (q : Nat × Nat) (qs : List (Nat × Nat)) : areasF s hs (q :: qs) = areasF s (addRow hs (depRow s q.1) (ar q)) qs := by
  unfold areasF
  rw [List.foldl_cons]
theorem depRow_in {s : List Pc} {e : Nat} : ∀ z ∈ depRow s e, 0 ≤ z ∧ z < s.length + 1 := fun z hz => by
  unfold depRow rowOf at hz
  obtain ⟨t, _, rfl⟩ := List.mem_map.mp hz
  have : dep s e t ≤ s.length := List.countP_le_length
  omega
theorem areas_loop (s : List Pc) (sh bd : D) : ∀ (qs : List (Nat × Nat)) (hs : List Int) (x3 x4 x5 : Option D), hs.length = s.length + 1 → (∀ q ∈ qs, q.1 ≤ 1000 ∧ q.2 ≤ 1000) → ∃ y3 y4 y5,
    forM (gT (gsCons (gN 3) (gsCons (gN 4) gsNil))) b_depth_areas_1 (qs.map fun q => .tup [bandD q, rowD (depRow s q.1)]) [some sh, none, some bd, x3, x4, x5, none, some (.lst (hs.map D.int)), none, none, none, none] =
      some (.nx [some sh, none, some bd, y3, y4, y5, none, some (.lst ((areasF s hs qs).map D.int)), none, none, none, none])
  | [], hs, x3, x4, x5, _, _ => ⟨x3, x4, x5, rfl⟩
  | q :: qs, hs, x3, x4, x5, hl, hq => by
    obtain ⟨q1, q2⟩ := hq q List.mem_cons_self
    obtain ⟨z5, e⟩ := areas_row sh bd (bandD q) (rowD (depRow s q.1)) (ar q) (r_cell_area q1 q2) (depRow s q.1) hs x5 fun z hz => by have := depRow_in z hz; omega
    obtain ⟨y3, y4, y5, ih⟩ := areas_loop s sh bd qs (addRow hs (depRow s q.1) (ar q)) (some (bandD q)) (some (rowD (depRow s q.1))) z5 (by rw [addRow_len, hl]) fun p hp => hq p (List.mem_cons_of_mem _ hp)
    refine ⟨y3, y4, y5, ?_⟩
    have eb : b_depth_areas_1 [some sh, none, some bd, some (bandD q), some (rowD (depRow s q.1)), x5, none, some (.lst (hs.map D.int)), none, none, none, none] = _ := (sfor_ev (xs := (depRow s q.1).map D.int) rfl).trans e
    rw [List.map_cons, for_cons (δ1 := [some sh, none, some bd, some (bandD q), some (rowD (depRow s q.1)), x5, none, some (.lst (hs.map D.int)), none, none, none, none]) rfl eb, areasF_cons]
    exact ih
theorem zip_self {α : Type} : ∀ l : List α, l.zip l = l.map fun q => (q, q)
  | [] => rfl
  | a :: l => by rw [List.zip_cons_cons, zip_self l, List.map_cons]
theorem edges_head (s : List Pc) : ∃ es, edges s = 0 :: es := by
  unfold edges
  rw [List.range_succ_eq_map, List.filter_cons_of_pos (by unfold fars; simp)]
  exact ⟨_, rfl⟩
theorem rows_edges {s : List Pc} (h : ∀ p ∈ s, p.ok) : rowsL (tabOf s) (fun _ => 0) (bands (edges s)) = (bands (edges s)).map fun q => depRow s q.1 := by
  obtain ⟨es, e⟩ := edges_head s
  have hs := edges_sorted s
  have hm := mem_edges h
  unfold bands
  rw [e] at hs hm ⊢
  refine rows_sem h es 0 _ hs (fun p hp => ?_) fun t _ => ?_
  · have : ∀ x, x ∈ [p.i, p.o] → x ∈ fars s := fun x hx => List.mem_cons_of_mem _ (List.mem_flatMap.mpr ⟨p, hp, hx⟩)
    exact ⟨.inr ((hm _).mpr (this _ (by simp))), .inr ((hm _).mpr (this _ (by simp)))⟩
  · unfold cumL
    have : ∀ l : List Pc, (l.map fun p => if p.at t = true then ((if p.i < 0 then 1 else 0) - (if p.o < 0 then 1 else 0) : Int) else 0).sum = 0 := fun l => by
      induction l with
      | nil => rfl
      | cons p l ih => rw [List.map_cons, List.sum_cons, ih]; simp
    exact (this s).symm
theorem edges_le {s : List Pc} {x : Nat} (hx : x ∈ edges s) : x ≤ 1000 := by
  unfold edges at hx
  have := List.mem_range.mp (List.mem_filter.mp hx).1
  omega
theorem bands_le {s : List Pc} : ∀ q ∈ bands (edges s), q.1 ≤ 1000 ∧ q.2 ≤ 1000 := fun q hq => by
  have := List.of_mem_zip hq
  exact ⟨edges_le this.1, edges_le (List.mem_of_mem_tail this.2)⟩
def areasL (s : List Pc) : List Int := areasF s (List.replicate (s.length + 1) 0) (bands (edges s))
theorem r_depth_areas {s : List Pc} (h : ∀ p ∈ s, p.ok) (hl : s.length ≤ 1000) (he : (edges s).length < 64) : m_depth_areas [shD s] = some (.tup ((areasL s).tail.map D.int)) := by
  have hbl : (bands (edges s)).length ≤ 1000 := by unfold bands; simp; omega
  obtain ⟨y3, y4, y5, e⟩ := areas_loop s (shD s) (.lst ((bands (edges s)).map bandD)) (bands (edges s)) (List.replicate (s.length + 1) 0) none none none (by simp) bands_le
  refine fn_ev rfl ?_
  show b_depth_areas [some (shD s), none, none, none, none, none, none, none, none, none, none, none] = _
  unfold b_depth_areas
  have e0 : sOwn 6 1 (eRep (eLst (aCons (eC (.int 0)) aNil)) (eOp oAdd (eCall fLen (aCons (eVar 0) aNil)) (eC (.int 1)))) [some (shD s), none, none, none, none, none, none, none, none, none, none, none] =
      some (.nx [some (shD s), none, none, none, none, none, none, some (.lst ((List.replicate (s.length + 1) (0 : Int)).map D.int)), none, none, none, none]) := by
    have er : eRep (eLst (aCons (eC (.int 0)) aNil)) (eOp oAdd (eCall fLen (aCons (eVar 0) aNil)) (eC (.int 1))) [some (shD s), none, none, none, none, none, none, none, none, none, none, none] = some (.lst ((List.replicate (s.length + 1) (0 : Int)).map D.int)) := by
      have e1 : eOp oAdd (eCall fLen (aCons (eVar 0) aNil)) (eC (.int 1)) [some (shD s), none, none, none, none, none, none, none, none, none, none, none] = some (.int ((s.length + 1 : Nat) : Int)) := by
        rw [op_ev (x := .int (s.length : Nat)) (y := .int 1) ((call1_ev (x := shD s) rfl).trans (by unfold shD fLen; simp)) rfl]
        simp [oAdd]
      refine (rep_ev (ds := [.int 0]) rfl e1 ⟨by omega, by omega, ?_⟩).trans ?_
      · rw [Int.toNat_natCast]
        simp
        omega
      rw [Int.toNat_natCast]
      have : ∀ n, (List.replicate n [D.int 0]).flatten = (List.replicate n (0 : Int)).map D.int := fun n => by
        induction n with
        | zero => rfl
        | succ n ih => rw [List.replicate_succ, List.flatten_cons, ih, List.replicate_succ, List.map_cons]; rfl
      rw [this]
    unfold sOwn
    rw [er]
    rfl
  rw [seq_nx e0]
  rw [seq_nx (asg_ev (δ' := [some (shD s), none, some (.lst ((bands (edges s)).map bandD)), none, none, none, none, some (.lst ((List.replicate (s.length + 1) (0 : Int)).map D.int)), none, none, none, none]) ((call1_ev ((call1_ev (x := shD s) rfl).trans (r_edges h hl he))).trans (r_bands (by omega))) rfl)]
  have hz : iZip (eVar 2) (eCall m_depth_rows (aCons (eVar 0) (aCons (eVar 2) aNil))) [some (shD s), none, some (.lst ((bands (edges s)).map bandD)), none, none, none, none, some (.lst ((List.replicate (s.length + 1) (0 : Int)).map D.int)), none, none, none, none] =
      some ((bands (edges s)).map fun q => .tup [bandD q, rowD (depRow s q.1)]) := by
    unfold iZip
    rw [call2_ev (x := shD s) (y := .lst ((bands (edges s)).map bandD)) rfl rfl, r_rows h (by omega) hbl, rows_edges h, show eVar 2 [some (shD s), none, some (.lst ((bands (edges s)).map bandD)), none, none, none, none, some (.lst ((List.replicate (s.length + 1) (0 : Int)).map D.int)), none, none, none, none] = some (.lst ((bands (edges s)).map bandD)) from rfl]
    simp only [Option.bind_some]
    unfold zipD
    rw [List.map_map, List.zip_map, zip_self, List.map_map, List.map_map]
    rfl
  rw [seq_nx ((sfor_ev hz).trans e)]
  show sRet _ [some (shD s), some (.lst ((areasL s).map D.int)), _, y3, y4, y5, none, none, none, none, none, none] = _
  refine ret_ev ((call1_ev (x := .lst (((areasL s).map D.int).drop 1)) ((un_ev (f := uFrom 1) (x := .lst ((areasL s).map D.int)) rfl).trans rfl)).trans ?_)
  show some (D.tup (((areasL s).map D.int).drop 1)) = _
  rw [← List.map_drop, List.drop_one]
end DL.Pg

set_option Elab.async false
set_option linter.all false
set_option maxRecDepth 100000
namespace DL.Pg
open PySem DL
def cnt (s : List Pc) (r k : Nat) : Nat := (depRow s r).count (k : Int)
theorem areasF_len (s : List Pc) : ∀ (qs : List (Nat × Nat)) (hs : List Int), (areasF s hs qs).length = hs.length
  | [], _ => rfl
  | q :: qs, hs => by rw [areasF_cons, areasF_len s qs, addRow_len]
theorem areasF_get (s : List Pc) (k : Nat) : ∀ (qs : List (Nat × Nat)) (hs : List Int), hs.length = s.length + 1 → (areasF s hs qs).getD k 0 = hs.getD k 0 + (qs.map fun q => ar q * (cnt s q.1 k : Int)).sum
  | [], hs, _ => by simp [areasF]
  | q :: qs, hs, hl => by
    rw [areasF_cons, areasF_get s k qs _ (by rw [addRow_len, hl]), addRow_get (ar q) _ _ k fun z hz => by have := depRow_in z hz; omega, List.map_cons, List.sum_cons]
    unfold cnt
    omega
theorem dep_same {s : List Pc} {a r : Nat} (h : ∀ p ∈ s, (p.i ≤ r ↔ p.i ≤ a) ∧ (r < p.o ↔ a < p.o)) (t : Nat) : dep s r t = dep s a t := by
  unfold dep
  refine List.countP_congr fun p hp => ?_
  obtain ⟨h1, h2⟩ := h p hp
  unfold Pc.has
  simp only [Bool.and_eq_true, decide_eq_true_eq, h1, h2]
theorem row_same {s : List Pc} {a r : Nat} (h : ∀ p ∈ s, (p.i ≤ r ↔ p.i ≤ a) ∧ (r < p.o ↔ a < p.o)) : depRow s r = depRow s a := rowOf_congr fun t _ => by rw [dep_same h t]
theorem dep_zero {s : List Pc} {r : Nat} (h : ∀ p ∈ s, p.o ≤ r) (t : Nat) : dep s r t = 0 := by
  unfold dep
  rw [List.countP_eq_zero]
  intro p hp
  have := h p hp
  unfold Pc.has
  have h2 : decide (r < p.o) = false := by simp; omega
  simp [h2]
theorem cnt_zero {s : List Pc} {r k : Nat} (h : ∀ p ∈ s, p.o ≤ r) (hk : 1 ≤ k) : cnt s r k = 0 := by
  unfold cnt depRow rowOf
  rw [List.count_eq_zero]
  intro hm
  obtain ⟨t, _, e⟩ := List.mem_map.mp hm
  rw [dep_zero h t] at e
  omega
theorem sq_sum (c : Int) : ∀ (n e : Nat), ((List.range' e n).map fun (r : Nat) => (2 * (r : Int) + 1) * c).sum = (((e + n : Nat) : Int) * (e + n : Nat) - (e : Int) * e) * c
  | 0, e => by simp
  | n + 1, e => by
    rw [List.range'_succ, List.map_cons, List.sum_cons, sq_sum c n (e + 1)]
    have h1 : (((e + 1 + n : Nat) : Int)) = (e : Int) + 1 + n := by omega
    have h2 : (((e + (n + 1) : Nat) : Int)) = (e : Int) + 1 + n := by omega
    have h3 : (((e + 1 : Nat) : Int)) = (e : Int) + 1 := by omega
    rw [h1, h2, h3]
    have : ((e : Int) + 1) * ((e : Int) + 1) = (e : Int) * e + 2 * e + 1 := by rw [Int.add_mul, Int.mul_add]; omega
    rw [this, ← Int.add_mul]
    congr 1
    omega
theorem tele {s : List Pc} (h : ∀ p ∈ s, p.i < p.o) {k : Nat} (hk : 1 ≤ k) (R : Nat) : ∀ (es : List Nat) (e : Nat), (e :: es).Pairwise (· < ·) → Left s e es → (∀ x ∈ e :: es, x ≤ R) →
    (((e :: es).zip es).map fun q => ar q * (cnt s q.1 k : Int)).sum = ((List.range' e (R - e)).map fun (r : Nat) => (2 * (r : Int) + 1) * (cnt s r k : Int)).sum
  | [], e, _, hL, hR => by
    have : ∀ l : List Nat, (∀ r ∈ l, e ≤ r) → (l.map fun (r : Nat) => (2 * (r : Int) + 1) * (cnt s r k : Int)).sum = 0 := fun l hl => by
      induction l with
      | nil => rfl
      | cons r l ih =>
        rw [List.map_cons, List.sum_cons, ih fun x hx => hl x (List.mem_cons_of_mem _ hx), cnt_zero (fun p hp => ?_) hk]
        · simp
        · have := hl r List.mem_cons_self
          rcases (hL p hp).2 with z | z
          · omega
          · rw [List.mem_singleton] at z
            omega
    rw [this _ fun r hr => by rw [List.mem_range'_1] at hr; exact hr.1]
    rfl
  | e' :: es, e, hs, hL, hR => by
    have hlt : e < e' := (List.pairwise_cons.mp hs).1 e' List.mem_cons_self
    have hR' := hR e' (by simp)
    have split : List.range' e (R - e) = List.range' e (e' - e) ++ List.range' e' (R - e') := by
      have := List.range'_append_1 (s := e) (m := e' - e) (n := R - e')
      rw [show e + (e' - e) = e' by omega, show (e' - e) + (R - e') = R - e by omega] at this
      exact this.symm
    rw [List.zip_cons_cons, List.map_cons, List.sum_cons, tele h hk R es e' (List.pairwise_cons.mp hs).2 (hL.next hs) fun x hx => hR x (List.mem_cons_of_mem _ hx), split, List.map_append, List.sum_append]
    congr 1
    have hc : (List.range' e (e' - e)).map (fun (r : Nat) => (2 * (r : Int) + 1) * (cnt s r k : Int)) = (List.range' e (e' - e)).map fun (r : Nat) => (2 * (r : Int) + 1) * (cnt s e k : Int) := by
      refine List.map_congr_left fun r hr => ?_
      rw [List.mem_range'_1] at hr
      have : cnt s r k = cnt s e k := by
        unfold cnt
        rw [row_same fun p hp => ?_]
        obtain ⟨h1, h2⟩ := hL.iff hs p hp
        have := h p hp
        omega
      rw [this]
    rw [hc, sq_sum, show e + (e' - e) = e' by omega]
    rfl
def da (s : List Pc) (R k : Nat) : Int := ((List.range R).map fun (r : Nat) => (2 * (r : Int) + 1) * (cnt s r k : Int)).sum
theorem areas_eq {s : List Pc} (h : ∀ p ∈ s, p.ok) {R : Nat} (hR : ∀ p ∈ s, p.o ≤ R) : (areasL s).tail = (List.range s.length).map fun k => da s R (k + 1) := by
  have hlen : (areasL s).length = s.length + 1 := by unfold areasL; rw [areasF_len]; simp
  refine List.ext_getElem (by simp [hlen]) fun k h1 h2 => ?_
  have hk : k < s.length := by simpa using h2
  obtain ⟨es, e⟩ := edges_head s
  have hs := edges_sorted s
  have hm := mem_edges h
  have g : (areasL s).getD (k + 1) 0 = da s R (k + 1) := by
    unfold areasL da bands
    rw [areasF_get s (k + 1) _ _ (by simp)]
    rw [e] at hs hm ⊢
    have hL : Left s 0 es := fun p hp => by
      have : ∀ x, x ∈ [p.i, p.o] → x ∈ fars s := fun x hx => List.mem_cons_of_mem _ (List.mem_flatMap.mpr ⟨p, hp, hx⟩)
      exact ⟨.inr ((hm _).mpr (this _ (by simp))), .inr ((hm _).mpr (this _ (by simp)))⟩
    have hle : ∀ x ∈ 0 :: es, x ≤ R := fun x hx => by
      have := (hm x).mp hx
      unfold fars at this
      rcases List.mem_cons.mp this with rfl | z
      · omega
      · obtain ⟨p, hp, hx⟩ := List.mem_flatMap.mp z
        have h1 := hR p hp
        have h2 := (h p hp).1
        simp only [List.mem_cons, List.not_mem_nil, or_false] at hx
        omega
    have := tele (fun p hp => (h p hp).1) (k := k + 1) (by omega) R es 0 hs hL hle
    rw [List.tail_cons, this, Nat.sub_zero, ← List.range_eq_range']
    simp [List.getD_eq_getElem?_getD, List.getElem?_replicate]
    split <;> simp
  rw [List.getElem_tail, List.getElem_map, List.getElem_range, ← g]
  simp [hlen, hk]
theorem r_areas {s : List Pc} (h : ∀ p ∈ s, p.ok) (hl : s.length ≤ 1000) (he : (edges s).length < 64) {R : Nat} (hR : ∀ p ∈ s, p.o ≤ R) : m_depth_areas [shD s] = some (.tup ((List.range s.length).map fun k => .int (da s R (k + 1)))) := by
  rw [r_depth_areas h hl he, areas_eq h hR, List.map_map]
  rfl
theorem rising_few : ∀ (l : List Nat) (lo hi : Nat), l.Pairwise (· < ·) → (∀ x ∈ l, lo ≤ x ∧ x < hi) → l.length ≤ hi - lo
  | [], _, _, _, _ => Nat.zero_le _
  | a :: l, lo, hi, h, hx => by
    obtain ⟨h1, h2⟩ := List.pairwise_cons.mp h
    have := rising_few l (a + 1) hi h2 fun x hm => ⟨h1 x hm, (hx x (List.mem_cons_of_mem _ hm)).2⟩
    have := hx a List.mem_cons_self
    rw [List.length_cons]
    omega
theorem edges_few {s : List Pc} (h : ∀ p ∈ s, p.ok) {R : Nat} (hR : ∀ p ∈ s, p.o ≤ R) : (edges s).length ≤ R + 1 := by
  have h1 : ∀ x ∈ edges s, x < R + 1 := fun x hx => by
    have := (mem_edges h x).mp hx
    unfold fars at this
    rcases List.mem_cons.mp this with rfl | z
    · omega
    · obtain ⟨p, hp, hx⟩ := List.mem_flatMap.mp z
      have h1 := hR p hp
      have h2 := (h p hp).1
      simp only [List.mem_cons, List.not_mem_nil, or_false] at hx
      omega
  have := rising_few (edges s) 0 (R + 1) (edges_sorted s) fun x hx => ⟨Nat.zero_le _, h1 x hx⟩
  omega
end DL.Pg

set_option Elab.async false
set_option linter.all false
namespace DL.K03
open PySem DL DL.Pg
noncomputable def b__law_mix : MS := (sRet (eOp oMod (eOp oMod (eOp oMul (eVar 0) (eC (.int 48271))) (eVar 1)) (eVar 2)))
noncomputable def m__law_mix : MF := fnM 3 3 b__law_mix
noncomputable def b__law_piece : MS := (sSeq (sAsg (eCall m__law_mix (aCons (eVar 0) (aCons (eC (.int 9973)) (aCons (eVar 1) aNil)))) (gN 2))
    (sSeq (sAsg (eOp oAdd (eOp oAdd (eVar 2) (eC (.int 1))) (eCall m__law_mix (aCons (eVar 0) (aCons (eC (.int 9967)) (aCons (eOp oSub (eVar 1) (eVar 2)) aNil))))) (gN 3))
    (sSeq (sAsg (eOp oAdd (eC (.int 1)) (eCall m__law_mix (aCons (eVar 0) (aCons (eC (.int 9949)) (aCons (eC (.int 24)) aNil))))) (gN 4))
    (sSeq (sIf (tV (eOp oEq (eOp oMod (eVar 0) (eC (.int 4))) (eC (.int 0)))) (sAsg (eC (.int 24)) (gN 4)) sNil)
    (sRet (eTup (aCons (eVar 2) (aCons (eVar 3) (aCons (eCall m__law_mix (aCons (eVar 0) (aCons (eC (.int 9941)) (aCons (eC (.int 24)) aNil)))) (aCons (eVar 4) aNil))))))))))
noncomputable def m__law_piece : MF := fnM 2 5 b__law_piece
noncomputable def b__law_sheet : MS := (sRet (eCall fTuple (aCons (eComp 1 [1, 0] (iRange (eCall m__law_mix (aCons (eVar 0) (aCons (eC (.int 9931)) (aCons (eOp oAdd (eVar 2) (eC (.int 1))) aNil))))) (gN 0) tT (eCall m__law_piece (aCons (eOp oAdd (eVar 2) (eOp oMul (eC (.int 11)) (eVar 0))) (aCons (eVar 1) aNil)))) aNil)))
noncomputable def m__law_sheet : MF := fnM 3 3 b__law_sheet
noncomputable def b__law_has : MS := (sSeq (sAsg (eVar 0) (gT (gsCons (gN 3) (gsCons (gN 4) (gsCons (gN 5) (gsCons (gN 6) gsNil))))))
    (sSeq (sIf (tOr (tV (eOp oLt (eOp oIx (eVar 1) (eC (.int 0))) (eOp oMul (eVar 3) (eOp oIx (eVar 1) (eC (.int 1)))))) (tV (eOp oGe (eOp oIx (eVar 1) (eC (.int 0))) (eOp oMul (eVar 4) (eOp oIx (eVar 1) (eC (.int 1))))))) (sRet (eC (.bl false))) sNil)
    (sRet (eOp oLt (eOp oMod (eOp oSub (eOp oIx (eVar 2) (eC (.int 0))) (eOp oMul (eVar 5) (eOp oIx (eVar 2) (eC (.int 1))))) (eOp oMul (eC (.int 24)) (eOp oIx (eVar 2) (eC (.int 1))))) (eOp oMul (eVar 6) (eOp oIx (eVar 2) (eC (.int 1))))))))
noncomputable def m__law_has : MF := fnM 3 7 b__law_has
noncomputable def b__law_layers : MS := (sRet (eCall fTuple (aCons (eComp 2 [1] (iEnum (eVar 0)) (gT (gsCons (gN 0) (gsCons (gN 1) gsNil))) (tV (eCall m__law_has (aCons (eVar 1) (aCons (eOp oIx (eVar 2) (eC (.int 0))) (aCons (eOp oIx (eVar 2) (eC (.int 1))) aNil))))) (eVar 0)) aNil)))
noncomputable def m__law_layers : MF := fnM 2 2 b__law_layers
noncomputable def b__law_cells_2 : MS := (sPutT 5 2 (eTup (aCons (eVar 3) (aCons (eVar 4) aNil))) (eCall m__law_layers (aCons (eVar 0) (aCons (eTup (aCons (eTup (aCons (eOp oAdd (eOp oMul (eC (.int 2)) (eVar 3)) (eC (.int 1))) (aCons (eC (.int 2)) aNil))) (aCons (eTup (aCons (eOp oAdd (eOp oMul (eC (.int 2)) (eVar 4)) (eC (.int 1))) (aCons (eC (.int 2)) aNil))) aNil))) aNil))))
noncomputable def b__law_cells_1 : MS := (sFor (iRange (eC (.int 24))) (gN 4)
    b__law_cells_2)
noncomputable def b__law_cells : MS := (sSeq (sOwn 5 2 (eC (.dic true [] [])))
    (sSeq (sFor (iRange (eOp oAdd (eVar 1) (eC (.int 1)))) (gN 3)
    b__law_cells_1)
    (sFrzD 5 2 (sRet (eVar 2)))))
noncomputable def m__law_cells : MF := fnM 2 10 b__law_cells
noncomputable def b__law_whole : MS := (sRet (eAnd (eCall (fIs .int) (aCons (eVar 0) aNil)) (eNot (eCall (fIs .bool) (aCons (eVar 0) aNil)))))
noncomputable def m__law_whole : MF := fnM 1 1 b__law_whole
noncomputable def b__law_area : MS := (sRet (eOp oAdd (eOp oMul (eC (.int 2)) (eOp oIx (eVar 0) (eC (.int 0)))) (eC (.int 1))))
noncomputable def m__law_area : MF := fnM 1 1 b__law_area
noncomputable def b_law_2 : MS := (sIf (tV (eVar 6)) (sPutL 14 4 (eOp oSub (eCall fLen (aCons (eVar 6) aNil)) (eC (.int 1))) (eBor 14 [4] (eOp oAdd (eOp oIx (eVar 4) (eOp oSub (eCall fLen (aCons (eVar 6) aNil)) (eC (.int 1)))) (eCall m__law_area (aCons (eVar 5) aNil))))) sNil)
noncomputable def b_law_4 : MS := (sIf (tV (eOp oEq (eComp 1 [6] (iSeq (eVar 11)) (gN 0) (tV (eOp oIn (eVar 0) (eVar 1))) (eVar 0)) (eCall fList (aCons (eVar 11) aNil)))) (sAsg (eOp oAdd (eVar 13) (eCall m__law_area (aCons (eVar 5) aNil))) (gN 13)) sNil)
noncomputable def b_law_3 : MS := (sSeq (sAsg (eCall fTuple (aCons (eComp 1 [10] (iRange (eCall fLen (aCons (eVar 2) aNil))) (gN 0) (tV (eOp oEq (eOp oBand (eOp oShr (eVar 1) (eVar 0)) (eC (.int 1))) (eC (.int 1)))) (eVar 0)) aNil)) (gN 11))
    (sSeq (sAsg (eCall m_shared_area (aCons (eVar 2) (aCons (eVar 11) aNil))) (gN 12))
    (sSeq (sIf (tV (eOp oLt (eVar 10) (eC (.int 12)))) (sSeq (sAsg (eC (.int 0)) (gN 13))
    (sSeq (sFor (iItems (eVar 3)) (gT (gsCons (gN 5) (gsCons (gN 6) gsNil)))
    b_law_4)
    (sIf (tV (eOp oNe (eVar 12) (eVar 13))) (sRet (eC (.bl false))) sNil))) sNil)
    (sAsg (eOp oAdd (eVar 9) (eOp oMul (eVar 12) (eOp oIx (eLst (aCons (eUn uNeg (eC (.int 1))) (aCons (eC (.int 1)) aNil))) (eOp oMod (eCall fLen (aCons (eVar 11) aNil)) (eC (.int 2)))))) (gN 9)))))
noncomputable def b_law_1 : MS := (sSeq (sAsg (eCall m__law_sheet (aCons (eVar 1) (aCons (eC (.int 8)) (aCons (eC (.int 6)) aNil)))) (gN 2))
    (sSeq (sAsg (eCall m__law_cells (aCons (eVar 2) (aCons (eC (.int 8)) aNil))) (gN 3))
    (sSeq (sOwn 14 4 (eComp 1 [] (iSeq (eVar 2)) (gN 0) tT (eC (.int 0))))
    (sSeq (sFor (iItems (eVar 3)) (gT (gsCons (gN 5) (gsCons (gN 6) gsNil)))
    b_law_2)
    (sFrz 14 [4] (sSeq (sAsg (eCall m_depth_areas (aCons (eVar 2) aNil)) (gN 7))
    (sSeq (sIf (tOr (tV (eOp oNe (eVar 7) (eCall fTuple (aCons (eVar 4) aNil)))) (tNot (tV (eCall fAll (aCons (eComp 1 [] (iSeq (eVar 7)) (gN 0) tT (eCall m__law_whole (aCons (eVar 0) aNil))) aNil))))) (sRet (eC (.bl false))) sNil)
    (sSeq (sIf (tOr (tV (eOp oNe (eCall m_covered_area (aCons (eVar 2) aNil)) (eCall fSum (aCons (eVar 4) aNil)))) (tNot (tV (eCall m__law_whole (aCons (eCall m_covered_area (aCons (eVar 2) aNil)) aNil))))) (sRet (eC (.bl false))) sNil)
    (sSeq (sAsg (eComp 1 [] (iSeq (eVar 2)) (gN 0) tT (eCall m_area_of (aCons (eVar 0) aNil))) (gN 8))
    (sSeq (sIf (tV (eOp oNe (eCall fSum (aCons (eComp 2 [] (iEnum (eVar 7)) (gT (gsCons (gN 0) (gsCons (gN 1) gsNil))) tT (eOp oMul (eOp oAdd (eVar 0) (eC (.int 1))) (eVar 1))) aNil)) (eCall fSum (aCons (eVar 8) aNil)))) (sRet (eC (.bl false))) sNil)
    (sSeq (sAsg (eC (.int 0)) (gN 9))
    (sSeq (sFor (iRange2 (eC (.int 1)) (eOp oShl (eC (.int 1)) (eCall fLen (aCons (eVar 2) aNil)))) (gN 10)
    b_law_3)
    (sIf (tV (eOp oNe (eVar 9) (eCall m_covered_area (aCons (eVar 2) aNil)))) (sRet (eC (.bl false))) sNil)))))))))))))
noncomputable def b_law : MS := (sSeq (sFor (iSeq (eUn (uCut 3) (eVar 0))) (gN 1)
    b_law_1)
    (sRet (eAnd (eOp oEq (eCall m_depth_areas (aCons (eTup aNil) aNil)) (eTup aNil)) (eAnd (eOp oEq (eCall m_covered_area (aCons (eTup aNil) aNil)) (eC (.int 0))) (eOp oEq (eCall m_area_of (aCons (eTup (aCons (eC (.int 0)) (aCons (eC (.int 999)) (aCons (eC (.int 0)) (aCons (eC (.int 24)) aNil))))) aNil)) (eOp oMul (eOp oMul (eC (.int 999)) (eC (.int 999))) (eC (.int 24))))))))
noncomputable def m_law : MF := fnM 1 28 b_law
end DL.K03

set_option Elab.async false
set_option linter.all false
set_option maxRecDepth 100000
namespace DL.K03
open PySem DL DL.Pg
def mixZ (c p m : Int) : Int := c * 48271 % p % m
theorem r_mix {c p m : Int} (hp : 0 < p) (hm : 0 < m) : m__law_mix [.int c, .int p, .int m] = some (.int (mixZ c p m)) := by
  simp [m__law_mix, fnM, b__law_mix, sRet, eOp, eVar, slot, eC, oMod, oI, oMul, small, hp, hm, mixZ]
theorem mix_range {c p m : Int} (hm : 0 < m) : 0 ≤ mixZ c p m ∧ mixZ c p m < m := ⟨Int.emod_nonneg _ (by omega), Int.emod_lt_of_pos _ hm⟩
def pcOf (c M : Int) : Pc := ⟨(mixZ c 9973 M).toNat, (mixZ c 9973 M + 1 + mixZ c 9967 (M - mixZ c 9973 M)).toNat, (mixZ c 9941 24).toNat, (if c % 4 = 0 then 24 else 1 + mixZ c 9949 24).toNat⟩
theorem pc_ok (c M : Int) (h1 : 1 ≤ M) (h9 : M ≤ 999) : (pcOf c M).ok ∧ ((pcOf c M).o : Int) ≤ M := by
  have q1 := mix_range (c := c) (p := 9973) (m := M) (by omega)
  have q2 := mix_range (c := c) (p := 9967) (m := M - mixZ c 9973 M) (by omega)
  have q3 := mix_range (c := c) (p := 9941) (m := 24) (by decide)
  have q4 := mix_range (c := c) (p := 9949) (m := 24) (by decide)
  unfold Pc.ok pcOf
  simp only
  refine ⟨⟨by omega, by omega, by omega, ?_, ?_⟩, by omega⟩ <;> (split <;> omega)
theorem pc_D (c M : Int) (h1 : 1 ≤ M) : pD (pcOf c M) = .tup [.int (mixZ c 9973 M), .int (mixZ c 9973 M + 1 + mixZ c 9967 (M - mixZ c 9973 M)), .int (mixZ c 9941 24), .int (if c % 4 = 0 then 24 else 1 + mixZ c 9949 24)] := by
  have q1 := mix_range (c := c) (p := 9973) (m := M) (by omega)
  have q2 := mix_range (c := c) (p := 9967) (m := M - mixZ c 9973 M) (by omega)
  have q3 := mix_range (c := c) (p := 9941) (m := 24) (by decide)
  have q4 := mix_range (c := c) (p := 9949) (m := 24) (by decide)
  unfold pD pcOf
  simp only
  rw [Int.toNat_of_nonneg q1.1, Int.toNat_of_nonneg q3.1, Int.toNat_of_nonneg (by omega), Int.toNat_of_nonneg (by split <;> omega)]
theorem r_piece (c M : Int) (h1 : 1 ≤ M) : m__law_piece [.int c, .int M] = some (pD (pcOf c M)) := by
  have q1 := mix_range (c := c) (p := 9973) (m := M) (by omega)
  have e1 : m__law_mix [.int c, .int 9973, .int M] = some (.int (mixZ c 9973 M)) := r_mix (by decide) (by omega)
  have e2 : m__law_mix [.int c, .int 9967, .int (M - mixZ c 9973 M)] = some (.int (mixZ c 9967 (M - mixZ c 9973 M))) := r_mix (by decide) (by omega)
  have e3 : m__law_mix [.int c, .int 9941, .int 24] = some (.int (mixZ c 9941 24)) := r_mix (by decide) (by decide)
  have e4 : m__law_mix [.int c, .int 9949, .int 24] = some (.int (mixZ c 9949 24)) := r_mix (by decide) (by decide)
  rw [pc_D c M h1]
  by_cases h : c % 4 = 0
  · simp [m__law_piece, fnM, b__law_piece, sSeq, sAsg, sIf, sRet, eOp, eVar, slot, eC, eCall, aCons, aNil, gN, oAdd, oSub, oI, oMod, oEq, depD, eqD, tV, truth, sNil, eTup, e1, e2, e3, e4, h]
  · simp [m__law_piece, fnM, b__law_piece, sSeq, sAsg, sIf, sRet, eOp, eVar, slot, eC, eCall, aCons, aNil, gN, oAdd, oSub, oI, oMod, oEq, depD, eqD, tV, truth, sNil, eTup, e1, e2, e3, e4, h]
def pf (c M : Int) : D → D
  | .int k => pD (pcOf (c + 11 * k) M)
  | d => d
def shL (c M : Int) : List Pc := (List.range (mixZ c 9931 7).toNat).map fun (k : Nat) => pcOf (c + 11 * (k : Int)) M
theorem sh_ok (c M : Int) (h1 : 1 ≤ M) (h9 : M ≤ 999) : (shL c M).length ≤ 6 ∧ ∀ p ∈ shL c M, p.ok ∧ (p.o : Int) ≤ M := by
  have q := mix_range (c := c) (p := 9931) (m := 7) (by decide)
  unfold shL
  refine ⟨by rw [List.length_map, List.length_range]; omega, fun p hp => ?_⟩
  obtain ⟨k, _, rfl⟩ := List.mem_map.mp hp
  exact pc_ok _ _ h1 h9
theorem r_sheet (c M : Int) (h1 : 1 ≤ M) : m__law_sheet [.int c, .int M, .int 6] = some (shD (shL c M)) := by
  have hm := mix_range (c := c) (p := 9931) (m := 7) (by decide)
  have e1 : m__law_mix [.int c, .int 9931, .int 7] = some (.int (mixZ c 9931 7)) := r_mix (by decide) (by decide)
  have hi : iRange (eCall m__law_mix (aCons (eVar 0) (aCons (eC (.int 9931)) (aCons (eOp oAdd (eVar 2) (eC (.int 1))) aNil)))) [some (.int c), some (.int M), some (.int 6)] = some (rangeD (mixZ c 9931 7).toNat) :=
    range_ev ((call3_ev (x := .int c) (y := .int 9931) (z := .int 7) rfl rfl rfl).trans e1) ⟨by omega, by omega⟩
  have hc := comp_ev (k := 1) (fv := [1, 0]) (g := gN 0) (c := tT) (e := eCall m__law_piece (aCons (eOp oAdd (eVar 2) (eOp oMul (eC (.int 11)) (eVar 0))) (aCons (eVar 1) aNil))) (fun x => some (pf c M x)) hi (by simp [rangeD]; omega) fun x hx => by
    obtain ⟨k, _, rfl⟩ := range_mem hx
    refine ⟨[some (.int k), some (.int M), some (.int c)], rfl, .inl ⟨rfl, pD (pcOf (c + 11 * k) M), ?_, rfl⟩⟩
    have em : ∀ k : Int, oMul (.int 11) (.int k) = some (.int (11 * k)) := fun k => by simp [oMul, small]
    exact (call2_ev (x := .int (c + 11 * k)) (y := .int M) ((op_ev (x := .int c) (y := .int (11 * k)) rfl ((op_ev (x := .int 11) (y := .int k) rfl rfl).trans (em _))).trans rfl) rfl).trans (r_piece _ _ h1)
  refine fn_ev rfl (ret_ev ((call1_ev hc).trans ?_))
  rw [List.filterMap_eq_map']
  simp [fTuple, rangeD, shL, shD, pf, Function.comp_def]
def sm (i : Int) : Prop := -1000000 < i ∧ i < 1000000
theorem small_of {i : Int} (h : sm i) : small i = true := by
  unfold small sm at *
  simp only [Bool.and_eq_true, decide_eq_true_eq]
  omega
def hasG (i o b w u l v k : Int) : Bool := decide (i * l ≤ u ∧ u < o * l) && decide ((v - b * k) % (24 * k) < w * k)
theorem mul_smallL {i j : Int} (h : small i = true) : oMul (.int i) (.int j) = some (.int (i * j)) := by simp [oMul, h]
theorem r_law_hasG {i o b w u l v k : Int} (hi : sm i) (ho : sm o) (hb : sm b) (hw : sm w) (hk : 0 < k) : m__law_has [.tup [.int i, .int o, .int b, .int w], .tup [.int u, .int l], .tup [.int v, .int k]] = some (.bl (hasG i o b w u l v k)) := by
  have em1 : oMul (.int i) (.int l) = some (.int (i * l)) := mul_smallL (small_of hi)
  have em2 : oMul (.int o) (.int l) = some (.int (o * l)) := mul_smallL (small_of ho)
  have em3 : oMul (.int b) (.int k) = some (.int (b * k)) := mul_smallL (small_of hb)
  have em4 : oMul (.int 24) (.int k) = some (.int (24 * k)) := mul_smallL (by decide)
  have em5 : oMul (.int w) (.int k) = some (.int (w * k)) := mul_smallL (small_of hw)
  refine fn_ev rfl ?_
  show b__law_has [some (.tup [.int i, .int o, .int b, .int w]), some (.tup [.int u, .int l]), some (.tup [.int v, .int k]), none, none, none, none] = _
  unfold b__law_has
  rw [seq_nx (asg_ev (d := .tup [.int i, .int o, .int b, .int w]) (δ' := [some (.tup [.int i, .int o, .int b, .int w]), some (.tup [.int u, .int l]), some (.tup [.int v, .int k]), some (.int i), some (.int o), some (.int b), some (.int w)]) rfl rfl)]
  have t0 : tOr (tV (eOp oLt (eOp oIx (eVar 1) (eC (.int 0))) (eOp oMul (eVar 3) (eOp oIx (eVar 1) (eC (.int 1)))))) (tV (eOp oGe (eOp oIx (eVar 1) (eC (.int 0))) (eOp oMul (eVar 4) (eOp oIx (eVar 1) (eC (.int 1))))))
      [some (.tup [.int i, .int o, .int b, .int w]), some (.tup [.int u, .int l]), some (.tup [.int v, .int k]), some (.int i), some (.int o), some (.int b), some (.int w)] = some (decide (u < i * l) || decide (o * l ≤ u)) := by
    refine tOr_ev (tV_ev (d := .bl _) ((op_ev (x := .int u) (y := .int (i * l)) rfl ((op_ev (x := .int i) (y := .int l) rfl rfl).trans em1)).trans rfl) rfl) (tV_ev (d := .bl _) ((op_ev (x := .int u) (y := .int (o * l)) rfl ((op_ev (x := .int o) (y := .int l) rfl rfl).trans em2)).trans rfl) rfl)
  by_cases h : (i * l ≤ u ∧ u < o * l)
  · have : (decide (u < i * l) || decide (o * l ≤ u)) = false := by simp; omega
    rw [this] at t0
    rw [seq_nx ((if_F t0).trans rfl)]
    refine ret_ev ?_
    have hk2 : 0 < 24 * k := by omega
    simp [eOp, eVar, slot, oIx, ixD, eC, em3, em4, em5, oSub, oI, oMod, hk2, hk, oLt]
    unfold hasG
    simp [h]
  · have : (decide (u < i * l) || decide (o * l ≤ u)) = true := by simp; omega
    rw [this] at t0
    rw [seq_rt ((if_T t0).trans (ret_ev rfl))]
    unfold hasG
    simp [h]
theorem r_law_has {p : Pc} (h : p.ok) {r t : Nat} (ht : t < 24) : m__law_has [pD p, .tup [.int (2 * (r : Int) + 1), .int 2], .tup [.int (2 * (t : Int) + 1), .int 2]] = some (.bl (p.has r t)) := by
  obtain ⟨h1, h2, h3, h4, h5⟩ := h
  have e := r_law_hasG (i := p.i) (o := p.o) (b := p.b) (w := p.w) (u := 2 * (r : Int) + 1) (l := 2) (v := 2 * (t : Int) + 1) (k := 2) ⟨by omega, by omega⟩ ⟨by omega, by omega⟩ ⟨by omega, by omega⟩ ⟨by omega, by omega⟩ (by decide)
  unfold pD
  rw [e]
  refine congrArg (fun b => some (D.bl b)) ?_
  unfold hasG Pc.has Pc.at
  rw [Bool.eq_iff_iff]
  simp only [Bool.and_eq_true, decide_eq_true_eq]
  omega
def layN : Nat → List Pc → Nat → Nat → List Nat
  | _, [], _, _ => []
  | k, p :: s, r, t => if p.has r t = true then k :: layN (k + 1) s r t else layN (k + 1) s r t
def atD (r t : Nat) : D := .tup [.tup [.int (2 * (r : Int) + 1), .int 2], .tup [.int (2 * (t : Int) + 1), .int 2]]
def pcBack : D → Pc
  | .tup [.int i, .int o, .int b, .int w] => ⟨i.toNat, o.toNat, b.toNat, w.toNat⟩
  | _ => ⟨0, 0, 0, 0⟩
def lf (r t : Nat) : D → Option D
  | .tup [.int j, d] => if (pcBack d).has r t = true then some (.int j) else none
  | _ => none
theorem lf_ev (r t : Nat) (j : Int) (p : Pc) : lf r t (.tup [.int j, pD p]) = if p.has r t = true then some (.int j) else none := rfl
theorem enum_len : ∀ (ds : List D) (k : Nat), (enumD k ds).length = ds.length
  | [], _ => rfl
  | _ :: r, k => by simp [enumD, enum_len r (k + 1)]
theorem enum_mem : ∀ {s : List Pc} {k : Nat} {x : D}, x ∈ enumD k (s.map pD) → ∃ (i : Nat) (p : Pc), s[i]? = some p ∧ x = .tup [.int ((k + i : Nat) : Int), pD p]
  | [], _, _, h => by cases h
  | p :: s, k, x, h => by
    rw [List.map_cons, enumD] at h
    rcases List.mem_cons.mp h with rfl | h
    · exact ⟨0, p, rfl, rfl⟩
    · obtain ⟨i, p', h1, h2⟩ := enum_mem h
      refine ⟨i + 1, p', by simpa using h1, ?_⟩
      rw [h2, show k + 1 + i = k + (i + 1) by omega]
theorem lf_all (r t : Nat) : ∀ (s : List Pc) (k : Nat), (enumD k (s.map pD)).filterMap (lf r t) = natD (layN k s r t)
  | [], _ => rfl
  | p :: s, k => by
    rw [List.map_cons, enumD, List.filterMap_cons, lf_ev, layN, lf_all r t s (k + 1)]
    cases p.has r t <;> rfl
theorem r_law_layers {s : List Pc} (h : ∀ p ∈ s, p.ok) (hl : s.length ≤ 1000) (r : Nat) {t : Nat} (ht : t < 24) : m__law_layers [shD s, atD r t] = some (.tup (natD (layN 0 s r t))) := by
  have hc := comp_ev (k := 2) (fv := [1]) (i := iEnum (eVar 0)) (g := gT (gsCons (gN 0) (gsCons (gN 1) gsNil))) (c := tV (eCall m__law_has (aCons (eVar 1) (aCons (eOp oIx (eVar 2) (eC (.int 0))) (aCons (eOp oIx (eVar 2) (eC (.int 1))) aNil))))) (e := eVar 0) (δ := [some (shD s), some (atD r t)]) (xs := enumD 0 (s.map pD)) (lf r t) rfl (by rw [enum_len]; simp; omega) fun x hx => by
    obtain ⟨i, p, hp, rfl⟩ := enum_mem hx
    refine ⟨[some (.int ((0 + i : Nat) : Int)), some (pD p), some (atD r t)], rfl, ?_⟩
    have ht' : tV (eCall m__law_has (aCons (eVar 1) (aCons (eOp oIx (eVar 2) (eC (.int 0))) (aCons (eOp oIx (eVar 2) (eC (.int 1))) aNil)))) [some (.int ((0 + i : Nat) : Int)), some (pD p), some (atD r t)] = some (p.has r t) :=
      tV_ev ((call3_ev (x := pD p) (y := .tup [.int (2 * (r : Int) + 1), .int 2]) (z := .tup [.int (2 * (t : Int) + 1), .int 2]) rfl rfl rfl).trans (r_law_has (h p (List.mem_of_getElem? hp)) ht)) rfl
    rw [ht', lf_ev]
    cases p.has r t with
    | true => exact .inl ⟨rfl, _, rfl, rfl⟩
    | false => exact .inr ⟨rfl, rfl⟩
  refine fn_ev rfl (ret_ev ((call1_ev hc).trans ?_))
  rw [lf_all]
  rfl
end DL.K03

set_option Elab.async false
set_option linter.all false
set_option maxRecDepth 100000
namespace DL.K03
open PySem DL DL.Pg
def cells : List (Nat × Nat) := (List.range 9).flatMap fun r => (List.range 24).map fun t => (r, t)
def valD (s : List Pc) (c : Nat × Nat) : D := .tup (natD (layN 0 s c.1 c.2))
theorem layN_len : ∀ (s : List Pc) (k r t : Nat), (layN k s r t).length = dep s r t
  | [], _, _, _ => rfl
  | p :: s, k, r, t => by
    unfold layN dep
    rw [List.countP_cons]
    have := layN_len s (k + 1) r t
    unfold dep at this
    cases p.has r t <;> simp [this]
theorem eq_band (a b : Nat × Nat) : eqD (bandD a) (bandD b) = decide (a = b) := by
  unfold bandD
  simp only [eqD, eqDs, Bool.and_true]
  rw [Bool.eq_iff_iff]
  obtain ⟨a1, a2⟩ := a
  obtain ⟨b1, b2⟩ := b
  simp
  omega
theorem key_band (a : Nat × Nat) : isKeyT (bandD a) = true := rfl
theorem tup2_ev {a b : ME} {δ : Ev} {x y : D} (ha : a δ = some x) (hb : b δ = some y) : eTup (aCons a (aCons b aNil)) δ = some (.tup [x, y]) := by
  unfold eTup aCons aNil
  rw [ha, hb]
  rfl
theorem cells_in {s : List Pc} (h : ∀ p ∈ s, p.ok) (hl : s.length ≤ 1000) (r : Nat) : ∀ (ts : List Nat) (L : List (Nat × Nat)) (x4 : Option D), (∀ t ∈ ts, t < 24) → ts.Nodup → (∀ t ∈ ts, (r, t) ∉ L) → L.length + ts.length ≤ 1000 → ∃ y4,
    forM (gN 4) b__law_cells_2 (natD ts) [some (shD s), some (.int 8), none, some (.int r), x4, none, none, some (.dic true (L.map bandD) (L.map (valD s))), none, none] =
      some (.nx [some (shD s), some (.int 8), none, some (.int r), y4, none, none, some (.dic true ((L ++ ts.map fun t => (r, t)).map bandD) ((L ++ ts.map fun t => (r, t)).map (valD s))), none, none])
  | [], L, x4, _, _, _, _ => ⟨x4, by simp [natD, forM]⟩
  | t :: ts, L, x4, h1, h2, h3, h4 => by
    have ht := h1 t List.mem_cons_self
    simp only [List.length_cons] at h4
    rw [List.nodup_cons] at h2
    have e : b__law_cells_2 [some (shD s), some (.int 8), none, some (.int r), some (.int t), none, none, some (.dic true (L.map bandD) (L.map (valD s))), none, none] =
        some (.nx [some (shD s), some (.int 8), none, some (.int r), some (.int t), none, none, some (.dic true ((L ++ [(r, t)]).map bandD) ((L ++ [(r, t)]).map (valD s))), none, none]) := by
      have ek : eTup (aCons (eVar 3) (aCons (eVar 4) aNil)) [some (shD s), some (.int 8), none, some (.int r), some (.int t), none, none, some (.dic true (L.map bandD) (L.map (valD s))), none, none] = some (bandD (r, t)) := rfl
      have em : ∀ k : Int, oMul (.int 2) (.int k) = some (.int (2 * k)) := fun k => mul_smallL (by decide)
      have ea : ∀ {i : Nat} {k : Int} {δ : Ev}, eVar i δ = some (.int k) → eOp oAdd (eOp oMul (eC (.int 2)) (eVar i)) (eC (.int 1)) δ = some (.int (2 * k + 1)) := fun {i k δ} he => (op_ev ((op_ev (x := .int 2) rfl he).trans (em k)) rfl).trans rfl
      have ev : eCall m__law_layers (aCons (eVar 0) (aCons (eTup (aCons (eTup (aCons (eOp oAdd (eOp oMul (eC (.int 2)) (eVar 3)) (eC (.int 1))) (aCons (eC (.int 2)) aNil))) (aCons (eTup (aCons (eOp oAdd (eOp oMul (eC (.int 2)) (eVar 4)) (eC (.int 1))) (aCons (eC (.int 2)) aNil))) aNil))) aNil)) [some (shD s), some (.int 8), none, some (.int r), some (.int t), none, none, some (.dic true (L.map bandD) (L.map (valD s))), none, none] = some (valD s (r, t)) := by
        refine (call2_ev (x := shD s) (y := atD r t) rfl ?_).trans (r_law_layers h hl r ht)
        exact tup2_ev (tup2_ev (ea (i := 3) (k := r) rfl) rfl) (tup2_ev (ea (i := 4) (k := t) rfl) rfl)
      unfold b__law_cells_2 sPutT
      rw [ev]
      simp only [Option.bind_some]
      rw [ek]
      simp only [Option.bind_some]
      rw [show ownAt 5 2 [some (shD s), some (.int 8), none, some (.int r), some (.int t), none, none, some (.dic true (L.map bandD) (L.map (valD s))), none, none] = some (.dic true (L.map bandD) (L.map (valD s))) from rfl]
      simp only
      have hall : ((L.map bandD).all fun q => !eqD q (bandD (r, t))) = true := by
        rw [List.all_eq_true]
        intro q hq
        obtain ⟨c, hc, rfl⟩ := List.mem_map.mp hq
        rw [eq_band]
        have : c ≠ (r, t) := fun z => h3 t List.mem_cons_self (z ▸ hc)
        simp [this]
      rw [if_pos ⟨key_band _, hall, by rw [List.length_map]; omega⟩, List.map_append, List.map_append]
      rfl
    obtain ⟨y4, ih⟩ := cells_in h hl r ts (L ++ [(r, t)]) (some (.int t)) (fun x hx => h1 x (List.mem_cons_of_mem _ hx)) h2.2 (fun x hx => by
      rw [List.mem_append, List.mem_singleton]
      rintro (z | z)
      · exact h3 x (List.mem_cons_of_mem _ hx) z
      · cases z
        exact h2.1 hx) (by simp; omega)
    refine ⟨y4, ?_⟩
    have e0 : natD (t :: ts) = .int t :: natD ts := rfl
    rw [e0, for_cons (δ1 := [some (shD s), some (.int 8), none, some (.int r), some (.int t), none, none, some (.dic true (L.map bandD) (L.map (valD s))), none, none]) rfl e, ih, List.map_cons]
    simp only [List.append_assoc, List.singleton_append]
theorem nodup_range (n : Nat) : (List.range n).Nodup := List.nodup_range
theorem cells_out {s : List Pc} (h : ∀ p ∈ s, p.ok) (hl : s.length ≤ 1000) : ∀ (rs : List Nat) (L : List (Nat × Nat)) (x3 x4 : Option D), rs.Nodup → (∀ c ∈ L, c.1 ∉ rs) → L.length + 24 * rs.length ≤ 900 → ∃ y3 y4,
    forM (gN 3) b__law_cells_1 (natD rs) [some (shD s), some (.int 8), none, x3, x4, none, none, some (.dic true (L.map bandD) (L.map (valD s))), none, none] =
      some (.nx [some (shD s), some (.int 8), none, y3, y4, none, none, some (.dic true ((L ++ rs.flatMap fun r => (List.range 24).map fun t => (r, t)).map bandD) ((L ++ rs.flatMap fun r => (List.range 24).map fun t => (r, t)).map (valD s))), none, none])
  | [], L, x3, x4, _, _, _ => ⟨x3, x4, by simp [natD, forM]⟩
  | r :: rs, L, x3, x4, h1, h2, h3 => by
    rw [List.nodup_cons] at h1
    simp only [List.length_cons] at h3
    obtain ⟨z4, e⟩ := cells_in h hl r (List.range 24) L x4 (fun t ht => List.mem_range.mp ht) (nodup_range 24) (fun t ht z => h2 _ z List.mem_cons_self) (by simp; omega)
    have eb : b__law_cells_1 [some (shD s), some (.int 8), none, some (.int r), x4, none, none, some (.dic true (L.map bandD) (L.map (valD s))), none, none] = _ := (sfor_ev (i := iRange (eC (.int 24))) (xs := natD (List.range 24)) rfl).trans e
    obtain ⟨y3, y4, ih⟩ := cells_out h hl rs (L ++ (List.range 24).map fun t => (r, t)) (some (.int r)) z4 h1.2 (fun c hc => by
      rcases List.mem_append.mp hc with z | z
      · exact fun q => h2 c z (List.mem_cons_of_mem _ q)
      · obtain ⟨t, _, rfl⟩ := List.mem_map.mp z
        exact h1.1) (by simp; omega)
    refine ⟨y3, y4, ?_⟩
    have e0 : natD (r :: rs) = .int r :: natD rs := rfl
    rw [e0, for_cons (δ1 := [some (shD s), some (.int 8), none, some (.int r), x4, none, none, some (.dic true (L.map bandD) (L.map (valD s))), none, none]) rfl eb, ih, List.flatMap_cons, List.append_assoc]
def cellsD (s : List Pc) : D := .dic true (cells.map bandD) (cells.map (valD s))
theorem r_law_cells {s : List Pc} (h : ∀ p ∈ s, p.ok) (hl : s.length ≤ 1000) : m__law_cells [shD s, .int 8] = some (cellsD s) := by
  obtain ⟨y3, y4, e⟩ := cells_out h hl (List.range 9) [] none none (nodup_range 9) (fun c hc => by cases hc) (by decide)
  rw [List.map_nil, List.map_nil, List.nil_append] at e
  refine fn_ev rfl ?_
  show b__law_cells [some (shD s), some (.int 8), none, none, none, none, none, none, none, none] = _
  unfold b__law_cells
  rw [seq_nx (show sOwn 5 2 (eC (.dic true [] [])) _ = some (.nx [some (shD s), some (.int 8), none, none, none, none, none, some (.dic true [] []), none, none]) from rfl)]
  rw [seq_nx ((sfor_ev (xs := natD (List.range 9)) rfl).trans e)]
  rfl
end DL.K03

set_option Elab.async false
set_option linter.all false
set_option maxRecDepth 100000
namespace DL.K03
open PySem DL DL.Pg
theorem sum_add {α : Type} (f g : α → Int) : ∀ l : List α, (l.map fun a => f a + g a).sum = (l.map f).sum + (l.map g).sum
  | [] => rfl
  | a :: l => by rw [List.map_cons, List.map_cons, List.map_cons, List.sum_cons, List.sum_cons, List.sum_cons, sum_add f g l]; omega
theorem sum_zero {α : Type} : ∀ l : List α, (l.map fun _ => (0 : Int)).sum = 0
  | [] => rfl
  | a :: l => by rw [List.map_cons, List.sum_cons, sum_zero l]; rfl
theorem sum_swap {α β : Type} (f : α → β → Int) (m : List β) : ∀ l : List α, (l.map fun a => (m.map fun b => f a b).sum).sum = (m.map fun b => (l.map fun a => f a b).sum).sum
  | [] => by simp only [List.map_nil, List.sum_nil]; rw [sum_zero]
  | a :: l => by
    rw [List.map_cons, List.sum_cons, sum_swap f m l, ← sum_add]
    rfl
theorem sum_mul {α : Type} (c : Int) (f : α → Int) : ∀ l : List α, (l.map fun a => c * f a).sum = c * (l.map f).sum
  | [] => by simp
  | a :: l => by rw [List.map_cons, List.map_cons, List.sum_cons, List.sum_cons, sum_mul c f l, Int.mul_add]
theorem sum_congr {α : Type} {f g : α → Int} {l : List α} (h : ∀ a ∈ l, f a = g a) : (l.map f).sum = (l.map g).sum := by rw [List.map_congr_left h]
def W (P : Nat × Nat → Bool) : Int := (cells.map fun c => if P c = true then 2 * (c.1 : Int) + 1 else 0).sum
theorem sum_flat {α β : Type} (g : α → List β) (f : β → Int) : ∀ l : List α, ((l.flatMap g).map f).sum = (l.map fun a => ((g a).map f).sum).sum
  | [] => rfl
  | a :: l => by rw [List.flatMap_cons, List.map_append, List.sum_append, sum_flat g f l, List.map_cons, List.sum_cons]
theorem W_rows (P : Nat × Nat → Bool) : W P = ((List.range 9).map fun (r : Nat) => (2 * (r : Int) + 1) * ((List.range 24).countP (fun t => P (r, t)) : Nat)).sum := by
  unfold W cells
  rw [sum_flat]
  refine sum_congr fun r _ => ?_
  rw [List.map_map]
  generalize List.range 24 = l
  induction l with
  | nil => simp
  | cons t l ih =>
    rw [List.map_cons, List.sum_cons, ih, List.countP_cons, Int.natCast_add, Int.mul_add, Int.add_comm]
    congr 1
    show (if P (r, t) = true then _ else _) = _
    cases P (r, t) <;> simp
theorem da_W (s : List Pc) (k : Nat) : da s 9 k = W fun c => decide (dep s c.1 c.2 = k) := by
  rw [W_rows]
  unfold da
  refine sum_congr fun r _ => ?_
  congr 2
  unfold cnt depRow rowOf
  generalize List.range 24 = l
  induction l with
  | nil => rfl
  | cons t l ih =>
    rw [List.map_cons, List.count_cons, List.countP_cons, ih]
    congr 1
    have : ((dep s r t : Int) == (k : Int)) = decide (dep s r t = k) := by
      rw [Bool.eq_iff_iff]
      simp only [beq_iff_eq, decide_eq_true_eq]
      omega
    rw [this]
theorem W_congr {P Q : Nat × Nat → Bool} (h : ∀ c, P c = Q c) : W P = W Q := by
  unfold W
  exact sum_congr fun c _ => by rw [h c]
theorem one_of_all (d : Nat) (x : Int) : ∀ n : Nat, ((List.range n).map fun k => if d = k + 1 then x else 0).sum = if 1 ≤ d ∧ d ≤ n then x else 0
  | 0 => by
    rw [if_neg (by omega)]
    rfl
  | n + 1 => by
    rw [List.range_succ, List.map_append, List.sum_append, one_of_all d x n]
    simp only [List.map_cons, List.map_nil, List.sum_cons, List.sum_nil]
    split <;> split <;> split <;> omega
theorem covered_W (s : List Pc) : ((List.range s.length).map fun k => da s 9 (k + 1)).sum = W fun c => decide (1 ≤ dep s c.1 c.2) := by
  have : ((List.range s.length).map fun k => da s 9 (k + 1)).sum = ((List.range s.length).map fun k => (cells.map fun c => if dep s c.1 c.2 = k + 1 then 2 * (c.1 : Int) + 1 else 0).sum).sum := by
    refine sum_congr fun k _ => ?_
    rw [da_W]
    unfold W
    exact sum_congr fun c _ => by simp
  rw [this, sum_swap]
  unfold W
  refine sum_congr fun c _ => ?_
  rw [one_of_all]
  have : dep s c.1 c.2 ≤ s.length := List.countP_le_length
  simp only [decide_eq_true_eq]
  split <;> split <;> omega
theorem each_W (d : Nat) (x : Int) : ∀ n : Nat, ((List.range n).map fun (k : Nat) => ((k : Int) + 1) * if d = k + 1 then x else 0).sum = if 1 ≤ d ∧ d ≤ n then (d : Int) * x else 0
  | 0 => by
    rw [if_neg (by omega)]
    rfl
  | n + 1 => by
    rw [List.range_succ, List.map_append, List.sum_append, each_W d x n]
    simp only [List.map_cons, List.map_nil, List.sum_cons, List.sum_nil]
    by_cases h1 : d = n + 1
    · subst h1
      rw [if_neg (by omega), if_pos rfl, if_pos (by omega)]
      simp
    · rw [if_neg h1]
      by_cases h2 : 1 ≤ d ∧ d ≤ n
      · rw [if_pos h2, if_pos (by omega)]
        simp
      · rw [if_neg h2, if_neg (by omega)]
        simp
theorem dep_sum (x : Int) (r t : Nat) : ∀ s : List Pc, (dep s r t : Int) * x = (s.map fun p => if p.has r t = true then x else 0).sum
  | [] => by simp [dep]
  | p :: s => by
    have := dep_sum x r t s
    rw [List.map_cons, List.sum_cons, ← this]
    unfold dep
    rw [List.countP_cons, Int.natCast_add, Int.add_mul, Int.add_comm]
    congr 1
    cases p.has r t <;> simp
theorem depths_W (s : List Pc) : ((List.range s.length).map fun (k : Nat) => ((k : Int) + 1) * da s 9 (k + 1)).sum = (s.map fun p => W fun c => p.has c.1 c.2).sum := by
  have e1 : ((List.range s.length).map fun (k : Nat) => ((k : Int) + 1) * da s 9 (k + 1)).sum = ((List.range s.length).map fun (k : Nat) => (cells.map fun c => ((k : Int) + 1) * if dep s c.1 c.2 = k + 1 then 2 * (c.1 : Int) + 1 else 0).sum).sum := by
    refine sum_congr fun k _ => ?_
    rw [da_W, sum_mul]
    unfold W
    congr 1
    exact sum_congr fun c _ => by simp
  have e2 : (s.map fun p => W fun c => p.has c.1 c.2).sum = (cells.map fun c => (s.map fun p => if p.has c.1 c.2 = true then 2 * (c.1 : Int) + 1 else 0).sum).sum := by
    unfold W
    rw [sum_swap]
  rw [e1, sum_swap, e2]
  refine sum_congr fun c _ => ?_
  rw [each_W, ← dep_sum]
  have : dep s c.1 c.2 ≤ s.length := List.countP_le_length
  by_cases h : 1 ≤ dep s c.1 c.2
  · rw [if_pos ⟨h, this⟩]
  · rw [if_neg (by omega)]
    have : dep s c.1 c.2 = 0 := by omega
    rw [this]
    simp
theorem turns_all : ∀ b, b < 24 → ∀ w, w < 25 → (List.range 24).countP (fun t => decide ((t + 24 - b) % 24 < w)) = w := by decide +kernel
theorem rings_all : ∀ o, o < 10 → ∀ i, i < 10 → i ≤ o → ((List.range 9).map fun (r : Nat) => if i ≤ r ∧ r < o then 2 * (r : Int) + 1 else 0).sum = (o : Int) * o - (i : Int) * i := by decide +kernel
theorem area_W {p : Pc} (h : p.ok) (h9 : p.o ≤ 9) : W (fun c => p.has c.1 c.2) = ((p.o : Int) * p.o - (p.i : Int) * p.i) * p.w := by
  obtain ⟨h1, _, h3, _, h5⟩ := h
  rw [W_rows, ← rings_all p.o (by omega) p.i (by omega) (by omega), Int.mul_comm, ← sum_mul]
  refine sum_congr fun r _ => ?_
  by_cases hr : p.i ≤ r ∧ r < p.o
  · have : (List.range 24).countP (fun t => p.has r t) = p.w := by
      rw [← turns_all p.b h3 p.w (by omega)]
      refine List.countP_congr fun t _ => ?_
      unfold Pc.has Pc.at
      simp [hr.1, hr.2]
    rw [this, if_pos hr, Int.mul_comm]
  · have : (List.range 24).countP (fun t => p.has r t) = 0 := by
      rw [List.countP_eq_zero]
      intro t _
      unfold Pc.has
      simp only [Bool.and_eq_true, decide_eq_true_eq]
      exact fun z => hr z.1
    rw [this, if_neg hr]
    simp
end DL.K03

set_option Elab.async false
set_option linter.all false
set_option maxRecDepth 100000
namespace DL.K03
open PySem DL DL.Pg
def selN : Nat → List Pc → List Nat → List Pc
  | _, [], _ => []
  | k, p :: s, sub => if k ∈ sub then p :: selN (k + 1) s sub else selN (k + 1) s sub
theorem sel_mem : ∀ {s : List Pc} {k : Nat} {sub : List Nat} {p : Pc}, p ∈ selN k s sub → p ∈ s
  | [], _, _, _, h => by cases h
  | q :: s, k, sub, p, h => by
    unfold selN at h
    split at h
    · rcases List.mem_cons.mp h with rfl | h
      · exact List.mem_cons_self
      · exact List.mem_cons_of_mem _ (sel_mem h)
    · exact List.mem_cons_of_mem _ (sel_mem h)
theorem sel_len : ∀ (s : List Pc) (k : Nat) (sub : List Nat), (selN k s sub).length ≤ s.length
  | [], _, _ => Nat.le_refl _
  | q :: s, k, sub => by
    have := sel_len s (k + 1) sub
    unfold selN
    split
    · simp; omega
    · simp; omega
theorem in_nat (k : Nat) (sub : List Nat) : oIn (.int k) (.tup (natD sub)) = some (.bl (decide (k ∈ sub))) := by
  have hd : depDs (natD sub) = 0 := by
    unfold natD
    induction sub with
    | nil => rfl
    | cons a l ih => simp [depDs, depD, ih]
  have ha : ((natD sub).any fun y => eqD y (.int k)) = decide (k ∈ sub) := by
    unfold natD
    induction sub with
    | nil => rfl
    | cons a l ih =>
      have e : eqD (.int a) (.int k) = decide (k = a) := by
        rw [Bool.eq_iff_iff]
        simp only [eqD, beq_iff_eq, decide_eq_true_eq]
        omega
      rw [List.map_cons, List.any_cons, ih (by unfold natD at hd ⊢; simp [depDs, depD] at hd; exact hd), e, Bool.eq_iff_iff]
      simp only [Bool.or_eq_true, decide_eq_true_eq, List.mem_cons]
  unfold oIn
  simp only
  rw [if_pos ⟨by omega, by simp [depD]⟩, ha]
def sf (sub : List Nat) : D → Option D
  | .tup [.int j, d] => if j.toNat ∈ sub then some d else none
  | _ => none
theorem sf_ev (sub : List Nat) (k : Nat) (p : Pc) : sf sub (.tup [.int k, pD p]) = if k ∈ sub then some (pD p) else none := rfl
theorem sf_all (sub : List Nat) : ∀ (s : List Pc) (k : Nat), (enumD k (s.map pD)).filterMap (sf sub) = (selN k s sub).map pD
  | [], _ => rfl
  | p :: s, k => by
    rw [List.map_cons, enumD, List.filterMap_cons, sf_ev, selN, sf_all sub s (k + 1)]
    by_cases h : k ∈ sub
    · rw [if_pos h, if_pos h]; rfl
    · rw [if_neg h, if_neg h]
def allOf (s : List Pc) (c : Nat × Nat) : Bool := s.all fun p => p.has c.1 c.2
theorem da_all (s : List Pc) : da s 9 s.length = W (allOf s) := by
  rw [da_W]
  refine W_congr fun c => ?_
  unfold allOf dep
  rw [Bool.eq_iff_iff, decide_eq_true_eq, List.countP_eq_length, List.all_eq_true]
theorem ix_last {n : Nat} (f : Nat → Int) (h : 0 < n) : oIx (.tup ((List.range n).map fun k => .int (f k))) (.int (-1)) = some (.int (f (n - 1))) := by
  have hi : ixD ((List.range n).map fun k => D.int (f k)).length (-1) = some (n - 1) := by
    unfold ixD
    rw [List.length_map, List.length_range, if_neg (by omega), if_pos (by omega)]
    congr 1
    omega
  show (ixD ((List.range n).map fun k => D.int (f k)).length (-1)).bind (fun j => ((List.range n).map fun k => D.int (f k))[j]?) = _
  rw [hi]
  simp only [Option.bind_some]
  rw [List.getElem?_map, List.getElem?_range (by omega)]
  rfl
theorem r_shared {s : List Pc} (h : ∀ p ∈ s, p.ok ∧ p.o ≤ 9) (hl : s.length ≤ 1000) (sub : List Nat) (hne : selN 0 s sub ≠ []) : m_shared_area [shD s, .tup (natD sub)] = some (.int (W (allOf (selN 0 s sub)))) := by
  have hc := comp_ev (k := 2) (fv := [1]) (i := iEnum (eVar 0)) (g := gT (gsCons (gN 0) (gsCons (gN 1) gsNil))) (c := tV (eOp oIn (eVar 0) (eVar 2))) (e := eVar 1) (δ := [some (shD s), some (.tup (natD sub)), none]) (xs := enumD 0 (s.map pD)) (sf sub) rfl (by rw [enum_len]; simp; omega) fun x hx => by
    obtain ⟨i, p, hp, rfl⟩ := enum_mem hx
    refine ⟨[some (.int ((0 + i : Nat) : Int)), some (pD p), some (.tup (natD sub))], rfl, ?_⟩
    have ht' : tV (eOp oIn (eVar 0) (eVar 2)) [some (.int ((0 + i : Nat) : Int)), some (pD p), some (.tup (natD sub))] = some (decide (0 + i ∈ sub)) := tV_ev ((op_ev (x := .int ((0 + i : Nat) : Int)) (y := .tup (natD sub)) rfl rfl).trans (in_nat _ _)) rfl
    rw [ht']
    rw [sf_ev]
    by_cases hi : 0 + i ∈ sub
    · exact .inl ⟨by rw [decide_eq_true hi], _, rfl, by rw [if_pos hi]⟩
    · exact .inr ⟨by rw [decide_eq_false hi], by rw [if_neg hi]⟩
  rw [sf_all] at hc
  have hs : ∀ p ∈ selN 0 s sub, p.ok := fun p hp => (h p (sel_mem hp)).1
  have h9 : ∀ p ∈ selN 0 s sub, p.o ≤ 9 := fun p hp => (h p (sel_mem hp)).2
  have hlen := sel_len s 0 sub
  have hd := r_areas hs (by omega) (by have := edges_few hs h9; omega) h9
  refine fn_ev rfl ?_
  show b_shared_area [some (shD s), some (.tup (natD sub)), none] = _
  unfold b_shared_area
  rw [seq_nx (asg_ev (d := shD (selN 0 s sub)) (δ' := [some (shD s), some (.tup (natD sub)), some (shD (selN 0 s sub))]) ((call1_ev hc).trans rfl) rfl)]
  have hpos : 0 < (selN 0 s sub).length := List.length_pos_iff.mpr hne
  have tt : tV (eOp oEq (eCall fLen (aCons (eVar 2) aNil)) (eC (.int 0))) [some (shD s), some (.tup (natD sub)), some (shD (selN 0 s sub))] = some false := by
    refine tV_ev (d := .bl false) ((op_ev (x := .int (selN 0 s sub).length) (y := .int 0) ((call1_ev (x := shD (selN 0 s sub)) rfl).trans (by unfold shD fLen; simp)) rfl).trans ?_) rfl
    simp [oEq, depD, eqD]
    omega
  rw [seq_nx ((if_F tt).trans rfl)]
  have en : eUn uNeg (eC (.int 1)) [some (shD s), some (.tup (natD sub)), some (shD (selN 0 s sub))] = some (.int (-1)) := rfl
  have ec : eCall m_depth_areas (aCons (eVar 2) aNil) [some (shD s), some (.tup (natD sub)), some (shD (selN 0 s sub))] = _ := (call1_ev (x := shD (selN 0 s sub)) rfl).trans hd
  refine ret_ev ((op_ev ec en).trans ((ix_last (fun k => da (selN 0 s sub) 9 (k + 1)) hpos).trans ?_))
  rw [show (selN 0 s sub).length - 1 + 1 = (selN 0 s sub).length by omega, da_all]
def bits (n m : Nat) : List Nat := (List.range n).filter fun k => decide (m / 2 ^ k % 2 = 1)
def sg (k : Nat) : Int := if k % 2 = 1 then 1 else -1
def allBs : Nat → List (List Bool)
  | 0 => [[]]
  | n + 1 => (allBs n).flatMap fun l => [false :: l, true :: l]
theorem mem_allBs : ∀ l : List Bool, l ∈ allBs l.length
  | [] => by simp [allBs]
  | b :: l => by
    rw [List.length_cons, allBs]
    refine List.mem_flatMap.mpr ⟨l, mem_allBs l, ?_⟩
    cases b <;> simp
theorem ie_dec : ∀ n, n < 7 → ∀ bs ∈ allBs n, ((List.range' 1 (2 ^ n - 1)).map fun m => if ((bits n m).all fun k => bs.getD k false) = true then sg (bits n m).length else 0).sum = if (bs.any id) = true then 1 else 0 := by decide +kernel
theorem bits_some : ∀ n, n < 7 → ∀ m, m < 64 → 1 ≤ m → m < 2 ^ n → bits n m ≠ [] := by decide +kernel
theorem sel_all (c : Nat × Nat) : ∀ (s : List Pc) (k : Nat) (sub : List Nat), allOf (selN k s sub) c = (List.range s.length).all fun j => !decide (k + j ∈ sub) || (s.map fun p => p.has c.1 c.2).getD j false
  | [], _, _ => rfl
  | p :: s, k, sub => by
    have ih := sel_all c s (k + 1) sub
    rw [List.length_cons, List.range_succ_eq_map, List.all_cons, List.all_map]
    have e : ((List.range s.length).all ((fun j => !decide (k + j ∈ sub) || ((p :: s).map fun p => p.has c.1 c.2).getD j false) ∘ Nat.succ)) = allOf (selN (k + 1) s sub) c := by
      rw [ih]
      refine congrArg (fun f => (List.range s.length).all f) (funext fun j => ?_)
      show (!decide (k + (j + 1) ∈ sub) || _) = _
      rw [show k + (j + 1) = k + 1 + j by omega]
      rfl
    rw [e, selN]
    by_cases h : k ∈ sub
    · rw [if_pos h]
      have : decide (k + 0 ∈ sub) = true := by simpa using h
      rw [this]
      rfl
    · rw [if_neg h]
      have : decide (k + 0 ∈ sub) = false := by simpa using h
      rw [this]
      rfl
theorem sel_bits {s : List Pc} (m : Nat) (c : Nat × Nat) : allOf (selN 0 s (bits s.length m)) c = (bits s.length m).all fun k => (s.map fun p => p.has c.1 c.2).getD k false := by
  rw [sel_all]
  rw [Bool.eq_iff_iff, List.all_eq_true, List.all_eq_true]
  unfold bits
  constructor
  · intro h k hk
    have hk' := List.mem_filter.mp hk
    have := h k hk'.1
    rw [Nat.zero_add] at this
    have hd : decide (k ∈ (List.range s.length).filter fun k => decide (m / 2 ^ k % 2 = 1)) = true := by simpa using hk
    rw [hd] at this
    simpa using this
  · intro h k hk
    rw [Nat.zero_add]
    by_cases hm : k ∈ (List.range s.length).filter fun k => decide (m / 2 ^ k % 2 = 1)
    · have := h k hm
      rw [this]
      simp
    · have hd : decide (k ∈ (List.range s.length).filter fun k => decide (m / 2 ^ k % 2 = 1)) = false := by simpa using hm
      rw [hd]
      rfl
theorem sel_some {s : List Pc} (h6 : s.length ≤ 6) {m : Nat} (h1 : 1 ≤ m) (h2 : m < 2 ^ s.length) : selN 0 s (bits s.length m) ≠ [] := by
  have h64 : 2 ^ s.length ≤ 64 := by
    have : s.length = 0 ∨ s.length = 1 ∨ s.length = 2 ∨ s.length = 3 ∨ s.length = 4 ∨ s.length = 5 ∨ s.length = 6 := by omega
    rcases this with e | e | e | e | e | e | e <;> (rw [e]; decide)
  have hb := bits_some s.length (by omega) m (by omega) h1 h2
  have key : ∀ (s : List Pc) (k : Nat) (sub : List Nat), (∃ j, j < s.length ∧ k + j ∈ sub) → selN k s sub ≠ [] := by
    intro s
    induction s with
    | nil => rintro k sub ⟨j, hj, _⟩; simp at hj
    | cons p s ih =>
      rintro k sub ⟨j, hj, hm⟩
      unfold selN
      split
      · simp
      · rename_i hk
        cases j with
        | zero => exact absurd (by simpa using hm) hk
        | succ j => exact ih (k + 1) sub ⟨j, by simpa using hj, by rw [show k + 1 + j = k + (j + 1) by omega]; exact hm⟩
  obtain ⟨x, hx⟩ := List.exists_mem_of_ne_nil _ hb
  refine key s 0 _ ⟨x, ?_, by rw [Nat.zero_add]; exact hx⟩
  unfold bits at hx
  exact List.mem_range.mp (List.mem_filter.mp hx).1
theorem in_turn {s : List Pc} (h6 : s.length ≤ 6) : ((List.range' 1 (2 ^ s.length - 1)).map fun m => W (allOf (selN 0 s (bits s.length m))) * sg (bits s.length m).length).sum = W fun c => decide (1 ≤ dep s c.1 c.2) := by
  have e1 : ((List.range' 1 (2 ^ s.length - 1)).map fun m => W (allOf (selN 0 s (bits s.length m))) * sg (bits s.length m).length).sum =
      ((List.range' 1 (2 ^ s.length - 1)).map fun m => (cells.map fun c => (2 * (c.1 : Int) + 1) * if ((bits s.length m).all fun k => (s.map fun p => p.has c.1 c.2).getD k false) = true then sg (bits s.length m).length else 0).sum).sum := by
    refine sum_congr fun m _ => ?_
    unfold W
    rw [Int.mul_comm, ← sum_mul]
    refine sum_congr fun c _ => ?_
    rw [sel_bits]
    split
    · rw [Int.mul_comm]
    · simp
  rw [e1, sum_swap]
  unfold W
  refine sum_congr fun c _ => ?_
  rw [sum_mul]
  have hie := ie_dec s.length (by omega) (s.map fun p => p.has c.1 c.2) (by have := mem_allBs (s.map fun p => p.has c.1 c.2); rw [List.length_map] at this; exact this)
  rw [hie]
  have : ((s.map fun p => p.has c.1 c.2).any id) = decide (1 ≤ dep s c.1 c.2) := by
    rw [Bool.eq_iff_iff, decide_eq_true_eq]
    unfold dep
    rw [show (1 ≤ s.countP fun p => p.has c.1 c.2) ↔ 0 < s.countP fun p => p.has c.1 c.2 from Iff.rfl, List.countP_pos_iff]
    simp
  rw [this]
  split <;> simp
end DL.K03

set_option Elab.async false
set_option linter.all false
set_option maxRecDepth 100000
namespace DL.K03
open PySem DL DL.Pg
abbrev St (x0 x1 x2 x3 x4 x5 x6 x7 x8 x9 x10 x11 x12 x13 y : Option D) : Ev := [x0, x1, x2, x3, x4, x5, x6, x7, x8, x9, x10, x11, x12, x13, none, none, none, none, y, none, none, none, none, none, none, none, none, none]
theorem r_law_area (c : Nat × Nat) : m__law_area [bandD c] = some (.int (2 * (c.1 : Int) + 1)) := by
  refine fn_ev rfl ?_
  show b__law_area [some (bandD c)] = _
  unfold b__law_area
  exact ret_ev ((op_ev ((op_ev (x := .int 2) (y := .int c.1) rfl rfl).trans (mul_smallL (by decide))) (y := .int 1) rfl).trans rfl)
def dueS (s : List Pc) (c : Nat × Nat) (hs : List Int) : List Int := if dep s c.1 c.2 = 0 then hs else hs.set (dep s c.1 c.2 - 1) (hs.getD (dep s c.1 c.2 - 1) 0 + (2 * (c.1 : Int) + 1))
theorem due_step {s : List Pc} {c : Nat × Nat} {hs : List Int} (hd : dep s c.1 c.2 ≤ hs.length) (x0 x1 x2 x3 x7 x8 x9 x10 x11 x12 x13 : Option D) :
    b_law_2 (St x0 x1 x2 x3 none (some (bandD c)) (some (valD s c)) x7 x8 x9 x10 x11 x12 x13 (some (.lst (hs.map D.int)))) = some (.nx (St x0 x1 x2 x3 none (some (bandD c)) (some (valD s c)) x7 x8 x9 x10 x11 x12 x13 (some (.lst ((dueS s c hs).map D.int))))) := by
  have hlen : (natD (layN 0 s c.1 c.2)).length = dep s c.1 c.2 := by unfold natD; rw [List.length_map, layN_len]
  unfold b_law_2
  by_cases h0 : dep s c.1 c.2 = 0
  · have tt : tV (eVar 6) (St x0 x1 x2 x3 none (some (bandD c)) (some (valD s c)) x7 x8 x9 x10 x11 x12 x13 (some (.lst (hs.map D.int)))) = some false := by
      refine tV_ev (d := valD s c) rfl ?_
      show some (!(natD (layN 0 s c.1 c.2)).isEmpty) = _
      rw [List.isEmpty_iff_length_eq_zero.mpr (by omega)]
      rfl
    rw [if_F tt]
    unfold dueS
    rw [if_pos h0]
    rfl
  · have tt : tV (eVar 6) (St x0 x1 x2 x3 none (some (bandD c)) (some (valD s c)) x7 x8 x9 x10 x11 x12 x13 (some (.lst (hs.map D.int)))) = some true := by
      refine tV_ev (d := valD s c) rfl ?_
      show some (!(natD (layN 0 s c.1 c.2)).isEmpty) = _
      have : (natD (layN 0 s c.1 c.2)).isEmpty = false := by
        cases h : natD (layN 0 s c.1 c.2) with
        | nil => rw [h] at hlen; simp at hlen; omega
        | cons a l => rfl
      rw [this]
      rfl
    rw [if_T tt]
    have el : ∀ δ : Ev, eVar 6 δ = some (valD s c) → eOp oSub (eCall fLen (aCons (eVar 6) aNil)) (eC (.int 1)) δ = some (.int ((dep s c.1 c.2 - 1 : Nat) : Int)) := fun δ he => by
      refine (op_ev (x := .int (dep s c.1 c.2)) (y := .int 1) ((call1_ev he).trans ?_) rfl).trans ?_
      · show some (D.int (natD (layN 0 s c.1 c.2)).length) = _
        rw [hlen]
      · show some (D.int ((dep s c.1 c.2 : Int) - 1)) = _
        rw [show ((dep s c.1 c.2 - 1 : Nat) : Int) = (dep s c.1 c.2 : Int) - 1 by omega]
    have hlt : dep s c.1 c.2 - 1 < hs.length := by omega
    have hix : ixD (hs.map D.int).length ((dep s c.1 c.2 - 1 : Nat) : Int) = some (dep s c.1 c.2 - 1) := by
      unfold ixD
      rw [List.length_map, if_pos (by omega), if_pos (by omega), Int.toNat_natCast]
    have hg : (hs.map D.int)[dep s c.1 c.2 - 1]? = some (.int (hs.getD (dep s c.1 c.2 - 1) 0)) := by
      rw [List.getElem?_map, List.getElem?_eq_getElem hlt]
      simp [hlt]
    have ev : eBor 14 [4] (eOp oAdd (eOp oIx (eVar 4) (eOp oSub (eCall fLen (aCons (eVar 6) aNil)) (eC (.int 1)))) (eCall m__law_area (aCons (eVar 5) aNil))) (St x0 x1 x2 x3 none (some (bandD c)) (some (valD s c)) x7 x8 x9 x10 x11 x12 x13 (some (.lst (hs.map D.int)))) = some (.int (hs.getD (dep s c.1 c.2 - 1) 0 + (2 * (c.1 : Int) + 1))) := by
      have ef : frzs 14 [4] (St x0 x1 x2 x3 none (some (bandD c)) (some (valD s c)) x7 x8 x9 x10 x11 x12 x13 (some (.lst (hs.map D.int)))) = St x0 x1 x2 x3 (some (.lst (hs.map D.int))) (some (bandD c)) (some (valD s c)) x7 x8 x9 x10 x11 x12 x13 none := rfl
      have ei : eOp oIx (eVar 4) (eOp oSub (eCall fLen (aCons (eVar 6) aNil)) (eC (.int 1))) (St x0 x1 x2 x3 (some (.lst (hs.map D.int))) (some (bandD c)) (some (valD s c)) x7 x8 x9 x10 x11 x12 x13 none) = some (.int (hs.getD (dep s c.1 c.2 - 1) 0)) := by
        refine (op_ev (x := .lst (hs.map D.int)) rfl (el _ rfl)).trans ?_
        show (ixD (hs.map D.int).length ((dep s c.1 c.2 - 1 : Nat) : Int)).bind (fun j => (hs.map D.int)[j]?) = _
        rw [hix]
        exact hg
      unfold eBor
      rw [ef, op_ev ei ((call1_ev (x := bandD c) rfl).trans (r_law_area c))]
      rfl
    unfold sPutL
    rw [ev]
    simp only [Option.bind_some]
    rw [el _ rfl]
    simp only [Option.bind_some]
    rw [show ownAt 14 4 (St x0 x1 x2 x3 none (some (bandD c)) (some (valD s c)) x7 x8 x9 x10 x11 x12 x13 (some (.lst (hs.map D.int)))) = some (.lst (hs.map D.int)) from rfl]
    simp only
    rw [hix]
    simp only [Option.bind_some]
    unfold dueS
    rw [if_neg h0, List.map_set]
    rfl
def dueF (s : List Pc) (hs : List Int) (cs : List (Nat × Nat)) : List Int := cs.foldl (fun hs c => dueS s c hs) hs
theorem dueF_cons (s : List Pc) (hs : List Int) (c : Nat × Nat) (cs : List (Nat × Nat)) : dueF s hs (c :: cs) = dueF s (dueS s c hs) cs := by
  unfold dueF
  rw [List.foldl_cons]
theorem dueS_len (s : List Pc) (c : Nat × Nat) (hs : List Int) : (dueS s c hs).length = hs.length := by
  unfold dueS
  split <;> simp
theorem dueF_len (s : List Pc) : ∀ (cs : List (Nat × Nat)) (hs : List Int), (dueF s hs cs).length = hs.length
  | [], _ => rfl
  | c :: cs, hs => by rw [dueF_cons, dueF_len s cs, dueS_len]
theorem dueF_get (s : List Pc) (k : Nat) : ∀ (cs : List (Nat × Nat)) (hs : List Int), hs.length = s.length → (dueF s hs cs).getD k 0 = hs.getD k 0 + (cs.map fun c => if dep s c.1 c.2 = k + 1 then 2 * (c.1 : Int) + 1 else 0).sum
  | [], hs, _ => by simp [dueF]
  | c :: cs, hs, hl => by
    rw [dueF_cons, dueF_get s k cs _ (by rw [dueS_len, hl]), List.map_cons, List.sum_cons]
    have hd : dep s c.1 c.2 ≤ s.length := List.countP_le_length
    have : (dueS s c hs).getD k 0 = hs.getD k 0 + if dep s c.1 c.2 = k + 1 then 2 * (c.1 : Int) + 1 else 0 := by
      unfold dueS
      by_cases h0 : dep s c.1 c.2 = 0
      · rw [if_pos h0, if_neg (by omega)]
        simp
      · rw [if_neg h0]
        by_cases hk : dep s c.1 c.2 = k + 1
        · rw [if_pos hk, hk, Nat.add_sub_cancel]
          have : k < hs.length := by omega
          simp [List.getD_eq_getElem?_getD, List.getElem?_set, this]
        · have : dep s c.1 c.2 - 1 ≠ k := by omega
          rw [if_neg hk]
          simp [List.getD_eq_getElem?_getD, List.getElem?_set, this]
    omega
theorem due_eq (s : List Pc) : dueF s (List.replicate s.length 0) cells = (List.range s.length).map fun k => da s 9 (k + 1) := by
  refine List.ext_getElem (by rw [dueF_len]; simp) fun k h1 h2 => ?_
  have hk : k < s.length := by simpa using h2
  have g := dueF_get s k cells (List.replicate s.length 0) (by simp)
  rw [List.getElem_map, List.getElem_range, da_W]
  have e : (dueF s (List.replicate s.length 0) cells)[k] = (dueF s (List.replicate s.length 0) cells).getD k 0 := by simp [h1]
  rw [e, g]
  unfold W
  rw [show (List.replicate s.length (0 : Int)).getD k 0 = 0 by simp [List.getD_eq_getElem?_getD, List.getElem?_replicate, hk], Int.zero_add]
  exact sum_congr fun c _ => by simp
theorem due_loop {s : List Pc} (x0 x1 x2 x3 x7 x8 x9 x10 x11 x12 x13 : Option D) : ∀ (cs : List (Nat × Nat)) (hs : List Int) (x5 x6 : Option D), hs.length = s.length → ∃ y5 y6,
    forM (gT (gsCons (gN 5) (gsCons (gN 6) gsNil))) b_law_2 (cs.map fun c => .tup [bandD c, valD s c]) (St x0 x1 x2 x3 none x5 x6 x7 x8 x9 x10 x11 x12 x13 (some (.lst (hs.map D.int)))) =
      some (.nx (St x0 x1 x2 x3 none y5 y6 x7 x8 x9 x10 x11 x12 x13 (some (.lst ((dueF s hs cs).map D.int)))))
  | [], hs, x5, x6, _ => ⟨x5, x6, rfl⟩
  | c :: cs, hs, x5, x6, hl => by
    have hd : dep s c.1 c.2 ≤ s.length := List.countP_le_length
    obtain ⟨y5, y6, ih⟩ := due_loop x0 x1 x2 x3 x7 x8 x9 x10 x11 x12 x13 cs (dueS s c hs) (some (bandD c)) (some (valD s c)) (by rw [dueS_len, hl])
    refine ⟨y5, y6, ?_⟩
    rw [List.map_cons, for_cons (δ1 := St x0 x1 x2 x3 none (some (bandD c)) (some (valD s c)) x7 x8 x9 x10 x11 x12 x13 (some (.lst (hs.map D.int)))) rfl (due_step (by omega) x0 x1 x2 x3 x7 x8 x9 x10 x11 x12 x13), dueF_cons]
    exact ih
theorem items_ev {a : ME} {δ : Ev} {s : List Pc} (h : a δ = some (cellsD s)) : iItems a δ = some (cells.map fun c => .tup [bandD c, valD s c]) := by
  unfold iItems
  rw [h]
  simp only [Option.bind_some, cellsD]
  unfold zipD
  rw [List.zip_map, zip_self, List.map_map, List.map_map]
  rfl
theorem band_ev (m k : Nat) : Builtin.bitAnd ((m : Int) / 2 ^ k) 1 = ((m / 2 ^ k % 2 : Nat) : Int) := by
  have e : ((m : Int) / 2 ^ k) = ((m / 2 ^ k : Nat) : Int) := by
    rw [Int.natCast_ediv, Int.natCast_pow]
    rfl
  rw [e]
  generalize m / 2 ^ k = a
  unfold Builtin.bitAnd
  have h1 : decide (0 ≤ (a : Int)) = true := by simp
  have h2 : decide ((0 : Int) ≤ 1) = true := by decide
  rw [h1, h2]
  simp only [Int.toNat_natCast]
  rw [show ((1 : Int).toNat) = 1 from rfl, Nat.and_one_is_mod]
def bf (m : Nat) : D → Option D
  | .int k => if m / 2 ^ k.toNat % 2 = 1 then some (.int k) else none
  | _ => none
theorem bits_ev {n m : Nat} (hn : n ≤ 1000) {δ : Ev} (h2 : eCall fLen (aCons (eVar 2) aNil) δ = some (.int n)) (h10 : slot δ 10 = some (.int m)) :
    eComp 1 [10] (iRange (eCall fLen (aCons (eVar 2) aNil))) (gN 0) (tV (eOp oEq (eOp oBand (eOp oShr (eVar 1) (eVar 0)) (eC (.int 1))) (eC (.int 1)))) (eVar 0) δ = some (.lst (natD (bits n m))) := by
  have hp : pick 1 [10] δ = [none, some (.int m)] := by
    unfold pick
    rw [List.map_cons, List.map_nil, h10]
    rfl
  refine (comp_ev (bf m) (range_nat h2 (by omega)) (by simp [rangeD]; omega) fun x hx => ?_).trans ?_
  · obtain ⟨k, _, rfl⟩ := range_mem hx
    rw [hp]
    refine ⟨[some (.int k), some (.int m)], rfl, ?_⟩
    have hc : tV (eOp oEq (eOp oBand (eOp oShr (eVar 1) (eVar 0)) (eC (.int 1))) (eC (.int 1))) [some (.int k), some (.int m)] = some (decide (m / 2 ^ k % 2 = 1)) := by
      refine tV_ev (d := .bl (decide (m / 2 ^ k % 2 = 1))) ((op_ev (x := .int ((m / 2 ^ k % 2 : Nat) : Int)) (y := .int 1) ((op_ev (x := .int ((m : Int) / 2 ^ k)) (y := .int 1) ((op_ev (x := .int m) (y := .int k) rfl rfl).trans ?_) rfl).trans ?_) rfl).trans ?_) rfl
      · show (if (0 : Int) ≤ (k : Int) then some (D.int ((m : Int) / 2 ^ (k : Int).toNat)) else none) = _
        rw [if_pos (by omega), Int.toNat_natCast]
      · show some (D.int (Builtin.bitAnd ((m : Int) / 2 ^ k) 1)) = _
        rw [band_ev]
      · generalize m / 2 ^ k % 2 = a
        have : eqD (.int (a : Int)) (.int 1) = decide (a = 1) := by
          rw [Bool.eq_iff_iff]
          simp only [eqD, beq_iff_eq, decide_eq_true_eq]
          omega
        unfold oEq
        rw [if_pos ⟨by simp [depD], by simp [depD]⟩, this]
    rw [hc]
    have e : bf m (.int k) = if m / 2 ^ k % 2 = 1 then some (.int k) else none := rfl
    rw [e]
    by_cases hb : m / 2 ^ k % 2 = 1
    · exact .inl ⟨by rw [decide_eq_true hb], _, rfl, by rw [if_pos hb]⟩
    · exact .inr ⟨by rw [decide_eq_false hb], by rw [if_neg hb]⟩
  · refine congrArg (fun l => some (D.lst l)) ?_
    unfold bits rangeD natD
    generalize List.range n = l
    induction l with
    | nil => rfl
    | cons k l ih =>
      have e : bf m (.int k) = if m / 2 ^ k % 2 = 1 then some (.int k) else none := rfl
      rw [List.map_cons, List.filterMap_cons, e, List.filter_cons, ih]
      by_cases hb : m / 2 ^ k % 2 = 1
      · rw [if_pos hb, if_pos (by simpa using hb)]
        rfl
      · rw [if_neg hb, if_neg (by simpa using hb)]
theorem lay_mem : ∀ (s : List Pc) (k r t j : Nat), j ∈ layN k s r t ↔ k ≤ j ∧ (s.map fun p => p.has r t).getD (j - k) false = true
  | [], k, r, t, j => by simp [layN]
  | p :: s, k, r, t, j => by
    have ih := lay_mem s (k + 1) r t j
    unfold layN
    by_cases hj : j = k
    · subst hj
      have no : j ∉ layN (j + 1) s r t := fun z => by have := (ih.mp z).1; omega
      cases hp : p.has r t
      · simp [no, hp]
      · simp [hp]
    · have e : (if p.has r t = true then k :: layN (k + 1) s r t else layN (k + 1) s r t).contains j = (layN (k + 1) s r t).contains j := by
        split
        · have : (j == k) = false := by simpa using hj
          simp [this, hj]
        · rfl
      have e' : j ∈ (if p.has r t = true then k :: layN (k + 1) s r t else layN (k + 1) s r t) ↔ j ∈ layN (k + 1) s r t := by
        rw [← List.contains_iff_mem, ← List.contains_iff_mem, e]
      rw [e', ih]
      constructor
      · rintro ⟨h1, h2⟩
        refine ⟨by omega, ?_⟩
        rw [show j - k = (j - (k + 1)) + 1 by omega]
        simpa using h2
      · rintro ⟨h1, h2⟩
        refine ⟨by omega, ?_⟩
        rw [show j - k = (j - (k + 1)) + 1 by omega] at h2
        simpa using h2
theorem eqDs_nat : ∀ a b : List Nat, eqDs (natD a) (natD b) = decide (a = b)
  | [], [] => rfl
  | [], _ :: _ => rfl
  | _ :: _, [] => rfl
  | x :: a, y :: b => by
    have ih := eqDs_nat a b
    unfold natD at ih ⊢
    rw [List.map_cons, List.map_cons, eqDs, ih, Bool.eq_iff_iff]
    simp only [eqD, Bool.and_eq_true, beq_iff_eq, decide_eq_true_eq, List.cons.injEq]
    exact ⟨fun ⟨h1, h2⟩ => ⟨by omega, h2⟩, fun ⟨h1, h2⟩ => ⟨by omega, h2⟩⟩
theorem dep_nat (a : List Nat) : depDs (natD a) = 0 := by
  unfold natD
  induction a with
  | nil => rfl
  | cons x l ih => simp [depDs, depD, ih]
theorem eq_nat (a b : List Nat) : oEq (.lst (natD a)) (.lst (natD b)) = some (.bl (decide (a = b))) := by
  unfold oEq
  rw [if_pos ⟨by simp [depD, dep_nat], by simp [depD, dep_nat]⟩]
  simp only [eqD, eqDs_nat]
end DL.K03

set_option Elab.async false
set_option linter.all false
set_option maxRecDepth 100000
namespace DL.K03
open PySem DL DL.Pg
def inAll (s : List Pc) (sub : List Nat) (c : Nat × Nat) : Bool := sub.all fun k => decide (k ∈ layN 0 s c.1 c.2)
theorem inAll_sel {s : List Pc} (m : Nat) (c : Nat × Nat) : inAll s (bits s.length m) c = allOf (selN 0 s (bits s.length m)) c := by
  rw [sel_bits]
  unfold inAll
  refine congrArg (fun f => (bits s.length m).all f) (funext fun k => ?_)
  rw [Bool.eq_iff_iff, decide_eq_true_eq, lay_mem]
  simp
theorem pick_sub (sub : List Nat) (s : List Pc) (c : Nat × Nat) (hl : sub.length ≤ 1000) {δ : Ev} (h11 : eVar 11 δ = some (.tup (natD sub))) (h6 : slot δ 6 = some (valD s c)) :
    eComp 1 [6] (iSeq (eVar 11)) (gN 0) (tV (eOp oIn (eVar 0) (eVar 1))) (eVar 0) δ = some (.lst (natD (sub.filter fun k => decide (k ∈ layN 0 s c.1 c.2)))) := by
  have hp : pick 1 [6] δ = [none, some (valD s c)] := by
    unfold pick
    rw [List.map_cons, List.map_nil, h6]
    rfl
  have hi : iSeq (eVar 11) δ = some (natD sub) := by
    unfold iSeq
    rw [h11]
    rfl
  refine (comp_ev (fun d => match d with | .int k => if k.toNat ∈ layN 0 s c.1 c.2 then some (.int k) else none | _ => none) hi (by unfold natD; simp; omega) fun x hx => ?_).trans ?_
  · unfold natD at hx
    obtain ⟨k, _, rfl⟩ := List.mem_map.mp hx
    rw [hp]
    refine ⟨[some (.int k), some (valD s c)], rfl, ?_⟩
    have hc : tV (eOp oIn (eVar 0) (eVar 1)) [some (.int k), some (valD s c)] = some (decide (k ∈ layN 0 s c.1 c.2)) := tV_ev ((op_ev (x := .int k) (y := valD s c) rfl rfl).trans (in_nat k _)) rfl
    rw [hc]
    simp only [Int.toNat_natCast]
    by_cases hb : k ∈ layN 0 s c.1 c.2
    · exact .inl ⟨by rw [decide_eq_true hb], _, rfl, by rw [if_pos hb]⟩
    · exact .inr ⟨by rw [decide_eq_false hb], by rw [if_neg hb]⟩
  · refine congrArg (fun l => some (D.lst l)) ?_
    clear hp hi h11 hl
    unfold natD
    induction sub with
    | nil => rfl
    | cons k l ih =>
      rw [List.map_cons, List.filterMap_cons, List.filter_cons, ih]
      simp only [Int.toNat_natCast]
      by_cases hb : k ∈ layN 0 s c.1 c.2
      · rw [if_pos hb, if_pos (by simpa using hb)]
        rfl
      · rw [if_neg hb, if_neg (by simpa using hb)]
theorem wish_step {s : List Pc} {c : Nat × Nat} {sub : List Nat} (hl : sub.length ≤ 1000) (z : Int) (x0 x1 x2 x3 x4 x7 x8 x9 x10 x12 y : Option D) :
    b_law_4 (St x0 x1 x2 x3 x4 (some (bandD c)) (some (valD s c)) x7 x8 x9 x10 (some (.tup (natD sub))) x12 (some (.int z)) y) =
      some (.nx (St x0 x1 x2 x3 x4 (some (bandD c)) (some (valD s c)) x7 x8 x9 x10 (some (.tup (natD sub))) x12 (some (.int (z + if inAll s sub c = true then 2 * (c.1 : Int) + 1 else 0))) y)) := by
  have hc : tV (eOp oEq (eComp 1 [6] (iSeq (eVar 11)) (gN 0) (tV (eOp oIn (eVar 0) (eVar 1))) (eVar 0)) (eCall fList (aCons (eVar 11) aNil))) (St x0 x1 x2 x3 x4 (some (bandD c)) (some (valD s c)) x7 x8 x9 x10 (some (.tup (natD sub))) x12 (some (.int z)) y) = some (inAll s sub c) := by
    refine tV_ev (d := .bl (inAll s sub c)) ((op_ev (pick_sub sub s c hl rfl rfl) ((call1_ev (x := .tup (natD sub)) rfl).trans rfl)).trans ?_) rfl
    rw [eq_nat]
    refine congrArg (fun b => some (D.bl b)) ?_
    unfold inAll
    rw [Bool.eq_iff_iff, decide_eq_true_eq, List.filter_eq_self, List.all_eq_true]
  unfold b_law_4
  cases hb : inAll s sub c with
  | false =>
    rw [hb] at hc
    rw [if_F hc]
    simp only [Bool.false_eq_true, if_false, Int.add_zero]
    rfl
  | true =>
    rw [hb] at hc
    rw [if_T hc]
    refine (asg_ev ((op_ev (x := .int z) rfl ((call1_ev (x := bandD c) rfl).trans (r_law_area c))).trans rfl) rfl).trans ?_
    simp only [if_true]
    rfl
theorem wish_loop {s : List Pc} {sub : List Nat} (hl : sub.length ≤ 1000) (x0 x1 x2 x3 x4 x7 x8 x9 x10 x12 y : Option D) : ∀ (cs : List (Nat × Nat)) (z : Int) (x5 x6 : Option D), ∃ y5 y6,
    forM (gT (gsCons (gN 5) (gsCons (gN 6) gsNil))) b_law_4 (cs.map fun c => .tup [bandD c, valD s c]) (St x0 x1 x2 x3 x4 x5 x6 x7 x8 x9 x10 (some (.tup (natD sub))) x12 (some (.int z)) y) =
      some (.nx (St x0 x1 x2 x3 x4 y5 y6 x7 x8 x9 x10 (some (.tup (natD sub))) x12 (some (.int (z + (cs.map fun c => if inAll s sub c = true then 2 * (c.1 : Int) + 1 else 0).sum))) y))
  | [], z, x5, x6 => ⟨x5, x6, by rw [List.map_nil, List.map_nil, List.sum_nil, Int.add_zero]; rfl⟩
  | c :: cs, z, x5, x6 => by
    obtain ⟨y5, y6, ih⟩ := wish_loop hl x0 x1 x2 x3 x4 x7 x8 x9 x10 x12 y cs (z + if inAll s sub c = true then 2 * (c.1 : Int) + 1 else 0) (some (bandD c)) (some (valD s c))
    refine ⟨y5, y6, ?_⟩
    rw [List.map_cons, for_cons (δ1 := St x0 x1 x2 x3 x4 (some (bandD c)) (some (valD s c)) x7 x8 x9 x10 (some (.tup (natD sub))) x12 (some (.int z)) y) rfl (wish_step hl z x0 x1 x2 x3 x4 x7 x8 x9 x10 x12 y), ih, List.map_cons, List.sum_cons, Int.add_assoc]
theorem sg_ev (k : Nat) {a : ME} {δ : Ev} (h : a δ = some (.int k)) : eOp oIx (eLst (aCons (eUn uNeg (eC (.int 1))) (aCons (eC (.int 1)) aNil))) (eOp oMod a (eC (.int 2))) δ = some (.int (sg k)) := by
  have e1 : eOp oMod a (eC (.int 2)) δ = some (.int ((k % 2 : Nat) : Int)) := by
    refine (op_ev (y := .int 2) h rfl).trans ?_
    show (if (0 : Int) < 2 then some (D.int ((k : Int) % 2)) else none) = _
    rw [if_pos (by decide)]
    rw [show ((k % 2 : Nat) : Int) = (k : Int) % 2 by omega]
  refine (op_ev (x := .lst [.int (-1), .int 1]) rfl e1).trans ?_
  unfold sg
  rcases Nat.mod_two_eq_zero_or_one k with e | e
  · rw [e]
    rfl
  · rw [e]
    rfl
theorem ne_self {d : D} (h : depD d ≤ 30) : oNe d d = some (.bl false) := by
  unfold oNe
  rw [if_pos ⟨h, h⟩, eqD_refl]
  rfl
theorem bits_len (n m : Nat) : (bits n m).length ≤ n := by
  unfold bits
  have := List.length_filter_le (fun k => decide (m / 2 ^ k % 2 = 1)) (List.range n)
  rw [List.length_range] at this
  exact this
theorem turn_ev {s : List Pc} (h : ∀ p ∈ s, p.ok ∧ p.o ≤ 9) (h6 : s.length ≤ 6) {m : Nat} (m1 : 1 ≤ m) (m2 : m < 2 ^ s.length) (z : Int) (x0 x1 x4 x5 x6 x7 x8 x11 x12 x13 y : Option D) : ∃ y5 y6 y11 y12 y13,
    b_law_3 (St x0 x1 (some (shD s)) (some (cellsD s)) x4 x5 x6 x7 x8 (some (.int z)) (some (.int m)) x11 x12 x13 y) =
      some (.nx (St x0 x1 (some (shD s)) (some (cellsD s)) x4 y5 y6 x7 x8 (some (.int (z + W (allOf (selN 0 s (bits s.length m))) * sg (bits s.length m).length))) (some (.int m)) y11 y12 y13 y)) := by
  have hbl := bits_len s.length m
  have hlen : ∀ δ : Ev, eVar 2 δ = some (shD s) → eCall fLen (aCons (eVar 2) aNil) δ = some (.int s.length) := fun δ he => (call1_ev he).trans (by unfold shD fLen; simp)
  have hfin : ∀ (y5 y6 y13 : Option D), sAsg (eOp oAdd (eVar 9) (eOp oMul (eVar 12) (eOp oIx (eLst (aCons (eUn uNeg (eC (.int 1))) (aCons (eC (.int 1)) aNil))) (eOp oMod (eCall fLen (aCons (eVar 11) aNil)) (eC (.int 2)))))) (gN 9)
      (St x0 x1 (some (shD s)) (some (cellsD s)) x4 y5 y6 x7 x8 (some (.int z)) (some (.int m)) (some (.tup (natD (bits s.length m)))) (some (.int (W (allOf (selN 0 s (bits s.length m)))))) y13 y) =
      some (.nx (St x0 x1 (some (shD s)) (some (cellsD s)) x4 y5 y6 x7 x8 (some (.int (z + W (allOf (selN 0 s (bits s.length m))) * sg (bits s.length m).length))) (some (.int m)) (some (.tup (natD (bits s.length m)))) (some (.int (W (allOf (selN 0 s (bits s.length m)))))) y13 y)) := fun y5 y6 y13 => by
    have hs : small (sg (bits s.length m).length) = true := by unfold sg; split <;> decide
    refine (asg_ev ((op_ev (x := .int z) rfl ((op_ev (x := .int (W (allOf (selN 0 s (bits s.length m))))) rfl (sg_ev (bits s.length m).length ((call1_ev (x := .tup (natD (bits s.length m))) rfl).trans (by unfold fLen natD; simp)))).trans (mul_small hs))).trans rfl) rfl).trans ?_
    rfl
  unfold b_law_3
  rw [seq_nx (asg_ev (d := .tup (natD (bits s.length m))) (δ' := St x0 x1 (some (shD s)) (some (cellsD s)) x4 x5 x6 x7 x8 (some (.int z)) (some (.int m)) (some (.tup (natD (bits s.length m)))) x12 x13 y) ((call1_ev (bits_ev (by omega) (hlen _ rfl) rfl)).trans rfl) rfl)]
  rw [seq_nx (asg_ev (d := .int (W (allOf (selN 0 s (bits s.length m))))) (δ' := St x0 x1 (some (shD s)) (some (cellsD s)) x4 x5 x6 x7 x8 (some (.int z)) (some (.int m)) (some (.tup (natD (bits s.length m)))) (some (.int (W (allOf (selN 0 s (bits s.length m)))))) x13 y) ((call2_ev (x := shD s) (y := .tup (natD (bits s.length m))) rfl rfl).trans (r_shared h (by omega) _ (sel_some h6 m1 m2))) rfl)]
  by_cases h12 : (m : Int) < 12
  · obtain ⟨y5, y6, ew⟩ := wish_loop (s := s) (sub := bits s.length m) (by omega) x0 x1 (some (shD s)) (some (cellsD s)) x4 x7 x8 (some (.int z)) (some (.int m)) (some (.int (W (allOf (selN 0 s (bits s.length m)))))) y cells 0 x5 x6
    have hw : (0 : Int) + (cells.map fun c => if inAll s (bits s.length m) c = true then 2 * (c.1 : Int) + 1 else 0).sum = W (allOf (selN 0 s (bits s.length m))) := by
      rw [Int.zero_add]
      unfold W
      exact sum_congr fun c _ => by rw [inAll_sel]
    rw [hw] at ew
    refine ⟨y5, y6, some (.tup (natD (bits s.length m))), some (.int (W (allOf (selN 0 s (bits s.length m))))), some (.int (W (allOf (selN 0 s (bits s.length m))))), ?_⟩
    rw [seq_nx (δ' := St x0 x1 (some (shD s)) (some (cellsD s)) x4 y5 y6 x7 x8 (some (.int z)) (some (.int m)) (some (.tup (natD (bits s.length m)))) (some (.int (W (allOf (selN 0 s (bits s.length m)))))) (some (.int (W (allOf (selN 0 s (bits s.length m)))))) y) ?_]
    · exact hfin _ _ _
    · rw [if_T (tV_ev (d := .bl true) ((op_ev (x := .int m) (y := .int 12) rfl rfl).trans (by show some (D.bl (decide ((m : Int) < 12))) = _; rw [decide_eq_true h12])) rfl)]
      rw [seq_nx (asg_ev (d := .int 0) (δ' := St x0 x1 (some (shD s)) (some (cellsD s)) x4 x5 x6 x7 x8 (some (.int z)) (some (.int m)) (some (.tup (natD (bits s.length m)))) (some (.int (W (allOf (selN 0 s (bits s.length m)))))) (some (.int 0)) y) rfl rfl)]
      rw [seq_nx ((sfor_ev (items_ev (s := s) rfl)).trans ew)]
      rw [if_F (tV_ev (d := .bl false) ((op_ev (x := .int (W (allOf (selN 0 s (bits s.length m))))) (y := .int (W (allOf (selN 0 s (bits s.length m))))) rfl rfl).trans (ne_self (by simp [depD]))) rfl)]
      rfl
  · refine ⟨x5, x6, some (.tup (natD (bits s.length m))), some (.int (W (allOf (selN 0 s (bits s.length m))))), x13, ?_⟩
    rw [seq_nx (δ' := St x0 x1 (some (shD s)) (some (cellsD s)) x4 x5 x6 x7 x8 (some (.int z)) (some (.int m)) (some (.tup (natD (bits s.length m)))) (some (.int (W (allOf (selN 0 s (bits s.length m)))))) x13 y) ?_]
    · exact hfin _ _ _
    · rw [if_F (tV_ev (d := .bl false) ((op_ev (x := .int m) (y := .int 12) rfl rfl).trans (by show some (D.bl (decide ((m : Int) < 12))) = _; rw [decide_eq_false h12])) rfl)]
      rfl
theorem turns_ev {s : List Pc} (h : ∀ p ∈ s, p.ok ∧ p.o ≤ 9) (h6 : s.length ≤ 6) (x0 x1 x4 x7 x8 y : Option D) : ∀ (ms : List Nat) (z : Int) (x5 x6 x10 x11 x12 x13 : Option D), (∀ m ∈ ms, 1 ≤ m ∧ m < 2 ^ s.length) → ∃ y5 y6 y10 y11 y12 y13,
    forM (gN 10) b_law_3 (natD ms) (St x0 x1 (some (shD s)) (some (cellsD s)) x4 x5 x6 x7 x8 (some (.int z)) x10 x11 x12 x13 y) =
      some (.nx (St x0 x1 (some (shD s)) (some (cellsD s)) x4 y5 y6 x7 x8 (some (.int (z + (ms.map fun m => W (allOf (selN 0 s (bits s.length m))) * sg (bits s.length m).length).sum))) y10 y11 y12 y13 y))
  | [], z, x5, x6, x10, x11, x12, x13, _ => ⟨x5, x6, x10, x11, x12, x13, by rw [List.map_nil, List.sum_nil, Int.add_zero]; rfl⟩
  | m :: ms, z, x5, x6, x10, x11, x12, x13, hm => by
    obtain ⟨m1, m2⟩ := hm m List.mem_cons_self
    obtain ⟨z5, z6, z11, z12, z13, e⟩ := turn_ev h h6 m1 m2 z x0 x1 x4 x5 x6 x7 x8 x11 x12 x13 y
    obtain ⟨y5, y6, y10, y11, y12, y13, ih⟩ := turns_ev h h6 x0 x1 x4 x7 x8 y ms (z + W (allOf (selN 0 s (bits s.length m))) * sg (bits s.length m).length) z5 z6 (some (.int m)) z11 z12 z13 fun m' hm' => hm m' (List.mem_cons_of_mem _ hm')
    refine ⟨y5, y6, y10, y11, y12, y13, ?_⟩
    have e0 : natD (m :: ms) = .int m :: natD ms := rfl
    rw [e0, for_cons (δ1 := St x0 x1 (some (shD s)) (some (cellsD s)) x4 x5 x6 x7 x8 (some (.int z)) (some (.int m)) x11 x12 x13 y) rfl e, ih, List.map_cons, List.sum_cons, Int.add_assoc]
end DL.K03

set_option Elab.async false
set_option linter.all false
set_option maxRecDepth 100000
namespace DL.K03
open PySem DL DL.Pg
def F (s : List Pc) : List Int := (List.range s.length).map fun k => da s 9 (k + 1)
theorem F_len (s : List Pc) : (F s).length = s.length := by simp [F]
theorem r_depth {s : List Pc} (h : ∀ p ∈ s, p.ok ∧ p.o ≤ 9) (h6 : s.length ≤ 6) : m_depth_areas [shD s] = some (.tup ((F s).map D.int)) := by
  have h9 : ∀ p ∈ s, p.o ≤ 9 := fun p hp => (h p hp).2
  have hs : ∀ p ∈ s, p.ok := fun p hp => (h p hp).1
  rw [r_areas hs (by omega) (by have := edges_few hs h9; omega) h9]
  unfold F
  rw [List.map_map]
  rfl
theorem r_covered {s : List Pc} (h : ∀ p ∈ s, p.ok ∧ p.o ≤ 9) (h6 : s.length ≤ 6) : m_covered_area [shD s] = some (.int (F s).sum) := by
  refine fn_ev rfl ?_
  show b_covered_area [some (shD s)] = _
  unfold b_covered_area
  refine ret_ev ((call1_ev ((call1_ev (x := shD s) rfl).trans (r_depth h h6))).trans ?_)
  show (intsOf ((F s).map D.int)).bind _ = _
  rw [ints_map]
  rfl
theorem r_area {i o b w : Int} (hi : sm i) (ho : sm o) (hw : sm w) : m_area_of [.tup [.int i, .int o, .int b, .int w]] = some (.int ((o * o - i * i) * w)) := by
  have e1 : oMul (.int o) (.int o) = some (.int (o * o)) := mul_smallL (small_of ho)
  have e2 : oMul (.int i) (.int i) = some (.int (i * i)) := mul_smallL (small_of hi)
  have e3 : oMul (.int (o * o - i * i)) (.int w) = some (.int ((o * o - i * i) * w)) := mul_small (small_of hw)
  refine fn_ev rfl ?_
  show b_area_of [some (.tup [.int i, .int o, .int b, .int w])] = _
  unfold b_area_of
  exact ret_ev ((op_ev ((op_ev ((op_ev (x := .int o) (y := .int o) rfl rfl).trans e1) ((op_ev (x := .int i) (y := .int i) rfl rfl).trans e2)).trans rfl) (y := .int w) rfl).trans e3)
theorem r_area_p {p : Pc} (h : p.ok) (h9 : p.o ≤ 9) : m_area_of [pD p] = some (.int (W fun c => p.has c.1 c.2)) := by
  rw [area_W h h9]
  obtain ⟨h1, h2, h3, h4, h5⟩ := h
  exact r_area ⟨by omega, by omega⟩ ⟨by omega, by omega⟩ ⟨by omega, by omega⟩
theorem r_whole (i : Int) : m__law_whole [.int i] = some (.bl true) := rfl
theorem every_ev {s : List Pc} (h : ∀ p ∈ s, p.ok ∧ p.o ≤ 9) (h6 : s.length ≤ 6) {δ : Ev} (h2 : eVar 2 δ = some (shD s)) :
    eComp 1 [] (iSeq (eVar 2)) (gN 0) tT (eCall m_area_of (aCons (eVar 0) aNil)) δ = some (.lst ((s.map fun p => W fun c => p.has c.1 c.2).map D.int)) := by
  have hi : iSeq (eVar 2) δ = some (s.map pD) := by
    unfold iSeq
    rw [h2]
    rfl
  refine (comp_ev (fun d => some (.int (W fun c => (pcBack d).has c.1 c.2))) hi (by simp; omega) fun x hx => ?_).trans ?_
  · obtain ⟨p, hp, rfl⟩ := List.mem_map.mp hx
    exact ⟨[some (pD p)], rfl, .inl ⟨rfl, _, (call1_ev (x := pD p) rfl).trans (r_area_p (h p hp).1 (h p hp).2), rfl⟩⟩
  · rw [List.filterMap_eq_map', List.map_map, List.map_map]
    rfl
theorem all_true : ∀ l : List Int, allB (l.map fun _ => D.bl true) = some true
  | [] => rfl
  | _ :: l => by rw [List.map_cons, allB, all_true l]; rfl
theorem whole_ev {l : List Int} (hl : l.length ≤ 1000) {δ : Ev} (h7 : eVar 7 δ = some (.tup (l.map D.int))) :
    eCall fAll (aCons (eComp 1 [] (iSeq (eVar 7)) (gN 0) tT (eCall m__law_whole (aCons (eVar 0) aNil))) aNil) δ = some (.bl true) := by
  have hi : iSeq (eVar 7) δ = some (l.map D.int) := by
    unfold iSeq
    rw [h7]
    rfl
  refine (call1_ev (comp_ev (fun _ => some (.bl true)) hi (by simp; omega) fun x hx => ?_)).trans ?_
  · obtain ⟨i, _, rfl⟩ := List.mem_map.mp hx
    exact ⟨[some (.int i)], rfl, .inl ⟨rfl, _, (call1_ev (x := .int i) rfl).trans (r_whole i), rfl⟩⟩
  · rw [List.filterMap_eq_map', List.map_map]
    show (allB (l.map fun _ => D.bl true)).bind _ = _
    rw [all_true]
    rfl
def kf : D → Option D
  | .tup [.int k, .int v] => some (.int ((k + 1) * v))
  | _ => none
theorem enum_int : ∀ {l : List Int} {k : Nat} {x : D}, x ∈ enumD k (l.map D.int) → ∃ (j : Nat) (v : Int), j < k + l.length ∧ x = .tup [.int j, .int v]
  | [], _, _, h => by cases h
  | v :: l, k, x, h => by
    rw [List.map_cons, enumD] at h
    rcases List.mem_cons.mp h with rfl | h
    · exact ⟨k, v, by simp, rfl⟩
    · obtain ⟨j, v', h1, h2⟩ := enum_int h
      exact ⟨j, v', by simp; omega, h2⟩
def tms : Nat → List Int → List Int
  | _, [] => []
  | k, v :: l => ((k : Int) + 1) * v :: tms (k + 1) l
theorem kf_all : ∀ (l : List Int) (k : Nat), (enumD k (l.map D.int)).filterMap kf = (tms k l).map D.int
  | [], _ => rfl
  | v :: l, k => by
    rw [List.map_cons, enumD, List.filterMap_cons, tms, List.map_cons, ← kf_all l (k + 1)]
    rfl
theorem tms_range (f : Nat → Int) : ∀ (n k : Nat), tms k ((List.range' k n).map f) = (List.range' k n).map fun (j : Nat) => ((j : Int) + 1) * f j
  | 0, _ => rfl
  | n + 1, k => by rw [List.range'_succ, List.map_cons, List.map_cons, tms, tms_range f n (k + 1)]
theorem tms_F (s : List Pc) : (tms 0 (F s)).sum = (s.map fun p => W fun c => p.has c.1 c.2).sum := by
  rw [← depths_W]
  unfold F
  rw [List.range_eq_range', tms_range]
theorem sum_int {a : ME} {δ : Ev} {l : List Int} (h : a δ = some (.lst (l.map D.int))) : eCall fSum (aCons a aNil) δ = some (.int l.sum) := by
  refine (call1_ev h).trans ?_
  show (intsOf (l.map D.int)).bind _ = _
  rw [ints_map]
  rfl
theorem depths_ev {l : List Int} (hl : l.length ≤ 1000) {δ : Ev} (h7 : eVar 7 δ = some (.tup (l.map D.int))) :
    eCall fSum (aCons (eComp 2 [] (iEnum (eVar 7)) (gT (gsCons (gN 0) (gsCons (gN 1) gsNil))) tT (eOp oMul (eOp oAdd (eVar 0) (eC (.int 1))) (eVar 1))) aNil) δ = some (.int (tms 0 l).sum) := by
  have hi : iEnum (eVar 7) δ = some (enumD 0 (l.map D.int)) := by
    unfold iEnum
    rw [h7]
    rfl
  refine sum_int ((comp_ev kf hi (by rw [enum_len]; simp; omega) fun x hx => ?_).trans (by rw [kf_all]))
  obtain ⟨j, v, hj, rfl⟩ := enum_int hx
  have hs : small ((j : Int) + 1) = true := small_of ⟨by omega, by omega⟩
  exact ⟨[some (.int j), some (.int v)], rfl, .inl ⟨rfl, _, (op_ev ((op_ev (x := .int j) (y := .int 1) rfl rfl).trans rfl) (y := .int v) rfl).trans (mul_smallL hs), rfl⟩⟩
theorem numbers_ev {n : Nat} (hn : n ≤ 6) {a : ME} {δ : Ev} (h : a δ = some (.int n)) : iRange2 (eC (.int 1)) (eOp oShl (eC (.int 1)) a) δ = some (natD (List.range' 1 (2 ^ n - 1))) := by
  have e : eOp oShl (eC (.int 1)) a δ = oShl (.int 1) (.int n) := op_ev rfl h
  unfold iRange2
  rw [e]
  have : n = 0 ∨ n = 1 ∨ n = 2 ∨ n = 3 ∨ n = 4 ∨ n = 5 ∨ n = 6 := by omega
  rcases this with e | e | e | e | e | e | e <;> (subst e; rfl)
theorem zeros_comp {s : List Pc} (h6 : s.length ≤ 6) {δ : Ev} (h2 : eVar 2 δ = some (shD s)) : eComp 1 [] (iSeq (eVar 2)) (gN 0) tT (eC (.int 0)) δ = some (.lst ((List.replicate s.length (0 : Int)).map D.int)) := by
  have hi : iSeq (eVar 2) δ = some (s.map pD) := by
    unfold iSeq
    rw [h2]
    rfl
  refine (comp_ev (fun _ => some (.int 0)) hi (by simp; omega) fun x hx => ⟨[some x], rfl, .inl ⟨rfl, _, rfl, rfl⟩⟩).trans ?_
  rw [List.filterMap_eq_map', List.map_map, List.map_replicate]
  exact congrArg (fun l => some (D.lst l)) List.map_const'
theorem dep_ints (l : List Int) : depDs (l.map D.int) = 0 := by
  induction l with
  | nil => rfl
  | cons a l ih => simp [depDs, depD, ih]
theorem r_law1 (x0 : Option D) (c : Int) (x2 x3 x4 x5 x6 x7 x8 x9 x10 x11 x12 x13 : Option D) : ∃ y2 y3 y4 y5 y6 y7 y8 y9 y10 y11 y12 y13,
    b_law_1 (St x0 (some (.int c)) x2 x3 x4 x5 x6 x7 x8 x9 x10 x11 x12 x13 none) = some (.nx (St x0 (some (.int c)) y2 y3 y4 y5 y6 y7 y8 y9 y10 y11 y12 y13 none)) := by
  obtain ⟨h6, hok⟩ := sh_ok c 8 (by decide) (by decide)
  have esh := r_sheet c 8 (by decide)
  generalize shL c 8 = s at h6 hok esh
  have h : ∀ p ∈ s, p.ok ∧ p.o ≤ 9 := fun p hp => ⟨(hok p hp).1, by have := (hok p hp).2; omega⟩
  have hs : ∀ p ∈ s, p.ok := fun p hp => (hok p hp).1
  have hFl : (F s).length ≤ 1000 := by rw [F_len]; omega
  obtain ⟨z5, z6, ed⟩ := due_loop (s := s) x0 (some (.int c)) (some (shD s)) (some (cellsD s)) x7 x8 x9 x10 x11 x12 x13 cells (List.replicate s.length 0) x5 x6 (by simp)
  rw [due_eq] at ed
  obtain ⟨y5, y6, y10, y11, y12, y13, et⟩ := turns_ev h h6 x0 (some (.int c)) (some (.lst ((F s).map D.int))) (some (.tup ((F s).map D.int))) (some (.lst ((s.map fun p => W fun c => p.has c.1 c.2).map D.int))) none (List.range' 1 (2 ^ s.length - 1)) 0 z5 z6 x10 x11 x12 x13 fun m hm => by
    rw [List.mem_range'_1] at hm
    have : 0 < 2 ^ s.length := Nat.two_pow_pos _
    omega
  rw [in_turn h6, ← covered_W, Int.zero_add] at et
  refine ⟨some (shD s), some (cellsD s), some (.lst ((F s).map D.int)), y5, y6, some (.tup ((F s).map D.int)), some (.lst ((s.map fun p => W fun c => p.has c.1 c.2).map D.int)), some (.int (F s).sum), y10, y11, y12, y13, ?_⟩
  unfold b_law_1
  rw [seq_nx (asg_ev (d := shD s) (δ' := St x0 (some (.int c)) (some (shD s)) x3 x4 x5 x6 x7 x8 x9 x10 x11 x12 x13 none) ((call3_ev (x := .int c) (y := .int 8) (z := .int 6) rfl rfl rfl).trans esh) rfl)]
  rw [seq_nx (asg_ev (d := cellsD s) (δ' := St x0 (some (.int c)) (some (shD s)) (some (cellsD s)) x4 x5 x6 x7 x8 x9 x10 x11 x12 x13 none) ((call2_ev (x := shD s) (y := .int 8) rfl rfl).trans (r_law_cells hs (by omega))) rfl)]
  rw [seq_nx (δ' := St x0 (some (.int c)) (some (shD s)) (some (cellsD s)) none x5 x6 x7 x8 x9 x10 x11 x12 x13 (some (.lst ((List.replicate s.length (0 : Int)).map D.int)))) (by unfold sOwn; rw [zeros_comp (s := s) h6 rfl]; rfl)]
  rw [seq_nx ((sfor_ev (items_ev (s := s) rfl)).trans ed)]
  unfold sFrz
  have ef : frzs 14 [4] (St x0 (some (.int c)) (some (shD s)) (some (cellsD s)) none z5 z6 x7 x8 x9 x10 x11 x12 x13 (some (.lst ((F s).map D.int)))) = St x0 (some (.int c)) (some (shD s)) (some (cellsD s)) (some (.lst ((F s).map D.int))) z5 z6 x7 x8 x9 x10 x11 x12 x13 none := rfl
  show (sSeq _ _) (frzs 14 [4] (St x0 (some (.int c)) (some (shD s)) (some (cellsD s)) none z5 z6 x7 x8 x9 x10 x11 x12 x13 (some (.lst ((F s).map D.int))))) = _
  rw [ef]
  rw [seq_nx (asg_ev (d := .tup ((F s).map D.int)) (δ' := St x0 (some (.int c)) (some (shD s)) (some (cellsD s)) (some (.lst ((F s).map D.int))) z5 z6 (some (.tup ((F s).map D.int))) x8 x9 x10 x11 x12 x13 none) ((call1_ev (x := shD s) rfl).trans (r_depth h h6)) rfl)]
  have hne : depD (.tup ((F s).map D.int)) ≤ 30 := by simp [depD, dep_ints]
  rw [seq_nx ((if_F (tOr_ev (x := false) (y := false) (tV_ev (d := .bl false) ((op_ev (x := .tup ((F s).map D.int)) (y := .tup ((F s).map D.int)) rfl ((call1_ev (x := .lst ((F s).map D.int)) rfl).trans rfl)).trans (ne_self hne)) rfl) (tNot_ev (tV_ev (d := .bl true) (whole_ev hFl rfl) rfl)))).trans rfl)]
  rw [seq_nx ((if_F (tOr_ev (x := false) (y := false) (tV_ev (d := .bl false) ((op_ev (x := .int (F s).sum) (y := .int (F s).sum) ((call1_ev (x := shD s) rfl).trans (r_covered h h6)) (sum_int (l := F s) rfl)).trans (ne_self (by simp [depD]))) rfl) (tNot_ev (tV_ev (d := .bl true) ((call1_ev (x := .int (F s).sum) ((call1_ev (x := shD s) rfl).trans (r_covered h h6))).trans (r_whole _)) rfl)))).trans rfl)]
  rw [seq_nx (asg_ev (d := .lst ((s.map fun p => W fun c => p.has c.1 c.2).map D.int)) (δ' := St x0 (some (.int c)) (some (shD s)) (some (cellsD s)) (some (.lst ((F s).map D.int))) z5 z6 (some (.tup ((F s).map D.int))) (some (.lst ((s.map fun p => W fun c => p.has c.1 c.2).map D.int))) x9 x10 x11 x12 x13 none) (every_ev h h6 rfl) rfl)]
  rw [seq_nx ((if_F (tV_ev (d := .bl false) ((op_ev (x := .int (tms 0 (F s)).sum) (y := .int (tms 0 (F s)).sum) (depths_ev hFl rfl) ((sum_int (l := s.map fun p => W fun c => p.has c.1 c.2) rfl).trans (by rw [tms_F]))).trans (ne_self (by simp [depD]))) rfl)).trans rfl)]
  rw [seq_nx (asg_ev (d := .int 0) (δ' := St x0 (some (.int c)) (some (shD s)) (some (cellsD s)) (some (.lst ((F s).map D.int))) z5 z6 (some (.tup ((F s).map D.int))) (some (.lst ((s.map fun p => W fun c => p.has c.1 c.2).map D.int))) (some (.int 0)) x10 x11 x12 x13 none) rfl rfl)]
  have hlen : ∀ δ : Ev, eVar 2 δ = some (shD s) → eCall fLen (aCons (eVar 2) aNil) δ = some (.int s.length) := fun δ he => (call1_ev he).trans (by unfold shD fLen; simp)
  rw [seq_nx ((sfor_ev (numbers_ev h6 (hlen _ rfl))).trans et)]
  rw [if_F (tV_ev (d := .bl false) ((op_ev (x := .int (F s).sum) (y := .int (F s).sum) rfl ((call1_ev (x := shD s) rfl).trans (r_covered h h6))).trans (ne_self (by simp [depD]))) rfl)]
  rfl
theorem r_law (ns : List Int) : m_law [.lst (ns.map .int)] = some (.bl true) := by
  refine fn_ev rfl ?_
  show b_law (St (some (.lst (ns.map .int))) none none none none none none none none none none none none none none) = _
  unfold b_law
  obtain ⟨δ', e1, x1, x2, x3, x4, x5, x6, x7, x8, x9, x10, x11, x12, x13, rfl⟩ := for_ev (g := gN 1) (body := b_law_1) (fun δ => ∃ x1 x2 x3 x4 x5 x6 x7 x8 x9 x10 x11 x12 x13, δ = St (some (.lst (ns.map .int))) x1 x2 x3 x4 x5 x6 x7 x8 x9 x10 x11 x12 x13 none) ((ns.map D.int).take 3) (St (some (.lst (ns.map .int))) none none none none none none none none none none none none none none) ⟨_, _, _, _, _, _, _, _, _, _, _, _, _, rfl⟩ fun x hx δ hP => by
    obtain ⟨z1, z2, z3, z4, z5, z6, z7, z8, z9, z10, z11, z12, z13, rfl⟩ := hP
    obtain ⟨c, _, rfl⟩ := List.mem_map.mp (List.mem_of_mem_take hx)
    obtain ⟨w2, w3, w4, w5, w6, w7, w8, w9, w10, w11, w12, w13, h1⟩ := r_law1 (some (.lst (ns.map .int))) c z2 z3 z4 z5 z6 z7 z8 z9 z10 z11 z12 z13
    exact ⟨St (some (.lst (ns.map .int))) (some (.int c)) z2 z3 z4 z5 z6 z7 z8 z9 z10 z11 z12 z13 none, _, rfl, .inl h1, _, _, _, _, _, _, _, _, _, _, _, _, _, rfl⟩
  refine (seq_nx ((sfor_ev (xs := (ns.map D.int).take 3) rfl).trans e1)).trans ?_
  refine ret_ev ?_
  have h1 : m_depth_areas [.tup []] = some (.tup []) := r_depth (s := []) (fun p hp => by cases hp) (by decide)
  have h2 : m_covered_area [.tup []] = some (.int 0) := r_covered (s := []) (fun p hp => by cases hp) (by decide)
  have h3 : m_area_of [.tup [.int 0, .int 999, .int 0, .int 24]] = some (.int 23952024) := (r_area (i := 0) (o := 999) (b := 0) (w := 24) ⟨by decide, by decide⟩ ⟨by decide, by decide⟩ ⟨by decide, by decide⟩).trans rfl
  unfold eAnd
  rw [op_ev ((call1_ev (x := .tup []) rfl).trans h1) rfl]
  rw [op_ev ((call1_ev (x := .tup []) rfl).trans h2) rfl]
  rw [op_ev ((call1_ev (x := .tup [.int 0, .int 999, .int 0, .int 24]) rfl).trans h3) rfl]
  rfl
end DL.K03

set_option Elab.async false
set_option linter.all false
set_option maxRecDepth 100000
namespace DL.Pg
end DL.Pg
namespace DL.K03
open PySem PySem.Spec PyProof.Rows L2 DL DL.Pg
def top (i : Nat) : Stmt := PySem.Challenge.pw_ringlayers_k03_whole_areas.main.body.getD i (.Pass ⟨0, 0, 0, 0⟩)
abbrev s__law_mix : Stmt := top 17
abbrev s__law_piece : Stmt := top 18
abbrev s__law_sheet : Stmt := top 19
abbrev s__law_has : Stmt := top 21
abbrev s__law_layers : Stmt := top 22
abbrev s__law_cells : Stmt := top 23
abbrev s_bands_between : Stmt := top 5
abbrev s_span_of : Stmt := top 2
abbrev s_edges_of : Stmt := top 4
abbrev s_turns_of : Stmt := top 3
abbrev s_add_change : Stmt := top 7
abbrev s_depth_changes : Stmt := top 6
abbrev s_depth_rows : Stmt := top 8
abbrev s_cell_area : Stmt := top 9
abbrev s_depth_areas : Stmt := top 12
abbrev s_area_of : Stmt := top 11
abbrev s_shared_area : Stmt := top 14
abbrev s_covered_area : Stmt := top 13
abbrev s__law_whole : Stmt := top 20
abbrev s__law_area : Stmt := top 24
abbrev s_law : Stmt := top 25
structure Txt (K : PySem.W.Frag) (mg : Str → Option Value) where
  f__law_mix : Addr
  fd__law_mix : FuncData
  F__law_mix : Fun K "_law_mix" "_law_mix" s__law_mix f__law_mix fd__law_mix
  b__law_mix : Binds K fd__law_mix ["_law_cell_here", "_law_prime", "_law_many"] []
  g__law_mix : mg "_law_mix" = some (.ref f__law_mix)
  f__law_piece : Addr
  fd__law_piece : FuncData
  F__law_piece : Fun K "_law_piece" "_law_piece" s__law_piece f__law_piece fd__law_piece
  b__law_piece : Binds K fd__law_piece ["_law_cell_here", "_law_most"] []
  g__law_piece : mg "_law_piece" = some (.ref f__law_piece)
  f__law_sheet : Addr
  fd__law_sheet : FuncData
  F__law_sheet : Fun K "_law_sheet" "_law_sheet" s__law_sheet f__law_sheet fd__law_sheet
  b__law_sheet : Binds K fd__law_sheet ["_law_cell_here", "_law_most", "_law_many"] []
  g__law_sheet : mg "_law_sheet" = some (.ref f__law_sheet)
  f__law_has : Addr
  fd__law_has : FuncData
  F__law_has : Fun K "_law_has" "_law_has" s__law_has f__law_has fd__law_has
  b__law_has : Binds K fd__law_has ["_law_piece_here", "_law_far", "_law_turn"] []
  g__law_has : mg "_law_has" = some (.ref f__law_has)
  f__law_layers : Addr
  fd__law_layers : FuncData
  F__law_layers : Fun K "_law_layers" "_law_layers" s__law_layers f__law_layers fd__law_layers
  b__law_layers : Binds K fd__law_layers ["_law_sheet_here", "_law_point"] []
  g__law_layers : mg "_law_layers" = some (.ref f__law_layers)
  f__law_cells : Addr
  fd__law_cells : FuncData
  F__law_cells : Fun K "_law_cells" "_law_cells" s__law_cells f__law_cells fd__law_cells
  b__law_cells : Binds K fd__law_cells ["_law_sheet_here", "_law_most"] []
  g__law_cells : mg "_law_cells" = some (.ref f__law_cells)
  f_bands_between : Addr
  fd_bands_between : FuncData
  F_bands_between : Fun K "bands_between" "bands_between" s_bands_between f_bands_between fd_bands_between
  b_bands_between : Binds K fd_bands_between ["edges"] []
  g_bands_between : mg "bands_between" = some (.ref f_bands_between)
  f_span_of : Addr
  fd_span_of : FuncData
  F_span_of : Fun K "span_of" "span_of" s_span_of f_span_of fd_span_of
  b_span_of : Binds K fd_span_of ["piece"] []
  g_span_of : mg "span_of" = some (.ref f_span_of)
  f_edges_of : Addr
  fd_edges_of : FuncData
  F_edges_of : Fun K "edges_of" "edges_of" s_edges_of f_edges_of fd_edges_of
  b_edges_of : Binds K fd_edges_of ["sheet"] []
  g_edges_of : mg "edges_of" = some (.ref f_edges_of)
  f_turns_of : Addr
  fd_turns_of : FuncData
  F_turns_of : Fun K "turns_of" "turns_of" s_turns_of f_turns_of fd_turns_of
  b_turns_of : Binds K fd_turns_of ["piece"] []
  g_turns_of : mg "turns_of" = some (.ref f_turns_of)
  f_add_change : Addr
  fd_add_change : FuncData
  F_add_change : Fun K "add_change" "add_change" s_add_change f_add_change fd_add_change
  b_add_change : Binds K fd_add_change ["changes", "far", "piece", "by"] []
  g_add_change : mg "add_change" = some (.ref f_add_change)
  f_depth_changes : Addr
  fd_depth_changes : FuncData
  F_depth_changes : Fun K "depth_changes" "depth_changes" s_depth_changes f_depth_changes fd_depth_changes
  b_depth_changes : Binds K fd_depth_changes ["sheet"] []
  g_depth_changes : mg "depth_changes" = some (.ref f_depth_changes)
  f_depth_rows : Addr
  fd_depth_rows : FuncData
  F_depth_rows : Fun K "depth_rows" "depth_rows" s_depth_rows f_depth_rows fd_depth_rows
  b_depth_rows : Binds K fd_depth_rows ["sheet", "bands"] []
  g_depth_rows : mg "depth_rows" = some (.ref f_depth_rows)
  f_cell_area : Addr
  fd_cell_area : FuncData
  F_cell_area : Fun K "cell_area" "cell_area" s_cell_area f_cell_area fd_cell_area
  b_cell_area : Binds K fd_cell_area ["band"] []
  g_cell_area : mg "cell_area" = some (.ref f_cell_area)
  f_depth_areas : Addr
  fd_depth_areas : FuncData
  F_depth_areas : Fun K "depth_areas" "depth_areas" s_depth_areas f_depth_areas fd_depth_areas
  b_depth_areas : Binds K fd_depth_areas ["sheet"] []
  g_depth_areas : mg "depth_areas" = some (.ref f_depth_areas)
  f_area_of : Addr
  fd_area_of : FuncData
  F_area_of : Fun K "area_of" "area_of" s_area_of f_area_of fd_area_of
  b_area_of : Binds K fd_area_of ["piece"] []
  g_area_of : mg "area_of" = some (.ref f_area_of)
  f_shared_area : Addr
  fd_shared_area : FuncData
  F_shared_area : Fun K "shared_area" "shared_area" s_shared_area f_shared_area fd_shared_area
  b_shared_area : Binds K fd_shared_area ["sheet", "numbers"] []
  g_shared_area : mg "shared_area" = some (.ref f_shared_area)
  f_covered_area : Addr
  fd_covered_area : FuncData
  F_covered_area : Fun K "covered_area" "covered_area" s_covered_area f_covered_area fd_covered_area
  b_covered_area : Binds K fd_covered_area ["sheet"] []
  g_covered_area : mg "covered_area" = some (.ref f_covered_area)
  f__law_whole : Addr
  fd__law_whole : FuncData
  F__law_whole : Fun K "_law_whole" "_law_whole" s__law_whole f__law_whole fd__law_whole
  b__law_whole : Binds K fd__law_whole ["_law_found"] []
  g__law_whole : mg "_law_whole" = some (.ref f__law_whole)
  f__law_area : Addr
  fd__law_area : FuncData
  F__law_area : Fun K "_law_area" "_law_area" s__law_area f__law_area fd__law_area
  b__law_area : Binds K fd__law_area ["_law_cell_here"] []
  g__law_area : mg "_law_area" = some (.ref f__law_area)
  f_law : Addr
  fd_law : FuncData
  F_law : Fun K "law" "law" s_law f_law fd_law
  b_law : Binds K fd_law ["_law_script"] []
  g_law : mg "law" = some (.ref f_law)
  k_WHOLE_TURN : Tok
  c_WHOLE_TURN : mg "WHOLE_TURN" = some (.int 24 k_WHOLE_TURN)
  z_all : mg "all" = none
  z_bool : mg "bool" = none
  z_enumerate : mg "enumerate" = none
  z_int : mg "int" = none
  z_isinstance : mg "isinstance" = none
  z_len : mg "len" = none
  z_list : mg "list" = none
  z_max : mg "max" = none
  z_min : mg "min" = none
  z_range : mg "range" = none
  z_set : mg "set" = none
  z_sorted : mg "sorted" = none
  z_sum : mg "sum" = none
  z_tuple : mg "tuple" = none
  z_zip : mg "zip" = none
section
variable {P : Program} {w : World} {K : PySem.W.Frag} {mg : Str → Option Value} {base : Heap}
theorem sc__law_mix : FnScope ["_law_cell_here", "_law_prime", "_law_many"] ["_law_cell_here", "_law_prime", "_law_many"] (defScope s__law_mix) := ⟨rfl, rfl, rfl, by decide +kernel, rfl, by decide +kernel, by decide +kernel⟩
theorem ok__law_mix (T : Txt K mg) : FnOk P w K mg base CX0 1 T.f__law_mix T.fd__law_mix ["_law_cell_here", "_law_prime", "_law_many"] (spD K m__law_mix) :=
  fn_okM (k := 0) (kk := 3) (m := b__law_mix) (by decide) T.F__law_mix sc__law_mix rfl fun cdv A outer s H E hr =>
    have hu := hr.units
    (dss_one (ds_ret (de_op od_mod (de_op od_mod (de_op od_mul (de_var 0 (pv 0)) de_int) (de_var 1 (pv 1))) (de_var 2 (pv 2)))))
theorem sc__law_piece : FnScope ["_law_cell_here", "_law_most", "_law_inner", "_law_outer", "_law_wide"] ["_law_cell_here", "_law_most"] (defScope s__law_piece) := ⟨rfl, rfl, rfl, by decide +kernel, rfl, by decide +kernel, by decide +kernel⟩
theorem ok__law_piece (T : Txt K mg) : FnOk P w K mg base CX0 2 T.f__law_piece T.fd__law_piece ["_law_cell_here", "_law_most"] (spD K m__law_piece) :=
  fn_okM (k := 1) (kk := 5) (m := b__law_piece) (by decide) T.F__law_piece sc__law_piece rfl fun cdv A outer s H E hr =>
    have hu := hr.units
    (dss_cons (ds_asg (de_call (ok__law_mix T) (hr.mono (by decide)) rfl T.g__law_mix T.F__law_mix.kp T.b__law_mix (da_cons (de_var 0 (pv 0)) (da_cons de_int (da_cons (de_var 1 (pv 1)) da_nil)))) (dg_name (pg_name (i := 2) sc__law_piece.nd rfl (Or.inl rfl))))
    (dss_cons (ds_asg (de_op od_add (de_op od_add (de_var 2 (pv 2)) de_int) (de_call (ok__law_mix T) (hr.mono (by decide)) rfl T.g__law_mix T.F__law_mix.kp T.b__law_mix (da_cons (de_var 0 (pv 0)) (da_cons de_int (da_cons (de_op od_sub (de_var 1 (pv 1)) (de_var 2 (pv 2))) da_nil))))) (dg_name (pg_name (i := 3) sc__law_piece.nd rfl (Or.inl rfl))))
    (dss_cons (ds_asg (de_op od_add de_int (de_call (ok__law_mix T) (hr.mono (by decide)) rfl T.g__law_mix T.F__law_mix.kp T.b__law_mix (da_cons (de_var 0 (pv 0)) (da_cons de_int (da_cons de_int da_nil))))) (dg_name (pg_name (i := 4) sc__law_piece.nd rfl (Or.inl rfl))))
    (dss_cons (ds_if (dt_cmp (od_eq hu) (de_op od_mod (de_var 0 (pv 0)) de_int) de_int (nomark _) bl_eq) (dss_one (ds_asg de_int (dg_name (pg_name (i := 4) sc__law_piece.nd rfl (Or.inl rfl))))) dss_nil)
    (dss_one (ds_ret (de_tup (da_cons (de_var 2 (pv 2)) (da_cons (de_var 3 (pv 3)) (da_cons (de_call (ok__law_mix T) (hr.mono (by decide)) rfl T.g__law_mix T.F__law_mix.kp T.b__law_mix (da_cons (de_var 0 (pv 0)) (da_cons de_int (da_cons de_int da_nil)))) (da_cons (de_var 4 (pv 4)) da_nil)))) (by decide))))))))
theorem sc__law_sheet : FnScope ["_law_cell_here", "_law_most", "_law_many"] ["_law_cell_here", "_law_most", "_law_many"] (defScope s__law_sheet) := ⟨rfl, rfl, rfl, by decide +kernel, rfl, by decide +kernel, by decide +kernel⟩
theorem ok__law_sheet (T : Txt K mg) : FnOk P w K mg base CX0 3 T.f__law_sheet T.fd__law_sheet ["_law_cell_here", "_law_most", "_law_many"] (spD K m__law_sheet) :=
  fn_okM (k := 2) (kk := 3) (m := b__law_sheet) (by decide) T.F__law_sheet sc__law_sheet rfl fun cdv A outer s H E hr =>
    have hu := hr.units
    (dss_one (ds_ret (de_callTy cd_tuple rfl T.z_tuple rfl (da_cons (de_comp (scX := defScope s__law_sheet) (NX := ["_law_cell_here", "_law_most", "_law_many"]) (N := ["_law_k", "_law_most", "_law_cell_here"]) (k := 1) (fv := [1, 0]) rfl ⟨rfl, by decide +kernel, by decide +kernel, by decide +kernel, rfl, by decide +kernel, by decide +kernel⟩ rfl rfl (di_range rfl T.z_range (de_call (ok__law_mix T) (hr.mono (by decide)) rfl T.g__law_mix T.F__law_mix.kp T.b__law_mix (da_cons (de_var 0 (pv 0)) (da_cons de_int (da_cons (de_op od_add (de_var 2 (pv 2)) de_int) da_nil))))) (below_name (by decide)) (fun _ _ _ _ => ⟨(dg_name (pg_name (i := 0) (show List.Nodup (α := Str) ["_law_k", "_law_most", "_law_cell_here"] by decide +kernel) rfl (Or.inl rfl))), rfl, (de_call (ok__law_piece T) (hr.mono (by decide)) rfl T.g__law_piece T.F__law_piece.kp T.b__law_piece (da_cons (de_op od_add (de_var 2 (pv 2)) (de_op od_mul de_int (de_var 0 (pv 0)))) (da_cons (de_var 1 (pv 1)) da_nil)))⟩)) da_nil))))
theorem sc__law_has : FnScope ["_law_piece_here", "_law_far", "_law_turn", "_law_inner", "_law_outer", "_law_begin", "_law_wide"] ["_law_piece_here", "_law_far", "_law_turn"] (defScope s__law_has) := ⟨rfl, rfl, rfl, by decide +kernel, rfl, by decide +kernel, by decide +kernel⟩
theorem ok__law_has (T : Txt K mg) : FnOk P w K mg base CX0 1 T.f__law_has T.fd__law_has ["_law_piece_here", "_law_far", "_law_turn"] (spD K m__law_has) :=
  fn_okM (k := 0) (kk := 7) (m := b__law_has) (by decide) T.F__law_has sc__law_has rfl fun cdv A outer s H E hr =>
    have hu := hr.units
    (dss_cons (ds_asg (de_var 0 (pv 0)) (dg_tup rfl (dgs_cons (dg_name (pg_name (i := 3) sc__law_has.nd rfl (Or.inl rfl))) (dgs_cons (dg_name (pg_name (i := 4) sc__law_has.nd rfl (Or.inl rfl))) (dgs_cons (dg_name (pg_name (i := 5) sc__law_has.nd rfl (Or.inl rfl))) (dgs_cons (dg_name (pg_name (i := 6) sc__law_has.nd rfl (Or.inl rfl))) dgs_nil)))) (gsCons_len (gsCons_len (gsCons_len (gsCons_len gsNil_len))))))
    (dss_cons (ds_if (DW.dt (dw_or (dt_cmp od_lt (de_ix id_ix (de_var 1 (pv 1)) de_int (fun _ _ => rfl)) (de_op od_mul (de_var 3 (pv 3)) (de_ix id_ix (de_var 1 (pv 1)) de_int (fun _ _ => rfl))) (nomark _) bl_lt) (dw_or1 (dt_cmp od_ge (de_ix id_ix (de_var 1 (pv 1)) de_int (fun _ _ => rfl)) (de_op od_mul (de_var 4 (pv 4)) (de_ix id_ix (de_var 1 (pv 1)) de_int (fun _ _ => rfl))) (nomark _) bl_ge)))) (dss_one (ds_ret de_bl)) dss_nil)
    (dss_one (ds_ret (de_cmp od_lt (de_op od_mod (de_op od_sub (de_ix id_ix (de_var 2 (pv 2)) de_int (fun _ _ => rfl)) (de_op od_mul (de_var 5 (pv 5)) (de_ix id_ix (de_var 2 (pv 2)) de_int (fun _ _ => rfl)))) (de_op od_mul de_int (de_ix id_ix (de_var 2 (pv 2)) de_int (fun _ _ => rfl)))) (de_op od_mul (de_var 6 (pv 6)) (de_ix id_ix (de_var 2 (pv 2)) de_int (fun _ _ => rfl))) (nomark _))))))
theorem sc__law_layers : FnScope ["_law_sheet_here", "_law_point"] ["_law_sheet_here", "_law_point"] (defScope s__law_layers) := ⟨rfl, rfl, rfl, by decide +kernel, rfl, by decide +kernel, by decide +kernel⟩
theorem ok__law_layers (T : Txt K mg) : FnOk P w K mg base CX0 2 T.f__law_layers T.fd__law_layers ["_law_sheet_here", "_law_point"] (spD K m__law_layers) :=
  fn_okM (k := 1) (kk := 2) (m := b__law_layers) (by decide) T.F__law_layers sc__law_layers rfl fun cdv A outer s H E hr =>
    have hu := hr.units
    (dss_one (ds_ret (de_callTy cd_tuple rfl T.z_tuple rfl (da_cons (de_comp (scX := defScope s__law_layers) (NX := ["_law_sheet_here", "_law_point"]) (N := ["_law_k", "_law_piece_here", "_law_point"]) (k := 2) (fv := [1]) rfl ⟨rfl, by decide +kernel, by decide +kernel, by decide +kernel, rfl, by decide +kernel, by decide +kernel⟩ rfl rfl (di_enum rfl T.z_enumerate (de_var 0 (pv 0))) (below_tup (belows_cons (below_name (by decide)) (belows_cons (below_name (by decide)) belows_nil))) (fun _ _ _ _ => ⟨(dg_tup rfl (dgs_cons (dg_name (pg_name (i := 0) (show List.Nodup (α := Str) ["_law_k", "_law_piece_here", "_law_point"] by decide +kernel) rfl (Or.inl rfl))) (dgs_cons (dg_name (pg_name (i := 1) (show List.Nodup (α := Str) ["_law_k", "_law_piece_here", "_law_point"] by decide +kernel) rfl (Or.inl rfl))) dgs_nil)) (gsCons_len (gsCons_len gsNil_len))), (dt_val (de_call (ok__law_has T) (hr.mono (by decide)) rfl T.g__law_has T.F__law_has.kp T.b__law_has (da_cons (de_var 1 (pv 1)) (da_cons (de_ix id_ix (de_var 2 (pv 2)) de_int (fun _ _ => rfl)) (da_cons (de_ix id_ix (de_var 2 (pv 2)) de_int (fun _ _ => rfl)) da_nil))))), (de_var 0 (pv 0))⟩)) da_nil))))
theorem sc__law_cells : FnScope ["_law_sheet_here", "_law_most", "_law_found", "_law_ring", "_law_turn"] ["_law_sheet_here", "_law_most"] (defScope s__law_cells) := ⟨rfl, rfl, rfl, by decide +kernel, rfl, by decide +kernel, by decide +kernel⟩
theorem ok__law_cells (T : Txt K mg) : FnOk P w K mg base CX0 3 T.f__law_cells T.fd__law_cells ["_law_sheet_here", "_law_most"] (spD K m__law_cells) :=
  fn_okM (k := 2) (kk := 10) (m := b__law_cells) (by decide) T.F__law_cells sc__law_cells rfl fun cdv A outer s H E hr =>
    have hu := hr.units
    (dss_cons (ds_own (n := 5) (i := 2) rfl (by decide) df_dnewT (pg_name (i := 2) sc__law_cells.nd rfl (Or.inl rfl)))
    (dss_cons (ds_for PassesOwn.never rfl (di_range rfl T.z_range (de_op od_add (de_var 1 (pv 1)) de_int)) (dg_name (pg_name (i := 3) sc__law_cells.nd rfl (Or.inl rfl)))
    (dss_one (ds_for PassesOwn.never rfl (di_range rfl T.z_range de_int) (dg_name (pg_name (i := 4) sc__law_cells.nd rfl (Or.inl rfl)))
    (dss_one (ds_putT (n := 5) (i := 2) (Nat.lt_of_le_of_lt (Nat.add_le_add_left (by decide) _) hu) rfl (by decide) rfl (pv 2) (de_tup (da_cons (de_var 3 (pv 3)) (da_cons (de_var 4 (pv 4)) da_nil)) (by decide)) (de_call (ok__law_layers T) (hr.mono (by decide)) rfl T.g__law_layers T.F__law_layers.kp T.b__law_layers (da_cons (de_var 0 (pv 0)) (da_cons (de_tup (da_cons (de_tup (da_cons (de_op od_add (de_op od_mul de_int (de_var 3 (pv 3))) de_int) (da_cons de_int da_nil)) (by decide)) (da_cons (de_tup (da_cons (de_op od_add (de_op od_mul de_int (de_var 4 (pv 4))) de_int) (da_cons de_int da_nil)) (by decide)) da_nil)) (by decide)) da_nil))))))))
    (dss_frzD (n := 5) (i := 2) rfl (by decide) rfl (dss_one (ds_ret (de_var 2 (pv 2)))))))
theorem sc_bands_between : FnScope ["edges"] ["edges"] (defScope s_bands_between) := ⟨rfl, rfl, rfl, by decide +kernel, rfl, by decide +kernel, by decide +kernel⟩
theorem ok_bands_between (T : Txt K mg) : FnOk P w K mg base CX0 1 T.f_bands_between T.fd_bands_between ["edges"] (spD K m_bands_between) :=
  fn_okM (k := 0) (kk := 1) (m := b_bands_between) (by decide) T.F_bands_between sc_bands_between rfl fun cdv A outer s H E hr =>
    have hu := hr.units
    (dss_one (ds_ret (de_listzip rfl rfl T.z_list rfl T.z_zip (de_var 0 (pv 0)) (de_from 1 (de_var 0 (pv 0))))))
theorem sc_span_of : FnScope ["piece", "inner"] ["piece"] (defScope s_span_of) := ⟨rfl, rfl, rfl, by decide +kernel, rfl, by decide +kernel, by decide +kernel⟩
theorem ok_span_of (T : Txt K mg) : FnOk P w K mg base CX0 1 T.f_span_of T.fd_span_of ["piece"] (spD K m_span_of) :=
  fn_okM (k := 0) (kk := 2) (m := b_span_of) (by decide) T.F_span_of sc_span_of rfl fun cdv A outer s H E hr =>
    have hu := hr.units
    (dss_cons (ds_asg (de_callB (cd_max rfl) rfl T.z_max rfl (da_cons (de_ix id_ix (de_var 0 (pv 0)) de_int (fun _ _ => rfl)) (da_cons de_int da_nil))) (dg_name (pg_name (i := 1) sc_span_of.nd rfl (Or.inl rfl))))
    (dss_one (ds_ret (de_tup (da_cons (de_var 1 (pv 1)) (da_cons (de_callB (cd_max rfl) rfl T.z_max rfl (da_cons (de_ix id_ix (de_var 0 (pv 0)) de_int (fun _ _ => rfl)) (da_cons (de_var 1 (pv 1)) da_nil))) da_nil)) (by decide)))))
theorem sc_edges_of : FnScope ["sheet", "fars", "piece"] ["sheet"] (defScope s_edges_of) := ⟨rfl, rfl, rfl, by decide +kernel, rfl, by decide +kernel, by decide +kernel⟩
theorem ok_edges_of (T : Txt K mg) : FnOk P w K mg base CX0 2 T.f_edges_of T.fd_edges_of ["sheet"] (spD K m_edges_of) :=
  fn_okM (k := 1) (kk := 6) (m := b_edges_of) (by decide) T.F_edges_of sc_edges_of rfl fun cdv A outer s H E hr =>
    have hu := hr.units
    (dss_cons (ds_own (n := 3) (i := 1) rfl (by decide) (df_lst (da_cons de_int da_nil) (by decide)) (pg_name (i := 1) sc_edges_of.nd rfl (Or.inl rfl)))
    (dss_cons (ds_for PassesOwn.never rfl (di_seq (de_var 0 (pv 0))) (dg_name (pg_name (i := 2) sc_edges_of.nd rfl (Or.inl rfl)))
    (dss_one (ds_ext (n := 3) (i := 1) rfl (by decide) rfl (pv 1) (de_call (ok_span_of T) (hr.mono (by decide)) rfl T.g_span_of T.F_span_of.kp T.b_span_of (da_cons (de_var 2 (pv 2)) da_nil)))))
    (dss_frz (n := 3) (is := [1]) rfl (by decide) rfl (dss_one (ds_ret (de_sortset rfl rfl T.z_sorted rfl T.z_set (de_var 1 (pv 1))))))))
theorem sc_turns_of : FnScope ["piece", "wide"] ["piece"] (defScope s_turns_of) := ⟨rfl, rfl, rfl, by decide +kernel, rfl, by decide +kernel, by decide +kernel⟩
theorem ok_turns_of (T : Txt K mg) : FnOk P w K mg base CX0 1 T.f_turns_of T.fd_turns_of ["piece"] (spD K m_turns_of) :=
  fn_okM (k := 0) (kk := 2) (m := b_turns_of) (by decide) T.F_turns_of sc_turns_of rfl fun cdv A outer s H E hr =>
    have hu := hr.units
    (dss_cons (ds_asg (de_callB (cd_min rfl) rfl T.z_min rfl (da_cons (de_ix id_ix (de_var 0 (pv 0)) de_int (fun _ _ => rfl)) (da_cons (de_glob rfl T.c_WHOLE_TURN) da_nil))) (dg_name (pg_name (i := 1) sc_turns_of.nd rfl (Or.inl rfl))))
    (dss_one (ds_ret (de_comp (scX := defScope s_turns_of) (NX := ["piece", "wide"]) (N := ["step", "piece"]) (k := 1) (fv := [0]) rfl ⟨rfl, by decide +kernel, by decide +kernel, by decide +kernel, rfl, by decide +kernel, by decide +kernel⟩ rfl rfl (di_range rfl T.z_range (de_var 1 (pv 1))) (below_name (by decide)) (fun _ _ _ _ => ⟨(dg_name (pg_name (i := 0) (show List.Nodup (α := Str) ["step", "piece"] by decide +kernel) rfl (Or.inl rfl))), rfl, (de_op od_mod (de_op od_add (de_ix id_ix (de_var 1 (pv 1)) de_int (fun _ _ => rfl)) (de_var 0 (pv 0))) (de_glob rfl T.c_WHOLE_TURN))⟩)))))
theorem sc_add_change : FnScope ["changes", "far", "piece", "by", "row", "turn"] ["changes", "far", "piece", "by"] (defScope s_add_change) := ⟨rfl, rfl, rfl, by decide +kernel, rfl, by decide +kernel, by decide +kernel⟩
theorem ok_add_change (T : Txt K mg) : FnOk P w K mg base CX0 2 T.f_add_change T.fd_add_change ["changes", "far", "piece", "by"] (spAdd K m_turns_of) :=
  T.F_add_change.ok sc_add_change (fun vs H Q E h => by obtain ⟨_, _, _, _, _, _, _, _, rfl, _⟩ := h; rfl) fun cdv A outer s H vs Q E hr hq =>
    ⟨_, pss_cons (ps_set (i := 4) sc_add_change.nd rfl (Or.inl rfl) (pe_setd (pv 0) (pv 1) (pe_op op_rep (pe_lst (pa_cons pe_int pa_nil)) (pe_glob (v := .int 24) rfl T.c_WHOLE_TURN ⟨_, rfl⟩)))) (pss_one (ps_for PassesOwn.never rfl (pi_list (pe_call (ok_turns_of T) (hr.mono (by decide)) rfl T.g_turns_of T.F_turns_of.kp T.b_turns_of .nil pass0 (pa_cons (pv 2) pa_nil))) (pg_name (i := 5) sc_add_change.nd rfl (Or.inl rfl)) (pss_one (ps_augS (pv 4) (pv 5) get_list (pv 3) ip_add set_list)))), add_read rfl hq fun _ _ z => z⟩
theorem sc_depth_changes : FnScope ["sheet", "changes", "piece", "span"] ["sheet"] (defScope s_depth_changes) := ⟨rfl, rfl, rfl, by decide +kernel, rfl, by decide +kernel, by decide +kernel⟩
theorem ok_depth_changes (T : Txt K mg) : FnOk P w K mg base CX0 3 T.f_depth_changes T.fd_depth_changes ["sheet"] (spD K m_depth_changes) :=
  T.F_depth_changes.ok sc_depth_changes (fun vs H Q E h => dc_len h) fun cdv A outer s H vs Q E hr hq =>
    ⟨_, pss_cons (ps_set (i := 1) sc_depth_changes.nd rfl (Or.inl rfl) pe_dnewK) (pss_cons (ps_for PassesOwn.never rfl (pi_tup (pv 0)) (pg_name (i := 2) sc_depth_changes.nd rfl (Or.inl rfl)) (pss_cons (ps_set (i := 3) sc_depth_changes.nd rfl (Or.inl rfl) (pe_call (ok_span_of T) (hr.mono (by decide)) rfl T.g_span_of T.F_span_of.kp T.b_span_of .nil pass0 (pa_cons (pv 2) pa_nil))) (pss_cons (ps_expr (pe_call (ok_add_change T) (hr.mono (by decide)) rfl T.g_add_change T.F_add_change.kp T.b_add_change .nil pass0 (pa_cons (pv 1) (pa_cons (pe_ix ix_tup (pv 3) pe_int (fun _ _ => rfl)) (pa_cons (pv 2) (pa_cons pe_int pa_nil)))))) (pss_one (ps_expr (pe_call (ok_add_change T) (hr.mono (by decide)) rfl T.g_add_change T.F_add_change.kp T.b_add_change .nil pass0 (pa_cons (pv 1) (pa_cons (pe_ix ix_tup (pv 3) pe_int (fun _ _ => rfl)) (pa_cons (pv 2) (pa_cons (pe_un un_neg pe_int) pa_nil)))))))))) (pss_still (pss_one (ps_ret (pv 1))))), dc_read rfl hq⟩
theorem sc_depth_rows : FnScope ["sheet", "bands", "changes", "rows", "row", "band", "change"] ["sheet", "bands"] (defScope s_depth_rows) := ⟨rfl, rfl, rfl, by decide +kernel, rfl, by decide +kernel, by decide +kernel⟩
theorem ok_depth_rows (T : Txt K mg) : FnOk P w K mg base CX0 4 T.f_depth_rows T.fd_depth_rows ["sheet", "bands"] (spD K m_depth_rows) :=
  fn_okM (k := 3) (kk := 14) (m := b_depth_rows) (by decide) T.F_depth_rows sc_depth_rows rfl fun cdv A outer s H E hr =>
    have hu := hr.units
    (dss_cons (ds_asg (de_call (ok_depth_changes T) (hr.mono (by decide)) rfl T.g_depth_changes T.F_depth_changes.kp T.b_depth_changes (da_cons (de_var 0 (pv 0)) da_nil)) (dg_name (pg_name (i := 2) sc_depth_rows.nd rfl (Or.inl rfl))))
    (dss_cons (ds_own (n := 7) (i := 3) rfl (by decide) (df_lst da_nil (by decide)) (pg_name (i := 3) sc_depth_rows.nd rfl (Or.inl rfl)))
    (dss_cons (ds_asg (DF.de (df_rep (df_lst (da_cons de_int da_nil) (by decide)) (de_glob rfl T.c_WHOLE_TURN)) (lstM_rep _ _)) (dg_name (pg_name (i := 4) sc_depth_rows.nd rfl (Or.inl rfl))))
    (dss_cons (ds_for PassesOwn.never rfl (di_seq (de_var 1 (pv 1))) (dg_name (pg_name (i := 5) sc_depth_rows.nd rfl (Or.inl rfl)))
    (dss_cons (ds_asg (de_get2 (Nat.lt_of_le_of_lt (Nat.add_le_add_left (by decide) _) hu) (de_var 2 (pv 2)) (de_ix id_ix (de_var 5 (pv 5)) de_int (fun _ _ => rfl)) (DF.de (df_rep (df_lst (da_cons de_int da_nil) (by decide)) (de_glob rfl T.c_WHOLE_TURN)) (lstM_rep _ _))) (dg_name (pg_name (i := 6) sc_depth_rows.nd rfl (Or.inl rfl))))
    (dss_cons (ds_asgC (i := 4) rfl (pg_name (i := 4) sc_depth_rows.nd rfl (Or.inl rfl)) (scX := defScope s_depth_rows) (NX := ["sheet", "bands", "changes", "rows", "row", "band", "change"]) (N := ["depth", "by"]) (k := 2) (fv := []) rfl ⟨rfl, by decide +kernel, by decide +kernel, by decide +kernel, rfl, by decide +kernel, by decide +kernel⟩ rfl rfl (di_zip rfl T.z_zip (de_var 4 (pv 4)) (de_var 6 (pv 6))) (below_tup (belows_cons (below_name (by decide)) (belows_cons (below_name (by decide)) belows_nil))) (fun _ _ _ _ => ⟨(dg_tup rfl (dgs_cons (dg_name (pg_name (i := 0) (show List.Nodup (α := Str) ["depth", "by"] by decide +kernel) rfl (Or.inl rfl))) (dgs_cons (dg_name (pg_name (i := 1) (show List.Nodup (α := Str) ["depth", "by"] by decide +kernel) rfl (Or.inl rfl))) dgs_nil)) (gsCons_len (gsCons_len gsNil_len))), rfl, (de_op od_add (de_var 0 (pv 0)) (de_var 1 (pv 1)))⟩))
    (dss_one (ds_app (n := 7) (i := 3) rfl (by decide) rfl (pv 3) (de_var 4 (pv 4)))))))
    (dss_frz (n := 7) (is := [3]) rfl (by decide) rfl (dss_one (ds_ret (de_var 3 (pv 3)))))))))
theorem sc_cell_area : FnScope ["band"] ["band"] (defScope s_cell_area) := ⟨rfl, rfl, rfl, by decide +kernel, rfl, by decide +kernel, by decide +kernel⟩
theorem ok_cell_area (T : Txt K mg) : FnOk P w K mg base CX0 1 T.f_cell_area T.fd_cell_area ["band"] (spD K m_cell_area) :=
  fn_okM (k := 0) (kk := 1) (m := b_cell_area) (by decide) T.F_cell_area sc_cell_area rfl fun cdv A outer s H E hr =>
    have hu := hr.units
    (dss_one (ds_ret (de_op od_sub (de_op od_mul (de_ix id_ix (de_var 0 (pv 0)) de_int (fun _ _ => rfl)) (de_ix id_ix (de_var 0 (pv 0)) de_int (fun _ _ => rfl))) (de_op od_mul (de_ix id_ix (de_var 0 (pv 0)) de_int (fun _ _ => rfl)) (de_ix id_ix (de_var 0 (pv 0)) de_int (fun _ _ => rfl))))))
theorem sc_depth_areas : FnScope ["sheet", "areas", "bands", "band", "row", "depth"] ["sheet"] (defScope s_depth_areas) := ⟨rfl, rfl, rfl, by decide +kernel, rfl, by decide +kernel, by decide +kernel⟩
theorem ok_depth_areas (T : Txt K mg) : FnOk P w K mg base CX0 5 T.f_depth_areas T.fd_depth_areas ["sheet"] (spD K m_depth_areas) :=
  fn_okM (k := 4) (kk := 12) (m := b_depth_areas) (by decide) T.F_depth_areas sc_depth_areas rfl fun cdv A outer s H E hr =>
    have hu := hr.units
    (dss_cons (ds_own (n := 6) (i := 1) rfl (by decide) (df_rep (df_lst (da_cons de_int da_nil) (by decide)) (de_op od_add (de_callB cd_len rfl T.z_len PySem.boot_len (da_cons (de_var 0 (pv 0)) da_nil)) de_int)) (pg_name (i := 1) sc_depth_areas.nd rfl (Or.inl rfl)))
    (dss_cons (ds_asg (de_call (ok_bands_between T) (hr.mono (by decide)) rfl T.g_bands_between T.F_bands_between.kp T.b_bands_between (da_cons (de_call (ok_edges_of T) (hr.mono (by decide)) rfl T.g_edges_of T.F_edges_of.kp T.b_edges_of (da_cons (de_var 0 (pv 0)) da_nil)) da_nil)) (dg_name (pg_name (i := 2) sc_depth_areas.nd rfl (Or.inl rfl))))
    (dss_cons (ds_for PassesOwn.never rfl (di_zip rfl T.z_zip (de_var 2 (pv 2)) (de_call (ok_depth_rows T) (hr.mono (by decide)) rfl T.g_depth_rows T.F_depth_rows.kp T.b_depth_rows (da_cons (de_var 0 (pv 0)) (da_cons (de_var 2 (pv 2)) da_nil)))) (dg_tup rfl (dgs_cons (dg_name (pg_name (i := 3) sc_depth_areas.nd rfl (Or.inl rfl))) (dgs_cons (dg_name (pg_name (i := 4) sc_depth_areas.nd rfl (Or.inl rfl))) dgs_nil)) (gsCons_len (gsCons_len gsNil_len)))
    (dss_one (ds_for PassesOwn.never rfl (di_seq (de_var 4 (pv 4))) (dg_name (pg_name (i := 5) sc_depth_areas.nd rfl (Or.inl rfl)))
    (dss_one (ds_augL (n := 6) (i := 1) rfl (by decide) rfl (pv 1) (de_var 5 (pv 5)) (de_call (ok_cell_area T) (hr.mono (by decide)) rfl T.g_cell_area T.F_cell_area.kp T.b_cell_area (da_cons (de_var 3 (pv 3)) da_nil)))))))
    (dss_frz (n := 6) (is := [1]) rfl (by decide) rfl (dss_one (ds_ret (de_callTy cd_tuple rfl T.z_tuple rfl (da_cons (de_from 1 (de_var 1 (pv 1))) da_nil))))))))
theorem sc_area_of : FnScope ["piece"] ["piece"] (defScope s_area_of) := ⟨rfl, rfl, rfl, by decide +kernel, rfl, by decide +kernel, by decide +kernel⟩
theorem ok_area_of (T : Txt K mg) : FnOk P w K mg base CX0 1 T.f_area_of T.fd_area_of ["piece"] (spD K m_area_of) :=
  fn_okM (k := 0) (kk := 1) (m := b_area_of) (by decide) T.F_area_of sc_area_of rfl fun cdv A outer s H E hr =>
    have hu := hr.units
    (dss_one (ds_ret (de_op od_mul (de_op od_sub (de_op od_mul (de_ix id_ix (de_var 0 (pv 0)) de_int (fun _ _ => rfl)) (de_ix id_ix (de_var 0 (pv 0)) de_int (fun _ _ => rfl))) (de_op od_mul (de_ix id_ix (de_var 0 (pv 0)) de_int (fun _ _ => rfl)) (de_ix id_ix (de_var 0 (pv 0)) de_int (fun _ _ => rfl)))) (de_ix id_ix (de_var 0 (pv 0)) de_int (fun _ _ => rfl)))))
theorem sc_shared_area : FnScope ["sheet", "numbers", "shared"] ["sheet", "numbers"] (defScope s_shared_area) := ⟨rfl, rfl, rfl, by decide +kernel, rfl, by decide +kernel, by decide +kernel⟩
theorem ok_shared_area (T : Txt K mg) : FnOk P w K mg base CX0 6 T.f_shared_area T.fd_shared_area ["sheet", "numbers"] (spD K m_shared_area) :=
  fn_okM (k := 5) (kk := 3) (m := b_shared_area) (by decide) T.F_shared_area sc_shared_area rfl fun cdv A outer s H E hr =>
    have hu := hr.units
    (dss_cons (ds_asg (de_callTy cd_tuple rfl T.z_tuple rfl (da_cons (de_comp (scX := defScope s_shared_area) (NX := ["sheet", "numbers", "shared"]) (N := ["number", "piece", "numbers"]) (k := 2) (fv := [1]) rfl ⟨rfl, by decide +kernel, by decide +kernel, by decide +kernel, rfl, by decide +kernel, by decide +kernel⟩ rfl rfl (di_enum rfl T.z_enumerate (de_var 0 (pv 0))) (below_tup (belows_cons (below_name (by decide)) (belows_cons (below_name (by decide)) belows_nil))) (fun _ _ _ _ => ⟨(dg_tup rfl (dgs_cons (dg_name (pg_name (i := 0) (show List.Nodup (α := Str) ["number", "piece", "numbers"] by decide +kernel) rfl (Or.inl rfl))) (dgs_cons (dg_name (pg_name (i := 1) (show List.Nodup (α := Str) ["number", "piece", "numbers"] by decide +kernel) rfl (Or.inl rfl))) dgs_nil)) (gsCons_len (gsCons_len gsNil_len))), (dt_cmp (od_in hu) (de_var 0 (pv 0)) (de_var 2 (pv 2)) rfl bl_in), (de_var 1 (pv 1))⟩)) da_nil)) (dg_name (pg_name (i := 2) sc_shared_area.nd rfl (Or.inl rfl))))
    (dss_cons (ds_if (dt_cmp (od_eq hu) (de_callB cd_len rfl T.z_len PySem.boot_len (da_cons (de_var 2 (pv 2)) da_nil)) de_int (nomark _) bl_eq) (dss_one (ds_ret de_int)) dss_nil)
    (dss_one (ds_ret (de_ix id_ix (de_call (ok_depth_areas T) (hr.mono (by decide)) rfl T.g_depth_areas T.F_depth_areas.kp T.b_depth_areas (da_cons (de_var 2 (pv 2)) da_nil)) (de_un ud_neg de_int) (fun _ _ => rfl))))))
theorem sc_covered_area : FnScope ["sheet"] ["sheet"] (defScope s_covered_area) := ⟨rfl, rfl, rfl, by decide +kernel, rfl, by decide +kernel, by decide +kernel⟩
theorem ok_covered_area (T : Txt K mg) : FnOk P w K mg base CX0 6 T.f_covered_area T.fd_covered_area ["sheet"] (spD K m_covered_area) :=
  fn_okM (k := 5) (kk := 1) (m := b_covered_area) (by decide) T.F_covered_area sc_covered_area rfl fun cdv A outer s H E hr =>
    have hu := hr.units
    (dss_one (ds_ret (de_callB (cd_sum rfl) rfl T.z_sum rfl (da_cons (de_call (ok_depth_areas T) (hr.mono (by decide)) rfl T.g_depth_areas T.F_depth_areas.kp T.b_depth_areas (da_cons (de_var 0 (pv 0)) da_nil)) da_nil))))
theorem sc__law_whole : FnScope ["_law_found"] ["_law_found"] (defScope s__law_whole) := ⟨rfl, rfl, rfl, by decide +kernel, rfl, by decide +kernel, by decide +kernel⟩
theorem ok__law_whole (T : Txt K mg) : FnOk P w K mg base CX0 1 T.f__law_whole T.fd__law_whole ["_law_found"] (spD K m__law_whole) :=
  fn_okM (k := 0) (kk := 1) (m := b__law_whole) (by decide) T.F__law_whole sc__law_whole rfl fun cdv A outer s H E hr =>
    have hu := hr.units
    (dss_one (ds_ret (de_and (de_isi .int rfl T.z_isinstance rfl T.z_int rfl (de_var 0 (pv 0))) (de_one (de_not (de_isi .bool rfl T.z_isinstance rfl T.z_bool rfl (de_var 0 (pv 0))))))))
theorem sc__law_area : FnScope ["_law_cell_here"] ["_law_cell_here"] (defScope s__law_area) := ⟨rfl, rfl, rfl, by decide +kernel, rfl, by decide +kernel, by decide +kernel⟩
theorem ok__law_area (T : Txt K mg) : FnOk P w K mg base CX0 1 T.f__law_area T.fd__law_area ["_law_cell_here"] (spD K m__law_area) :=
  fn_okM (k := 0) (kk := 1) (m := b__law_area) (by decide) T.F__law_area sc__law_area rfl fun cdv A outer s H E hr =>
    have hu := hr.units
    (dss_one (ds_ret (de_op od_add (de_op od_mul de_int (de_ix id_ix (de_var 0 (pv 0)) de_int (fun _ _ => rfl))) de_int)))
theorem sc_law : FnScope ["_law_script", "_law_cell_here", "_law_sheet_here", "_law_cells_here", "_law_due", "_law_one", "_law_inside", "_law_found", "_law_every", "_law_in_turn", "_law_number", "_law_some", "_law_shared", "_law_wish"] ["_law_script"] (defScope s_law) := ⟨rfl, rfl, rfl, by decide +kernel, rfl, by decide +kernel, by decide +kernel⟩
theorem ok_law (T : Txt K mg) : FnOk P w K mg base CX0 7 T.f_law T.fd_law ["_law_script"] (spD K m_law) :=
  fn_okM (k := 6) (kk := 28) (m := b_law) (by decide) T.F_law sc_law rfl fun cdv A outer s H E hr =>
    have hu := hr.units
    (dss_cons (ds_for PassesOwn.never rfl (di_seq (de_cut 3 (de_var 0 (pv 0)))) (dg_name (pg_name (i := 1) sc_law.nd rfl (Or.inl rfl)))
    (dss_cons (ds_asg (de_call (ok__law_sheet T) (hr.mono (by decide)) rfl T.g__law_sheet T.F__law_sheet.kp T.b__law_sheet (da_cons (de_var 1 (pv 1)) (da_cons de_int (da_cons de_int da_nil)))) (dg_name (pg_name (i := 2) sc_law.nd rfl (Or.inl rfl))))
    (dss_cons (ds_asg (de_call (ok__law_cells T) (hr.mono (by decide)) rfl T.g__law_cells T.F__law_cells.kp T.b__law_cells (da_cons (de_var 2 (pv 2)) (da_cons de_int da_nil))) (dg_name (pg_name (i := 3) sc_law.nd rfl (Or.inl rfl))))
    (dss_cons (ds_ownC (n := 14) (i := 4) rfl (by decide) (pg_name (i := 4) sc_law.nd rfl (Or.inl rfl)) (scX := defScope s_law) (NX := ["_law_script", "_law_cell_here", "_law_sheet_here", "_law_cells_here", "_law_due", "_law_one", "_law_inside", "_law_found", "_law_every", "_law_in_turn", "_law_number", "_law_some", "_law_shared", "_law_wish"]) (N := ["_law_piece_here"]) (k := 1) (fv := []) rfl ⟨rfl, by decide +kernel, by decide +kernel, by decide +kernel, rfl, by decide +kernel, by decide +kernel⟩ rfl rfl (di_seq (de_var 2 (pv 2))) (below_name (by decide)) (fun _ _ _ _ => ⟨(dg_name (pg_name (i := 0) (show List.Nodup (α := Str) ["_law_piece_here"] by decide +kernel) rfl (Or.inl rfl))), rfl, de_int⟩))
    (dss_cons (ds_for PassesOwn.never rfl (di_items (de_var 3 (pv 3))) (dg_tup rfl (dgs_cons (dg_name (pg_name (i := 5) sc_law.nd rfl (Or.inl rfl))) (dgs_cons (dg_name (pg_name (i := 6) sc_law.nd rfl (Or.inr rfl))) dgs_nil)) (gsCons_len (gsCons_len gsNil_len)))
    (dss_one (ds_if (dt_val (de_var 6 (pv 6))) (dss_one (ds_putL (n := 14) (i := 4) rfl (by decide) rfl (pv 4) (de_op od_sub (de_callB cd_len rfl T.z_len PySem.boot_len (da_cons (de_var 6 (pv 6)) da_nil)) de_int) (de_bor (n := 14) (is := [4]) rfl (by decide) (de_op od_add (de_ix id_ix (de_var 4 (pv 4)) (de_op od_sub (de_callB cd_len rfl T.z_len PySem.boot_len (da_cons (de_var 6 (pv 6)) da_nil)) de_int) (fun _ _ => rfl)) (de_call (ok__law_area T) (hr.mono (by decide)) rfl T.g__law_area T.F__law_area.kp T.b__law_area (da_cons (de_var 5 (pv 5)) da_nil)))))) dss_nil)))
    (dss_frz (n := 14) (is := [4]) rfl (by decide) rfl (dss_cons (ds_asg (de_call (ok_depth_areas T) (hr.mono (by decide)) rfl T.g_depth_areas T.F_depth_areas.kp T.b_depth_areas (da_cons (de_var 2 (pv 2)) da_nil)) (dg_name (pg_name (i := 7) sc_law.nd rfl (Or.inl rfl))))
    (dss_cons (ds_if (DW.dt (dw_or (dt_cmp (od_ne hu) (de_var 7 (pv 7)) (de_callTy cd_tuple rfl T.z_tuple rfl (da_cons (de_var 4 (pv 4)) da_nil)) (nomark _) bl_ne) (dw_or1 (dt_not (dt_val (de_callB (cd_all rfl) rfl T.z_all rfl (da_cons (de_comp (scX := defScope s_law) (NX := ["_law_script", "_law_cell_here", "_law_sheet_here", "_law_cells_here", "_law_due", "_law_one", "_law_inside", "_law_found", "_law_every", "_law_in_turn", "_law_number", "_law_some", "_law_shared", "_law_wish"]) (N := ["_law_one"]) (k := 1) (fv := []) rfl ⟨rfl, by decide +kernel, by decide +kernel, by decide +kernel, rfl, by decide +kernel, by decide +kernel⟩ rfl rfl (di_seq (de_var 7 (pv 7))) (below_name (by decide)) (fun _ _ _ _ => ⟨(dg_name (pg_name (i := 0) (show List.Nodup (α := Str) ["_law_one"] by decide +kernel) rfl (Or.inl rfl))), rfl, (de_call (ok__law_whole T) (hr.mono (by decide)) rfl T.g__law_whole T.F__law_whole.kp T.b__law_whole (da_cons (de_var 0 (pv 0)) da_nil))⟩)) da_nil))))))) (dss_one (ds_ret de_bl)) dss_nil)
    (dss_cons (ds_if (DW.dt (dw_or (dt_cmp (od_ne hu) (de_call (ok_covered_area T) (hr.mono (by decide)) rfl T.g_covered_area T.F_covered_area.kp T.b_covered_area (da_cons (de_var 2 (pv 2)) da_nil)) (de_callB (cd_sum rfl) rfl T.z_sum rfl (da_cons (de_var 4 (pv 4)) da_nil)) (nomark _) bl_ne) (dw_or1 (dt_not (dt_val (de_call (ok__law_whole T) (hr.mono (by decide)) rfl T.g__law_whole T.F__law_whole.kp T.b__law_whole (da_cons (de_call (ok_covered_area T) (hr.mono (by decide)) rfl T.g_covered_area T.F_covered_area.kp T.b_covered_area (da_cons (de_var 2 (pv 2)) da_nil)) da_nil))))))) (dss_one (ds_ret de_bl)) dss_nil)
    (dss_cons (ds_asgC (i := 8) rfl (pg_name (i := 8) sc_law.nd rfl (Or.inl rfl)) (scX := defScope s_law) (NX := ["_law_script", "_law_cell_here", "_law_sheet_here", "_law_cells_here", "_law_due", "_law_one", "_law_inside", "_law_found", "_law_every", "_law_in_turn", "_law_number", "_law_some", "_law_shared", "_law_wish"]) (N := ["_law_piece_here"]) (k := 1) (fv := []) rfl ⟨rfl, by decide +kernel, by decide +kernel, by decide +kernel, rfl, by decide +kernel, by decide +kernel⟩ rfl rfl (di_seq (de_var 2 (pv 2))) (below_name (by decide)) (fun _ _ _ _ => ⟨(dg_name (pg_name (i := 0) (show List.Nodup (α := Str) ["_law_piece_here"] by decide +kernel) rfl (Or.inl rfl))), rfl, (de_call (ok_area_of T) (hr.mono (by decide)) rfl T.g_area_of T.F_area_of.kp T.b_area_of (da_cons (de_var 0 (pv 0)) da_nil))⟩))
    (dss_cons (ds_if (dt_cmp (od_ne hu) (de_callB (cd_sum rfl) rfl T.z_sum rfl (da_cons (de_comp (scX := defScope s_law) (NX := ["_law_script", "_law_cell_here", "_law_sheet_here", "_law_cells_here", "_law_due", "_law_one", "_law_inside", "_law_found", "_law_every", "_law_in_turn", "_law_number", "_law_some", "_law_shared", "_law_wish"]) (N := ["_law_k", "_law_one"]) (k := 2) (fv := []) rfl ⟨rfl, by decide +kernel, by decide +kernel, by decide +kernel, rfl, by decide +kernel, by decide +kernel⟩ rfl rfl (di_enum rfl T.z_enumerate (de_var 7 (pv 7))) (below_tup (belows_cons (below_name (by decide)) (belows_cons (below_name (by decide)) belows_nil))) (fun _ _ _ _ => ⟨(dg_tup rfl (dgs_cons (dg_name (pg_name (i := 0) (show List.Nodup (α := Str) ["_law_k", "_law_one"] by decide +kernel) rfl (Or.inl rfl))) (dgs_cons (dg_name (pg_name (i := 1) (show List.Nodup (α := Str) ["_law_k", "_law_one"] by decide +kernel) rfl (Or.inl rfl))) dgs_nil)) (gsCons_len (gsCons_len gsNil_len))), rfl, (de_op od_mul (de_op od_add (de_var 0 (pv 0)) de_int) (de_var 1 (pv 1)))⟩)) da_nil)) (de_callB (cd_sum rfl) rfl T.z_sum rfl (da_cons (de_var 8 (pv 8)) da_nil)) (nomark _) bl_ne) (dss_one (ds_ret de_bl)) dss_nil)
    (dss_cons (ds_asg de_int (dg_name (pg_name (i := 9) sc_law.nd rfl (Or.inl rfl))))
    (dss_cons (ds_for PassesOwn.never rfl (di_range2 rfl T.z_range de_int (de_op od_shl de_int (de_callB cd_len rfl T.z_len PySem.boot_len (da_cons (de_var 2 (pv 2)) da_nil)))) (dg_name (pg_name (i := 10) sc_law.nd rfl (Or.inr rfl)))
    (dss_cons (ds_asg (de_callTy cd_tuple rfl T.z_tuple rfl (da_cons (de_comp (scX := defScope s_law) (NX := ["_law_script", "_law_cell_here", "_law_sheet_here", "_law_cells_here", "_law_due", "_law_one", "_law_inside", "_law_found", "_law_every", "_law_in_turn", "_law_number", "_law_some", "_law_shared", "_law_wish"]) (N := ["_law_k", "_law_number"]) (k := 1) (fv := [10]) rfl ⟨rfl, by decide +kernel, by decide +kernel, by decide +kernel, rfl, by decide +kernel, by decide +kernel⟩ rfl rfl (di_range rfl T.z_range (de_callB cd_len rfl T.z_len PySem.boot_len (da_cons (de_var 2 (pv 2)) da_nil))) (below_name (by decide)) (fun _ _ _ _ => ⟨(dg_name (pg_name (i := 0) (show List.Nodup (α := Str) ["_law_k", "_law_number"] by decide +kernel) rfl (Or.inl rfl))), (dt_cmp (od_eq hu) (de_op od_band (de_op od_shr (de_var 1 (pv 1)) (de_var 0 (pv 0))) de_int) de_int (nomark _) bl_eq), (de_var 0 (pv 0))⟩)) da_nil)) (dg_name (pg_name (i := 11) sc_law.nd rfl (Or.inl rfl))))
    (dss_cons (ds_asg (de_call (ok_shared_area T) (hr.mono (by decide)) rfl T.g_shared_area T.F_shared_area.kp T.b_shared_area (da_cons (de_var 2 (pv 2)) (da_cons (de_var 11 (pv 11)) da_nil))) (dg_name (pg_name (i := 12) sc_law.nd rfl (Or.inl rfl))))
    (dss_cons (ds_if (dt_cmp od_lt (de_var 10 (pv 10)) de_int (nomark _) bl_lt) (dss_cons (ds_asg de_int (dg_name (pg_name (i := 13) sc_law.nd rfl (Or.inl rfl))))
    (dss_cons (ds_for PassesOwn.never rfl (di_items (de_var 3 (pv 3))) (dg_tup rfl (dgs_cons (dg_name (pg_name (i := 5) sc_law.nd rfl (Or.inl rfl))) (dgs_cons (dg_name (pg_name (i := 6) sc_law.nd rfl (Or.inr rfl))) dgs_nil)) (gsCons_len (gsCons_len gsNil_len)))
    (dss_one (ds_if (dt_cmp (od_eq hu) (de_comp (scX := defScope s_law) (NX := ["_law_script", "_law_cell_here", "_law_sheet_here", "_law_cells_here", "_law_due", "_law_one", "_law_inside", "_law_found", "_law_every", "_law_in_turn", "_law_number", "_law_some", "_law_shared", "_law_wish"]) (N := ["_law_k", "_law_inside"]) (k := 1) (fv := [6]) rfl ⟨rfl, by decide +kernel, by decide +kernel, by decide +kernel, rfl, by decide +kernel, by decide +kernel⟩ rfl rfl (di_seq (de_var 11 (pv 11))) (below_name (by decide)) (fun _ _ _ _ => ⟨(dg_name (pg_name (i := 0) (show List.Nodup (α := Str) ["_law_k", "_law_inside"] by decide +kernel) rfl (Or.inl rfl))), (dt_cmp (od_in hu) (de_var 0 (pv 0)) (de_var 1 (pv 1)) rfl bl_in), (de_var 0 (pv 0))⟩)) (de_callTy cd_list rfl T.z_list rfl (da_cons (de_var 11 (pv 11)) da_nil)) (nomark _) bl_eq) (dss_one (ds_asg (de_op od_add (de_var 13 (pv 13)) (de_call (ok__law_area T) (hr.mono (by decide)) rfl T.g__law_area T.F__law_area.kp T.b__law_area (da_cons (de_var 5 (pv 5)) da_nil))) (dg_name (pg_name (i := 13) sc_law.nd rfl (Or.inl rfl))))) dss_nil)))
    (dss_one (ds_if (dt_cmp (od_ne hu) (de_var 12 (pv 12)) (de_var 13 (pv 13)) (nomark _) bl_ne) (dss_one (ds_ret de_bl)) dss_nil)))) dss_nil)
    (dss_one (ds_asg (de_op od_add (de_var 9 (pv 9)) (de_op od_mul (de_var 12 (pv 12)) (de_ix id_ix (de_lst (da_cons (de_un ud_neg de_int) (da_cons de_int da_nil)) (by decide)) (de_op od_mod (de_callB cd_len rfl T.z_len PySem.boot_len (da_cons (de_var 11 (pv 11)) da_nil)) de_int) (fun _ _ => rfl)))) (dg_name (pg_name (i := 9) sc_law.nd rfl (Or.inl rfl)))))))))
    (dss_one (ds_if (dt_cmp (od_ne hu) (de_var 9 (pv 9)) (de_call (ok_covered_area T) (hr.mono (by decide)) rfl T.g_covered_area T.F_covered_area.kp T.b_covered_area (da_cons (de_var 2 (pv 2)) da_nil)) (nomark _) bl_ne) (dss_one (ds_ret de_bl)) dss_nil)))))))))))))))
    (dss_one (ds_ret (de_and (de_cmp (od_eq hu) (de_call (ok_depth_areas T) (hr.mono (by decide)) rfl T.g_depth_areas T.F_depth_areas.kp T.b_depth_areas (da_cons (de_tup da_nil (by decide)) da_nil)) (de_tup da_nil (by decide)) (nomark _)) (de_and (de_cmp (od_eq hu) (de_call (ok_covered_area T) (hr.mono (by decide)) rfl T.g_covered_area T.F_covered_area.kp T.b_covered_area (da_cons (de_tup da_nil (by decide)) da_nil)) de_int (nomark _)) (de_one (de_cmp (od_eq hu) (de_call (ok_area_of T) (hr.mono (by decide)) rfl T.g_area_of T.F_area_of.kp T.b_area_of (da_cons (de_tup (da_cons de_int (da_cons de_int (da_cons de_int (da_cons de_int da_nil)))) (by decide)) da_nil)) (de_op od_mul (de_op od_mul de_int de_int) de_int) (nomark _))))))))
end
def txt_mk {K : PySem.W.Frag} {h : Heap} {mg : Str → Option Value} (X : K.In h) (G : h.Ns mainGlobals mg)
    {f0 : Addr} {od0 an0 : Option Addr} {sl0 : Array (Option Value)} {oc0 kV0 dc0 pm0 cd0 ct0 : Value}
    {f1 : Addr} {od1 an1 : Option Addr} {sl1 : Array (Option Value)} {oc1 kV1 dc1 pm1 cd1 ct1 : Value}
    {f2 : Addr} {od2 an2 : Option Addr} {sl2 : Array (Option Value)} {oc2 kV2 dc2 pm2 cd2 ct2 : Value}
    {f3 : Addr} {od3 an3 : Option Addr} {sl3 : Array (Option Value)} {oc3 kV3 dc3 pm3 cd3 ct3 : Value}
    {f4 : Addr} {od4 an4 : Option Addr} {sl4 : Array (Option Value)} {oc4 kV4 dc4 pm4 cd4 ct4 : Value}
    {f5 : Addr} {od5 an5 : Option Addr} {sl5 : Array (Option Value)} {oc5 kV5 dc5 pm5 cd5 ct5 : Value}
    {f6 : Addr} {od6 an6 : Option Addr} {sl6 : Array (Option Value)} {oc6 kV6 dc6 pm6 cd6 ct6 : Value}
    {f7 : Addr} {od7 an7 : Option Addr} {sl7 : Array (Option Value)} {oc7 kV7 dc7 pm7 cd7 ct7 : Value}
    {f8 : Addr} {od8 an8 : Option Addr} {sl8 : Array (Option Value)} {oc8 kV8 dc8 pm8 cd8 ct8 : Value}
    {f9 : Addr} {od9 an9 : Option Addr} {sl9 : Array (Option Value)} {oc9 kV9 dc9 pm9 cd9 ct9 : Value}
    {f10 : Addr} {od10 an10 : Option Addr} {sl10 : Array (Option Value)} {oc10 kV10 dc10 pm10 cd10 ct10 : Value}
    {f11 : Addr} {od11 an11 : Option Addr} {sl11 : Array (Option Value)} {oc11 kV11 dc11 pm11 cd11 ct11 : Value}
    {f12 : Addr} {od12 an12 : Option Addr} {sl12 : Array (Option Value)} {oc12 kV12 dc12 pm12 cd12 ct12 : Value}
    {f13 : Addr} {od13 an13 : Option Addr} {sl13 : Array (Option Value)} {oc13 kV13 dc13 pm13 cd13 ct13 : Value}
    {f14 : Addr} {od14 an14 : Option Addr} {sl14 : Array (Option Value)} {oc14 kV14 dc14 pm14 cd14 ct14 : Value}
    {f15 : Addr} {od15 an15 : Option Addr} {sl15 : Array (Option Value)} {oc15 kV15 dc15 pm15 cd15 ct15 : Value}
    {f16 : Addr} {od16 an16 : Option Addr} {sl16 : Array (Option Value)} {oc16 kV16 dc16 pm16 cd16 ct16 : Value}
    {f17 : Addr} {od17 an17 : Option Addr} {sl17 : Array (Option Value)} {oc17 kV17 dc17 pm17 cd17 ct17 : Value}
    {f18 : Addr} {od18 an18 : Option Addr} {sl18 : Array (Option Value)} {oc18 kV18 dc18 pm18 cd18 ct18 : Value}
    {f19 : Addr} {od19 an19 : Option Addr} {sl19 : Array (Option Value)} {oc19 kV19 dc19 pm19 cd19 ct19 : Value}
    {f20 : Addr} {od20 an20 : Option Addr} {sl20 : Array (Option Value)} {oc20 kV20 dc20 pm20 cd20 ct20 : Value}
    {tk0 : Tok}
    (a0 : PySem.W.nsIn K mainGlobals "_law_mix" = some (some (.ref f0))) (l0 : K.lookup f0 = some ⟨oc0, od0, .func (PySem.W.fnOf "_law_mix" "_law_mix" (defArgs s__law_mix) (defBody s__law_mix) (defScope s__law_mix) .none kV0 dc0 pm0 an0 cd0 ct0), sl0⟩) (c0 : PySem.W.codeIn K cd0 "_law_mix" = true) (k0 : PySem.W.keepIn K (.ref f0) = true)
    (a1 : PySem.W.nsIn K mainGlobals "_law_piece" = some (some (.ref f1))) (l1 : K.lookup f1 = some ⟨oc1, od1, .func (PySem.W.fnOf "_law_piece" "_law_piece" (defArgs s__law_piece) (defBody s__law_piece) (defScope s__law_piece) .none kV1 dc1 pm1 an1 cd1 ct1), sl1⟩) (c1 : PySem.W.codeIn K cd1 "_law_piece" = true) (k1 : PySem.W.keepIn K (.ref f1) = true)
    (a2 : PySem.W.nsIn K mainGlobals "_law_sheet" = some (some (.ref f2))) (l2 : K.lookup f2 = some ⟨oc2, od2, .func (PySem.W.fnOf "_law_sheet" "_law_sheet" (defArgs s__law_sheet) (defBody s__law_sheet) (defScope s__law_sheet) .none kV2 dc2 pm2 an2 cd2 ct2), sl2⟩) (c2 : PySem.W.codeIn K cd2 "_law_sheet" = true) (k2 : PySem.W.keepIn K (.ref f2) = true)
    (a3 : PySem.W.nsIn K mainGlobals "_law_has" = some (some (.ref f3))) (l3 : K.lookup f3 = some ⟨oc3, od3, .func (PySem.W.fnOf "_law_has" "_law_has" (defArgs s__law_has) (defBody s__law_has) (defScope s__law_has) .none kV3 dc3 pm3 an3 cd3 ct3), sl3⟩) (c3 : PySem.W.codeIn K cd3 "_law_has" = true) (k3 : PySem.W.keepIn K (.ref f3) = true)
    (a4 : PySem.W.nsIn K mainGlobals "_law_layers" = some (some (.ref f4))) (l4 : K.lookup f4 = some ⟨oc4, od4, .func (PySem.W.fnOf "_law_layers" "_law_layers" (defArgs s__law_layers) (defBody s__law_layers) (defScope s__law_layers) .none kV4 dc4 pm4 an4 cd4 ct4), sl4⟩) (c4 : PySem.W.codeIn K cd4 "_law_layers" = true) (k4 : PySem.W.keepIn K (.ref f4) = true)
    (a5 : PySem.W.nsIn K mainGlobals "_law_cells" = some (some (.ref f5))) (l5 : K.lookup f5 = some ⟨oc5, od5, .func (PySem.W.fnOf "_law_cells" "_law_cells" (defArgs s__law_cells) (defBody s__law_cells) (defScope s__law_cells) .none kV5 dc5 pm5 an5 cd5 ct5), sl5⟩) (c5 : PySem.W.codeIn K cd5 "_law_cells" = true) (k5 : PySem.W.keepIn K (.ref f5) = true)
    (a6 : PySem.W.nsIn K mainGlobals "bands_between" = some (some (.ref f6))) (l6 : K.lookup f6 = some ⟨oc6, od6, .func (PySem.W.fnOf "bands_between" "bands_between" (defArgs s_bands_between) (defBody s_bands_between) (defScope s_bands_between) .none kV6 dc6 pm6 an6 cd6 ct6), sl6⟩) (c6 : PySem.W.codeIn K cd6 "bands_between" = true) (k6 : PySem.W.keepIn K (.ref f6) = true)
    (a7 : PySem.W.nsIn K mainGlobals "span_of" = some (some (.ref f7))) (l7 : K.lookup f7 = some ⟨oc7, od7, .func (PySem.W.fnOf "span_of" "span_of" (defArgs s_span_of) (defBody s_span_of) (defScope s_span_of) .none kV7 dc7 pm7 an7 cd7 ct7), sl7⟩) (c7 : PySem.W.codeIn K cd7 "span_of" = true) (k7 : PySem.W.keepIn K (.ref f7) = true)
    (a8 : PySem.W.nsIn K mainGlobals "edges_of" = some (some (.ref f8))) (l8 : K.lookup f8 = some ⟨oc8, od8, .func (PySem.W.fnOf "edges_of" "edges_of" (defArgs s_edges_of) (defBody s_edges_of) (defScope s_edges_of) .none kV8 dc8 pm8 an8 cd8 ct8), sl8⟩) (c8 : PySem.W.codeIn K cd8 "edges_of" = true) (k8 : PySem.W.keepIn K (.ref f8) = true)
    (a9 : PySem.W.nsIn K mainGlobals "turns_of" = some (some (.ref f9))) (l9 : K.lookup f9 = some ⟨oc9, od9, .func (PySem.W.fnOf "turns_of" "turns_of" (defArgs s_turns_of) (defBody s_turns_of) (defScope s_turns_of) .none kV9 dc9 pm9 an9 cd9 ct9), sl9⟩) (c9 : PySem.W.codeIn K cd9 "turns_of" = true) (k9 : PySem.W.keepIn K (.ref f9) = true)
    (a10 : PySem.W.nsIn K mainGlobals "add_change" = some (some (.ref f10))) (l10 : K.lookup f10 = some ⟨oc10, od10, .func (PySem.W.fnOf "add_change" "add_change" (defArgs s_add_change) (defBody s_add_change) (defScope s_add_change) .none kV10 dc10 pm10 an10 cd10 ct10), sl10⟩) (c10 : PySem.W.codeIn K cd10 "add_change" = true) (k10 : PySem.W.keepIn K (.ref f10) = true)
    (a11 : PySem.W.nsIn K mainGlobals "depth_changes" = some (some (.ref f11))) (l11 : K.lookup f11 = some ⟨oc11, od11, .func (PySem.W.fnOf "depth_changes" "depth_changes" (defArgs s_depth_changes) (defBody s_depth_changes) (defScope s_depth_changes) .none kV11 dc11 pm11 an11 cd11 ct11), sl11⟩) (c11 : PySem.W.codeIn K cd11 "depth_changes" = true) (k11 : PySem.W.keepIn K (.ref f11) = true)
    (a12 : PySem.W.nsIn K mainGlobals "depth_rows" = some (some (.ref f12))) (l12 : K.lookup f12 = some ⟨oc12, od12, .func (PySem.W.fnOf "depth_rows" "depth_rows" (defArgs s_depth_rows) (defBody s_depth_rows) (defScope s_depth_rows) .none kV12 dc12 pm12 an12 cd12 ct12), sl12⟩) (c12 : PySem.W.codeIn K cd12 "depth_rows" = true) (k12 : PySem.W.keepIn K (.ref f12) = true)
    (a13 : PySem.W.nsIn K mainGlobals "cell_area" = some (some (.ref f13))) (l13 : K.lookup f13 = some ⟨oc13, od13, .func (PySem.W.fnOf "cell_area" "cell_area" (defArgs s_cell_area) (defBody s_cell_area) (defScope s_cell_area) .none kV13 dc13 pm13 an13 cd13 ct13), sl13⟩) (c13 : PySem.W.codeIn K cd13 "cell_area" = true) (k13 : PySem.W.keepIn K (.ref f13) = true)
    (a14 : PySem.W.nsIn K mainGlobals "depth_areas" = some (some (.ref f14))) (l14 : K.lookup f14 = some ⟨oc14, od14, .func (PySem.W.fnOf "depth_areas" "depth_areas" (defArgs s_depth_areas) (defBody s_depth_areas) (defScope s_depth_areas) .none kV14 dc14 pm14 an14 cd14 ct14), sl14⟩) (c14 : PySem.W.codeIn K cd14 "depth_areas" = true) (k14 : PySem.W.keepIn K (.ref f14) = true)
    (a15 : PySem.W.nsIn K mainGlobals "area_of" = some (some (.ref f15))) (l15 : K.lookup f15 = some ⟨oc15, od15, .func (PySem.W.fnOf "area_of" "area_of" (defArgs s_area_of) (defBody s_area_of) (defScope s_area_of) .none kV15 dc15 pm15 an15 cd15 ct15), sl15⟩) (c15 : PySem.W.codeIn K cd15 "area_of" = true) (k15 : PySem.W.keepIn K (.ref f15) = true)
    (a16 : PySem.W.nsIn K mainGlobals "shared_area" = some (some (.ref f16))) (l16 : K.lookup f16 = some ⟨oc16, od16, .func (PySem.W.fnOf "shared_area" "shared_area" (defArgs s_shared_area) (defBody s_shared_area) (defScope s_shared_area) .none kV16 dc16 pm16 an16 cd16 ct16), sl16⟩) (c16 : PySem.W.codeIn K cd16 "shared_area" = true) (k16 : PySem.W.keepIn K (.ref f16) = true)
    (a17 : PySem.W.nsIn K mainGlobals "covered_area" = some (some (.ref f17))) (l17 : K.lookup f17 = some ⟨oc17, od17, .func (PySem.W.fnOf "covered_area" "covered_area" (defArgs s_covered_area) (defBody s_covered_area) (defScope s_covered_area) .none kV17 dc17 pm17 an17 cd17 ct17), sl17⟩) (c17 : PySem.W.codeIn K cd17 "covered_area" = true) (k17 : PySem.W.keepIn K (.ref f17) = true)
    (a18 : PySem.W.nsIn K mainGlobals "_law_whole" = some (some (.ref f18))) (l18 : K.lookup f18 = some ⟨oc18, od18, .func (PySem.W.fnOf "_law_whole" "_law_whole" (defArgs s__law_whole) (defBody s__law_whole) (defScope s__law_whole) .none kV18 dc18 pm18 an18 cd18 ct18), sl18⟩) (c18 : PySem.W.codeIn K cd18 "_law_whole" = true) (k18 : PySem.W.keepIn K (.ref f18) = true)
    (a19 : PySem.W.nsIn K mainGlobals "_law_area" = some (some (.ref f19))) (l19 : K.lookup f19 = some ⟨oc19, od19, .func (PySem.W.fnOf "_law_area" "_law_area" (defArgs s__law_area) (defBody s__law_area) (defScope s__law_area) .none kV19 dc19 pm19 an19 cd19 ct19), sl19⟩) (c19 : PySem.W.codeIn K cd19 "_law_area" = true) (k19 : PySem.W.keepIn K (.ref f19) = true)
    (a20 : PySem.W.nsIn K mainGlobals "law" = some (some (.ref f20))) (l20 : K.lookup f20 = some ⟨oc20, od20, .func (PySem.W.fnOf "law" "law" (defArgs s_law) (defBody s_law) (defScope s_law) .none kV20 dc20 pm20 an20 cd20 ct20), sl20⟩) (c20 : PySem.W.codeIn K cd20 "law" = true) (k20 : PySem.W.keepIn K (.ref f20) = true)
    (v0 : PySem.W.nsIn K mainGlobals "WHOLE_TURN" = some (some (.int 24 tk0)))
    (z0 : PySem.W.nsIn K mainGlobals "all" = some none)
    (z1 : PySem.W.nsIn K mainGlobals "bool" = some none)
    (z2 : PySem.W.nsIn K mainGlobals "enumerate" = some none)
    (z3 : PySem.W.nsIn K mainGlobals "int" = some none)
    (z4 : PySem.W.nsIn K mainGlobals "isinstance" = some none)
    (z5 : PySem.W.nsIn K mainGlobals "len" = some none)
    (z6 : PySem.W.nsIn K mainGlobals "list" = some none)
    (z7 : PySem.W.nsIn K mainGlobals "max" = some none)
    (z8 : PySem.W.nsIn K mainGlobals "min" = some none)
    (z9 : PySem.W.nsIn K mainGlobals "range" = some none)
    (z10 : PySem.W.nsIn K mainGlobals "set" = some none)
    (z11 : PySem.W.nsIn K mainGlobals "sorted" = some none)
    (z12 : PySem.W.nsIn K mainGlobals "sum" = some none)
    (z13 : PySem.W.nsIn K mainGlobals "tuple" = some none)
    (z14 : PySem.W.nsIn K mainGlobals "zip" = some none) : Txt K mg := {
    f__law_mix := f0, fd__law_mix := _, F__law_mix := fun_mk (st := s__law_mix) l0 c0 k0, g__law_mix := PySem.W.mg_of X G a0,
    b__law_mix := (fun_mk (st := s__law_mix) l0 c0 k0).binds (ps := ["_law_cell_here", "_law_prime", "_law_many"]) fun _ _ _ _ _ _ us hl => match us, hl with | [_, _, _], _ => rfl,
    f__law_piece := f1, fd__law_piece := _, F__law_piece := fun_mk (st := s__law_piece) l1 c1 k1, g__law_piece := PySem.W.mg_of X G a1,
    b__law_piece := (fun_mk (st := s__law_piece) l1 c1 k1).binds (ps := ["_law_cell_here", "_law_most"]) fun _ _ _ _ _ _ us hl => match us, hl with | [_, _], _ => rfl,
    f__law_sheet := f2, fd__law_sheet := _, F__law_sheet := fun_mk (st := s__law_sheet) l2 c2 k2, g__law_sheet := PySem.W.mg_of X G a2,
    b__law_sheet := (fun_mk (st := s__law_sheet) l2 c2 k2).binds (ps := ["_law_cell_here", "_law_most", "_law_many"]) fun _ _ _ _ _ _ us hl => match us, hl with | [_, _, _], _ => rfl,
    f__law_has := f3, fd__law_has := _, F__law_has := fun_mk (st := s__law_has) l3 c3 k3, g__law_has := PySem.W.mg_of X G a3,
    b__law_has := (fun_mk (st := s__law_has) l3 c3 k3).binds (ps := ["_law_piece_here", "_law_far", "_law_turn"]) fun _ _ _ _ _ _ us hl => match us, hl with | [_, _, _], _ => rfl,
    f__law_layers := f4, fd__law_layers := _, F__law_layers := fun_mk (st := s__law_layers) l4 c4 k4, g__law_layers := PySem.W.mg_of X G a4,
    b__law_layers := (fun_mk (st := s__law_layers) l4 c4 k4).binds (ps := ["_law_sheet_here", "_law_point"]) fun _ _ _ _ _ _ us hl => match us, hl with | [_, _], _ => rfl,
    f__law_cells := f5, fd__law_cells := _, F__law_cells := fun_mk (st := s__law_cells) l5 c5 k5, g__law_cells := PySem.W.mg_of X G a5,
    b__law_cells := (fun_mk (st := s__law_cells) l5 c5 k5).binds (ps := ["_law_sheet_here", "_law_most"]) fun _ _ _ _ _ _ us hl => match us, hl with | [_, _], _ => rfl,
    f_bands_between := f6, fd_bands_between := _, F_bands_between := fun_mk (st := s_bands_between) l6 c6 k6, g_bands_between := PySem.W.mg_of X G a6,
    b_bands_between := (fun_mk (st := s_bands_between) l6 c6 k6).binds (ps := ["edges"]) fun _ _ _ _ _ _ us hl => match us, hl with | [_], _ => rfl,
    f_span_of := f7, fd_span_of := _, F_span_of := fun_mk (st := s_span_of) l7 c7 k7, g_span_of := PySem.W.mg_of X G a7,
    b_span_of := (fun_mk (st := s_span_of) l7 c7 k7).binds (ps := ["piece"]) fun _ _ _ _ _ _ us hl => match us, hl with | [_], _ => rfl,
    f_edges_of := f8, fd_edges_of := _, F_edges_of := fun_mk (st := s_edges_of) l8 c8 k8, g_edges_of := PySem.W.mg_of X G a8,
    b_edges_of := (fun_mk (st := s_edges_of) l8 c8 k8).binds (ps := ["sheet"]) fun _ _ _ _ _ _ us hl => match us, hl with | [_], _ => rfl,
    f_turns_of := f9, fd_turns_of := _, F_turns_of := fun_mk (st := s_turns_of) l9 c9 k9, g_turns_of := PySem.W.mg_of X G a9,
    b_turns_of := (fun_mk (st := s_turns_of) l9 c9 k9).binds (ps := ["piece"]) fun _ _ _ _ _ _ us hl => match us, hl with | [_], _ => rfl,
    f_add_change := f10, fd_add_change := _, F_add_change := fun_mk (st := s_add_change) l10 c10 k10, g_add_change := PySem.W.mg_of X G a10,
    b_add_change := (fun_mk (st := s_add_change) l10 c10 k10).binds (ps := ["changes", "far", "piece", "by"]) fun _ _ _ _ _ _ us hl => match us, hl with | [_, _, _, _], _ => rfl,
    f_depth_changes := f11, fd_depth_changes := _, F_depth_changes := fun_mk (st := s_depth_changes) l11 c11 k11, g_depth_changes := PySem.W.mg_of X G a11,
    b_depth_changes := (fun_mk (st := s_depth_changes) l11 c11 k11).binds (ps := ["sheet"]) fun _ _ _ _ _ _ us hl => match us, hl with | [_], _ => rfl,
    f_depth_rows := f12, fd_depth_rows := _, F_depth_rows := fun_mk (st := s_depth_rows) l12 c12 k12, g_depth_rows := PySem.W.mg_of X G a12,
    b_depth_rows := (fun_mk (st := s_depth_rows) l12 c12 k12).binds (ps := ["sheet", "bands"]) fun _ _ _ _ _ _ us hl => match us, hl with | [_, _], _ => rfl,
    f_cell_area := f13, fd_cell_area := _, F_cell_area := fun_mk (st := s_cell_area) l13 c13 k13, g_cell_area := PySem.W.mg_of X G a13,
    b_cell_area := (fun_mk (st := s_cell_area) l13 c13 k13).binds (ps := ["band"]) fun _ _ _ _ _ _ us hl => match us, hl with | [_], _ => rfl,
    f_depth_areas := f14, fd_depth_areas := _, F_depth_areas := fun_mk (st := s_depth_areas) l14 c14 k14, g_depth_areas := PySem.W.mg_of X G a14,
    b_depth_areas := (fun_mk (st := s_depth_areas) l14 c14 k14).binds (ps := ["sheet"]) fun _ _ _ _ _ _ us hl => match us, hl with | [_], _ => rfl,
    f_area_of := f15, fd_area_of := _, F_area_of := fun_mk (st := s_area_of) l15 c15 k15, g_area_of := PySem.W.mg_of X G a15,
    b_area_of := (fun_mk (st := s_area_of) l15 c15 k15).binds (ps := ["piece"]) fun _ _ _ _ _ _ us hl => match us, hl with | [_], _ => rfl,
    f_shared_area := f16, fd_shared_area := _, F_shared_area := fun_mk (st := s_shared_area) l16 c16 k16, g_shared_area := PySem.W.mg_of X G a16,
    b_shared_area := (fun_mk (st := s_shared_area) l16 c16 k16).binds (ps := ["sheet", "numbers"]) fun _ _ _ _ _ _ us hl => match us, hl with | [_, _], _ => rfl,
    f_covered_area := f17, fd_covered_area := _, F_covered_area := fun_mk (st := s_covered_area) l17 c17 k17, g_covered_area := PySem.W.mg_of X G a17,
    b_covered_area := (fun_mk (st := s_covered_area) l17 c17 k17).binds (ps := ["sheet"]) fun _ _ _ _ _ _ us hl => match us, hl with | [_], _ => rfl,
    f__law_whole := f18, fd__law_whole := _, F__law_whole := fun_mk (st := s__law_whole) l18 c18 k18, g__law_whole := PySem.W.mg_of X G a18,
    b__law_whole := (fun_mk (st := s__law_whole) l18 c18 k18).binds (ps := ["_law_found"]) fun _ _ _ _ _ _ us hl => match us, hl with | [_], _ => rfl,
    f__law_area := f19, fd__law_area := _, F__law_area := fun_mk (st := s__law_area) l19 c19 k19, g__law_area := PySem.W.mg_of X G a19,
    b__law_area := (fun_mk (st := s__law_area) l19 c19 k19).binds (ps := ["_law_cell_here"]) fun _ _ _ _ _ _ us hl => match us, hl with | [_], _ => rfl,
    f_law := f20, fd_law := _, F_law := fun_mk (st := s_law) l20 c20 k20, g_law := PySem.W.mg_of X G a20,
    b_law := (fun_mk (st := s_law) l20 c20 k20).binds (ps := ["_law_script"]) fun _ _ _ _ _ _ us hl => match us, hl with | [_], _ => rfl,
    k_WHOLE_TURN := tk0, c_WHOLE_TURN := PySem.W.mg_of X G v0,
    z_all := PySem.W.mg_none_of X G z0,
    z_bool := PySem.W.mg_none_of X G z1,
    z_enumerate := PySem.W.mg_none_of X G z2,
    z_int := PySem.W.mg_none_of X G z3,
    z_isinstance := PySem.W.mg_none_of X G z4,
    z_len := PySem.W.mg_none_of X G z5,
    z_list := PySem.W.mg_none_of X G z6,
    z_max := PySem.W.mg_none_of X G z7,
    z_min := PySem.W.mg_none_of X G z8,
    z_range := PySem.W.mg_none_of X G z9,
    z_set := PySem.W.mg_none_of X G z10,
    z_sorted := PySem.W.mg_none_of X G z11,
    z_sum := PySem.W.mg_none_of X G z12,
    z_tuple := PySem.W.mg_none_of X G z13,
    z_zip := PySem.W.mg_none_of X G z14 }
theorem all_mk {l : PySem.W.OpenLaw} {w : World} {K : PySem.W.Frag} {h : Heap} {mg : Str → Option Value} {fa : Addr} (X : K.In h) (G : h.Ns mainGlobals mg) (hfa : mg "law" = some (.ref fa))
    {f0 : Addr} {od0 an0 : Option Addr} {sl0 : Array (Option Value)} {oc0 kV0 dc0 pm0 cd0 ct0 : Value}
    {f1 : Addr} {od1 an1 : Option Addr} {sl1 : Array (Option Value)} {oc1 kV1 dc1 pm1 cd1 ct1 : Value}
    {f2 : Addr} {od2 an2 : Option Addr} {sl2 : Array (Option Value)} {oc2 kV2 dc2 pm2 cd2 ct2 : Value}
    {f3 : Addr} {od3 an3 : Option Addr} {sl3 : Array (Option Value)} {oc3 kV3 dc3 pm3 cd3 ct3 : Value}
    {f4 : Addr} {od4 an4 : Option Addr} {sl4 : Array (Option Value)} {oc4 kV4 dc4 pm4 cd4 ct4 : Value}
    {f5 : Addr} {od5 an5 : Option Addr} {sl5 : Array (Option Value)} {oc5 kV5 dc5 pm5 cd5 ct5 : Value}
    {f6 : Addr} {od6 an6 : Option Addr} {sl6 : Array (Option Value)} {oc6 kV6 dc6 pm6 cd6 ct6 : Value}
    {f7 : Addr} {od7 an7 : Option Addr} {sl7 : Array (Option Value)} {oc7 kV7 dc7 pm7 cd7 ct7 : Value}
    {f8 : Addr} {od8 an8 : Option Addr} {sl8 : Array (Option Value)} {oc8 kV8 dc8 pm8 cd8 ct8 : Value}
    {f9 : Addr} {od9 an9 : Option Addr} {sl9 : Array (Option Value)} {oc9 kV9 dc9 pm9 cd9 ct9 : Value}
    {f10 : Addr} {od10 an10 : Option Addr} {sl10 : Array (Option Value)} {oc10 kV10 dc10 pm10 cd10 ct10 : Value}
    {f11 : Addr} {od11 an11 : Option Addr} {sl11 : Array (Option Value)} {oc11 kV11 dc11 pm11 cd11 ct11 : Value}
    {f12 : Addr} {od12 an12 : Option Addr} {sl12 : Array (Option Value)} {oc12 kV12 dc12 pm12 cd12 ct12 : Value}
    {f13 : Addr} {od13 an13 : Option Addr} {sl13 : Array (Option Value)} {oc13 kV13 dc13 pm13 cd13 ct13 : Value}
    {f14 : Addr} {od14 an14 : Option Addr} {sl14 : Array (Option Value)} {oc14 kV14 dc14 pm14 cd14 ct14 : Value}
    {f15 : Addr} {od15 an15 : Option Addr} {sl15 : Array (Option Value)} {oc15 kV15 dc15 pm15 cd15 ct15 : Value}
    {f16 : Addr} {od16 an16 : Option Addr} {sl16 : Array (Option Value)} {oc16 kV16 dc16 pm16 cd16 ct16 : Value}
    {f17 : Addr} {od17 an17 : Option Addr} {sl17 : Array (Option Value)} {oc17 kV17 dc17 pm17 cd17 ct17 : Value}
    {f18 : Addr} {od18 an18 : Option Addr} {sl18 : Array (Option Value)} {oc18 kV18 dc18 pm18 cd18 ct18 : Value}
    {f19 : Addr} {od19 an19 : Option Addr} {sl19 : Array (Option Value)} {oc19 kV19 dc19 pm19 cd19 ct19 : Value}
    {f20 : Addr} {od20 an20 : Option Addr} {sl20 : Array (Option Value)} {oc20 kV20 dc20 pm20 cd20 ct20 : Value}
    {tk0 : Tok}
    (a0 : PySem.W.nsIn K mainGlobals "_law_mix" = some (some (.ref f0))) (l0 : K.lookup f0 = some ⟨oc0, od0, .func (PySem.W.fnOf "_law_mix" "_law_mix" (defArgs s__law_mix) (defBody s__law_mix) (defScope s__law_mix) .none kV0 dc0 pm0 an0 cd0 ct0), sl0⟩) (c0 : PySem.W.codeIn K cd0 "_law_mix" = true) (k0 : PySem.W.keepIn K (.ref f0) = true)
    (a1 : PySem.W.nsIn K mainGlobals "_law_piece" = some (some (.ref f1))) (l1 : K.lookup f1 = some ⟨oc1, od1, .func (PySem.W.fnOf "_law_piece" "_law_piece" (defArgs s__law_piece) (defBody s__law_piece) (defScope s__law_piece) .none kV1 dc1 pm1 an1 cd1 ct1), sl1⟩) (c1 : PySem.W.codeIn K cd1 "_law_piece" = true) (k1 : PySem.W.keepIn K (.ref f1) = true)
    (a2 : PySem.W.nsIn K mainGlobals "_law_sheet" = some (some (.ref f2))) (l2 : K.lookup f2 = some ⟨oc2, od2, .func (PySem.W.fnOf "_law_sheet" "_law_sheet" (defArgs s__law_sheet) (defBody s__law_sheet) (defScope s__law_sheet) .none kV2 dc2 pm2 an2 cd2 ct2), sl2⟩) (c2 : PySem.W.codeIn K cd2 "_law_sheet" = true) (k2 : PySem.W.keepIn K (.ref f2) = true)
    (a3 : PySem.W.nsIn K mainGlobals "_law_has" = some (some (.ref f3))) (l3 : K.lookup f3 = some ⟨oc3, od3, .func (PySem.W.fnOf "_law_has" "_law_has" (defArgs s__law_has) (defBody s__law_has) (defScope s__law_has) .none kV3 dc3 pm3 an3 cd3 ct3), sl3⟩) (c3 : PySem.W.codeIn K cd3 "_law_has" = true) (k3 : PySem.W.keepIn K (.ref f3) = true)
    (a4 : PySem.W.nsIn K mainGlobals "_law_layers" = some (some (.ref f4))) (l4 : K.lookup f4 = some ⟨oc4, od4, .func (PySem.W.fnOf "_law_layers" "_law_layers" (defArgs s__law_layers) (defBody s__law_layers) (defScope s__law_layers) .none kV4 dc4 pm4 an4 cd4 ct4), sl4⟩) (c4 : PySem.W.codeIn K cd4 "_law_layers" = true) (k4 : PySem.W.keepIn K (.ref f4) = true)
    (a5 : PySem.W.nsIn K mainGlobals "_law_cells" = some (some (.ref f5))) (l5 : K.lookup f5 = some ⟨oc5, od5, .func (PySem.W.fnOf "_law_cells" "_law_cells" (defArgs s__law_cells) (defBody s__law_cells) (defScope s__law_cells) .none kV5 dc5 pm5 an5 cd5 ct5), sl5⟩) (c5 : PySem.W.codeIn K cd5 "_law_cells" = true) (k5 : PySem.W.keepIn K (.ref f5) = true)
    (a6 : PySem.W.nsIn K mainGlobals "bands_between" = some (some (.ref f6))) (l6 : K.lookup f6 = some ⟨oc6, od6, .func (PySem.W.fnOf "bands_between" "bands_between" (defArgs s_bands_between) (defBody s_bands_between) (defScope s_bands_between) .none kV6 dc6 pm6 an6 cd6 ct6), sl6⟩) (c6 : PySem.W.codeIn K cd6 "bands_between" = true) (k6 : PySem.W.keepIn K (.ref f6) = true)
    (a7 : PySem.W.nsIn K mainGlobals "span_of" = some (some (.ref f7))) (l7 : K.lookup f7 = some ⟨oc7, od7, .func (PySem.W.fnOf "span_of" "span_of" (defArgs s_span_of) (defBody s_span_of) (defScope s_span_of) .none kV7 dc7 pm7 an7 cd7 ct7), sl7⟩) (c7 : PySem.W.codeIn K cd7 "span_of" = true) (k7 : PySem.W.keepIn K (.ref f7) = true)
    (a8 : PySem.W.nsIn K mainGlobals "edges_of" = some (some (.ref f8))) (l8 : K.lookup f8 = some ⟨oc8, od8, .func (PySem.W.fnOf "edges_of" "edges_of" (defArgs s_edges_of) (defBody s_edges_of) (defScope s_edges_of) .none kV8 dc8 pm8 an8 cd8 ct8), sl8⟩) (c8 : PySem.W.codeIn K cd8 "edges_of" = true) (k8 : PySem.W.keepIn K (.ref f8) = true)
    (a9 : PySem.W.nsIn K mainGlobals "turns_of" = some (some (.ref f9))) (l9 : K.lookup f9 = some ⟨oc9, od9, .func (PySem.W.fnOf "turns_of" "turns_of" (defArgs s_turns_of) (defBody s_turns_of) (defScope s_turns_of) .none kV9 dc9 pm9 an9 cd9 ct9), sl9⟩) (c9 : PySem.W.codeIn K cd9 "turns_of" = true) (k9 : PySem.W.keepIn K (.ref f9) = true)
    (a10 : PySem.W.nsIn K mainGlobals "add_change" = some (some (.ref f10))) (l10 : K.lookup f10 = some ⟨oc10, od10, .func (PySem.W.fnOf "add_change" "add_change" (defArgs s_add_change) (defBody s_add_change) (defScope s_add_change) .none kV10 dc10 pm10 an10 cd10 ct10), sl10⟩) (c10 : PySem.W.codeIn K cd10 "add_change" = true) (k10 : PySem.W.keepIn K (.ref f10) = true)
    (a11 : PySem.W.nsIn K mainGlobals "depth_changes" = some (some (.ref f11))) (l11 : K.lookup f11 = some ⟨oc11, od11, .func (PySem.W.fnOf "depth_changes" "depth_changes" (defArgs s_depth_changes) (defBody s_depth_changes) (defScope s_depth_changes) .none kV11 dc11 pm11 an11 cd11 ct11), sl11⟩) (c11 : PySem.W.codeIn K cd11 "depth_changes" = true) (k11 : PySem.W.keepIn K (.ref f11) = true)
    (a12 : PySem.W.nsIn K mainGlobals "depth_rows" = some (some (.ref f12))) (l12 : K.lookup f12 = some ⟨oc12, od12, .func (PySem.W.fnOf "depth_rows" "depth_rows" (defArgs s_depth_rows) (defBody s_depth_rows) (defScope s_depth_rows) .none kV12 dc12 pm12 an12 cd12 ct12), sl12⟩) (c12 : PySem.W.codeIn K cd12 "depth_rows" = true) (k12 : PySem.W.keepIn K (.ref f12) = true)
    (a13 : PySem.W.nsIn K mainGlobals "cell_area" = some (some (.ref f13))) (l13 : K.lookup f13 = some ⟨oc13, od13, .func (PySem.W.fnOf "cell_area" "cell_area" (defArgs s_cell_area) (defBody s_cell_area) (defScope s_cell_area) .none kV13 dc13 pm13 an13 cd13 ct13), sl13⟩) (c13 : PySem.W.codeIn K cd13 "cell_area" = true) (k13 : PySem.W.keepIn K (.ref f13) = true)
    (a14 : PySem.W.nsIn K mainGlobals "depth_areas" = some (some (.ref f14))) (l14 : K.lookup f14 = some ⟨oc14, od14, .func (PySem.W.fnOf "depth_areas" "depth_areas" (defArgs s_depth_areas) (defBody s_depth_areas) (defScope s_depth_areas) .none kV14 dc14 pm14 an14 cd14 ct14), sl14⟩) (c14 : PySem.W.codeIn K cd14 "depth_areas" = true) (k14 : PySem.W.keepIn K (.ref f14) = true)
    (a15 : PySem.W.nsIn K mainGlobals "area_of" = some (some (.ref f15))) (l15 : K.lookup f15 = some ⟨oc15, od15, .func (PySem.W.fnOf "area_of" "area_of" (defArgs s_area_of) (defBody s_area_of) (defScope s_area_of) .none kV15 dc15 pm15 an15 cd15 ct15), sl15⟩) (c15 : PySem.W.codeIn K cd15 "area_of" = true) (k15 : PySem.W.keepIn K (.ref f15) = true)
    (a16 : PySem.W.nsIn K mainGlobals "shared_area" = some (some (.ref f16))) (l16 : K.lookup f16 = some ⟨oc16, od16, .func (PySem.W.fnOf "shared_area" "shared_area" (defArgs s_shared_area) (defBody s_shared_area) (defScope s_shared_area) .none kV16 dc16 pm16 an16 cd16 ct16), sl16⟩) (c16 : PySem.W.codeIn K cd16 "shared_area" = true) (k16 : PySem.W.keepIn K (.ref f16) = true)
    (a17 : PySem.W.nsIn K mainGlobals "covered_area" = some (some (.ref f17))) (l17 : K.lookup f17 = some ⟨oc17, od17, .func (PySem.W.fnOf "covered_area" "covered_area" (defArgs s_covered_area) (defBody s_covered_area) (defScope s_covered_area) .none kV17 dc17 pm17 an17 cd17 ct17), sl17⟩) (c17 : PySem.W.codeIn K cd17 "covered_area" = true) (k17 : PySem.W.keepIn K (.ref f17) = true)
    (a18 : PySem.W.nsIn K mainGlobals "_law_whole" = some (some (.ref f18))) (l18 : K.lookup f18 = some ⟨oc18, od18, .func (PySem.W.fnOf "_law_whole" "_law_whole" (defArgs s__law_whole) (defBody s__law_whole) (defScope s__law_whole) .none kV18 dc18 pm18 an18 cd18 ct18), sl18⟩) (c18 : PySem.W.codeIn K cd18 "_law_whole" = true) (k18 : PySem.W.keepIn K (.ref f18) = true)
    (a19 : PySem.W.nsIn K mainGlobals "_law_area" = some (some (.ref f19))) (l19 : K.lookup f19 = some ⟨oc19, od19, .func (PySem.W.fnOf "_law_area" "_law_area" (defArgs s__law_area) (defBody s__law_area) (defScope s__law_area) .none kV19 dc19 pm19 an19 cd19 ct19), sl19⟩) (c19 : PySem.W.codeIn K cd19 "_law_area" = true) (k19 : PySem.W.keepIn K (.ref f19) = true)
    (a20 : PySem.W.nsIn K mainGlobals "law" = some (some (.ref f20))) (l20 : K.lookup f20 = some ⟨oc20, od20, .func (PySem.W.fnOf "law" "law" (defArgs s_law) (defBody s_law) (defScope s_law) .none kV20 dc20 pm20 an20 cd20 ct20), sl20⟩) (c20 : PySem.W.codeIn K cd20 "law" = true) (k20 : PySem.W.keepIn K (.ref f20) = true)
    (v0 : PySem.W.nsIn K mainGlobals "WHOLE_TURN" = some (some (.int 24 tk0)))
    (z0 : PySem.W.nsIn K mainGlobals "all" = some none)
    (z1 : PySem.W.nsIn K mainGlobals "bool" = some none)
    (z2 : PySem.W.nsIn K mainGlobals "enumerate" = some none)
    (z3 : PySem.W.nsIn K mainGlobals "int" = some none)
    (z4 : PySem.W.nsIn K mainGlobals "isinstance" = some none)
    (z5 : PySem.W.nsIn K mainGlobals "len" = some none)
    (z6 : PySem.W.nsIn K mainGlobals "list" = some none)
    (z7 : PySem.W.nsIn K mainGlobals "max" = some none)
    (z8 : PySem.W.nsIn K mainGlobals "min" = some none)
    (z9 : PySem.W.nsIn K mainGlobals "range" = some none)
    (z10 : PySem.W.nsIn K mainGlobals "set" = some none)
    (z11 : PySem.W.nsIn K mainGlobals "sorted" = some none)
    (z12 : PySem.W.nsIn K mainGlobals "sum" = some none)
    (z13 : PySem.W.nsIn K mainGlobals "tuple" = some none)
    (z14 : PySem.W.nsIn K mainGlobals "zip" = some none) :
    ∃ fd : FuncData, (∀ (s : Shared) (v : Value), BindsTo s fd ⟨[v], []⟩ [("_law_script", v)]) ∧ ∀ base : Heap, K.In base → base.Ns mainGlobals mg → FnOk l.prog w K mg base CX0 7 fa fd ["_law_script"] (spD K m_law) := by
  have e := hfa.symm.trans (PySem.W.mg_of X G a20)
  cases e
  refine ⟨(txt_mk X G a0 l0 c0 k0 a1 l1 c1 k1 a2 l2 c2 k2 a3 l3 c3 k3 a4 l4 c4 k4 a5 l5 c5 k5 a6 l6 c6 k6 a7 l7 c7 k7 a8 l8 c8 k8 a9 l9 c9 k9 a10 l10 c10 k10 a11 l11 c11 k11 a12 l12 c12 k12 a13 l13 c13 k13 a14 l14 c14 k14 a15 l15 c15 k15 a16 l16 c16 k16 a17 l17 c17 k17 a18 l18 c18 k18 a19 l19 c19 k19 a20 l20 c20 k20 v0 z0 z1 z2 z3 z4 z5 z6 z7 z8 z9 z10 z11 z12 z13 z14).fd_law, fun s v => .of_eq rfl, fun base _ _ => ok_law (txt_mk X G a0 l0 c0 k0 a1 l1 c1 k1 a2 l2 c2 k2 a3 l3 c3 k3 a4 l4 c4 k4 a5 l5 c5 k5 a6 l6 c6 k6 a7 l7 c7 k7 a8 l8 c8 k8 a9 l9 c9 k9 a10 l10 c10 k10 a11 l11 c11 k11 a12 l12 c12 k12 a13 l13 c13 k13 a14 l14 c14 k14 a15 l15 c15 k15 a16 l16 c16 k16 a17 l17 c17 k17 a18 l18 c18 k18 a19 l19 c19 k19 a20 l20 c20 k20 v0 z0 z1 z2 z3 z4 z5 z6 z7 z8 z9 z10 z11 z12 z13 z14)⟩
theorem walk {l : PySem.W.OpenLaw} {q : Program} {loose : List Str} {XP : (Str → Option Value) → Heap → Prop} {YP : World → Heap → Prop} {d : DefRec} {K : Params → PySem.W.Frag} (hn : l.most = some 63) (hdf : d.params.defaults = [])
    (hY : ∀ (w : World) (h : Heap), YP w h → (K w.params).In h)
    (F : ∀ (w : World) (mg : Str → Option Value) (fa : Addr) (h : Heap), (K w.params).In h → h.Ns mainGlobals mg → mg d.name = some (.ref fa) →
      ∃ fd : FuncData, (∀ (s : Shared) (u : Value), BindsTo s fd ⟨[u], []⟩ [("_law_script", u)]) ∧ ∀ base : Heap, (K w.params).In base → base.Ns mainGlobals mg → FnOk l.prog w (K w.params) mg base CX0 7 fa fd ["_law_script"] (spD (K w.params) m_law)) :
    PySem.W.WalkO q loose XP YP l.row.toRowW d [] (fun f vs => PySem.call f vs) :=
  L2.walk_of (n := 63) (k := 7) (x := "_law_script") (CX := fun _ => CX0) (sp := fun w => spD (K w.params) m_law) hn (by decide) hdf ⟨rfl, by decide, by decide⟩ hY F
    (fun w H a ns hl _ hS => ⟨[], [.lst (ns.map .int)], .bl true, (fun _ z => absurd z (by simp)), hide_nil.symm ▸ .cons (.lst hS (Dens.ints ns)) .nil, r_law ns, fun v H' _ r => r.bl_inv⟩) fun _ _ _ _ _ z => z
end DL.K03

set_option Elab.async false
open PySem PySem.W PyProof.Rows
set_option maxRecDepth 100000 in
set_option maxHeartbeats 0 in
theorem PySem.Challenge.cw_ringlayers_k03_whole_areas_holds : PySem.Challenge.rw_ringlayers_k03_whole_areas.Holds := by
  w_on; o_law; k_head; (case hw => w_witness2)
  k_fill
  refine DL.K03.walk (l := PySem.Challenge.rw_ringlayers_k03_whole_areas) rfl rfl (fun w h Y => PySem.W.kIn_of Y) ?F
  case F =>
    intro w mg fa h KX G hmg
    refine' DL.K03.all_mk KX G hmg ?a0 ?l0 ?c0 ?k0 ?a1 ?l1 ?c1 ?k1 ?a2 ?l2 ?c2 ?k2 ?a3 ?l3 ?c3 ?k3 ?a4 ?l4 ?c4 ?k4 ?a5 ?l5 ?c5 ?k5 ?a6 ?l6 ?c6 ?k6 ?a7 ?l7 ?c7 ?k7 ?a8 ?l8 ?c8 ?k8 ?a9 ?l9 ?c9 ?k9 ?a10 ?l10 ?c10 ?k10 ?a11 ?l11 ?c11 ?k11 ?a12 ?l12 ?c12 ?k12 ?a13 ?l13 ?c13 ?k13 ?a14 ?l14 ?c14 ?k14 ?a15 ?l15 ?c15 ?k15 ?a16 ?l16 ?c16 ?k16 ?a17 ?l17 ?c17 ?k17 ?a18 ?l18 ?c18 ?k18 ?a19 ?l19 ?c19 ?k19 ?a20 ?l20 ?c20 ?k20 ?v0 ?z0 ?z1 ?z2 ?z3 ?z4 ?z5 ?z6 ?z7 ?z8 ?z9 ?z10 ?z11 ?z12 ?z13 ?z14
    (case a0 => k_is)
    (case l0 => k_is)
    (case c0 => k_is)
    (case k0 => k_is)
    (case a1 => k_is)
    (case l1 => k_is)
    (case c1 => k_is)
    (case k1 => k_is)
    (case a2 => k_is)
    (case l2 => k_is)
    (case c2 => k_is)
    (case k2 => k_is)
    (case a3 => k_is)
    (case l3 => k_is)
    (case c3 => k_is)
    (case k3 => k_is)
    (case a4 => k_is)
    (case l4 => k_is)
    (case c4 => k_is)
    (case k4 => k_is)
    (case a5 => k_is)
    (case l5 => k_is)
    (case c5 => k_is)
    (case k5 => k_is)
    (case a6 => k_is)
    (case l6 => k_is)
    (case c6 => k_is)
    (case k6 => k_is)
    (case a7 => k_is)
    (case l7 => k_is)
    (case c7 => k_is)
    (case k7 => k_is)
    (case a8 => k_is)
    (case l8 => k_is)
    (case c8 => k_is)
    (case k8 => k_is)
    (case a9 => k_is)
    (case l9 => k_is)
    (case c9 => k_is)
    (case k9 => k_is)
    (case a10 => k_is)
    (case l10 => k_is)
    (case c10 => k_is)
    (case k10 => k_is)
    (case a11 => k_is)
    (case l11 => k_is)
    (case c11 => k_is)
    (case k11 => k_is)
    (case a12 => k_is)
    (case l12 => k_is)
    (case c12 => k_is)
    (case k12 => k_is)
    (case a13 => k_is)
    (case l13 => k_is)
    (case c13 => k_is)
    (case k13 => k_is)
    (case a14 => k_is)
    (case l14 => k_is)
    (case c14 => k_is)
    (case k14 => k_is)
    (case a15 => k_is)
    (case l15 => k_is)
    (case c15 => k_is)
    (case k15 => k_is)
    (case a16 => k_is)
    (case l16 => k_is)
    (case c16 => k_is)
    (case k16 => k_is)
    (case a17 => k_is)
    (case l17 => k_is)
    (case c17 => k_is)
    (case k17 => k_is)
    (case a18 => k_is)
    (case l18 => k_is)
    (case c18 => k_is)
    (case k18 => k_is)
    (case a19 => k_is)
    (case l19 => k_is)
    (case c19 => k_is)
    (case k19 => k_is)
    (case a20 => k_is)
    (case l20 => k_is)
    (case c20 => k_is)
    (case k20 => k_is)
    (case v0 => k_is)
    (case z0 => k_is)
    (case z1 => k_is)
    (case z2 => k_is)
    (case z3 => k_is)
    (case z4 => k_is)
    (case z5 => k_is)
    (case z6 => k_is)
    (case z7 => k_is)
    (case z8 => k_is)
    (case z9 => k_is)
    (case z10 => k_is)
    (case z11 => k_is)
    (case z12 => k_is)
    (case z13 => k_is)
    (case z14 => k_is)
