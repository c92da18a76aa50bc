import PyProof.Rows.All
import Wide.All
import OpenK.AllK
import Wide.FinOn
import PyProof.EqAt
import PyProof.EqKinds
import PyProof.TupleCall
import KE.BitLaws
import PyProof.InstNe
import PyProof.Rows.SortShellAny
import PyProof.Rows.SetFrom
import KE.KSortedM
import PySem.Challenge.RW_snapdigits_k56_settled_times
set_option Elab.async false
set_option linter.all false
set_option maxRecDepth 100000
/-! THE HAND LAYER, for ints, bools, texts, own classes, lists, tuples, dicts, comprehensions, walks over dicts, enumerate, zip, reversed, texts, calls, loops. Paste it whole ahead of your own text; what your proof does not reach may be deleted. -/
namespace L2
open PySem PySem.Spec PyProof.Rows

/-- a key: an int or a str -/
abbrev Key := Sum Int Str
def keyIs : Key → Value → Bool
  | .inl k, v => Value.isInt k v
  | .inr x, v => Value.isStrOf x v
def keyH (w : World) : Key → Int
  | .inl k => hashInt k
  | .inr x => hashStr w x
theorem keyIs_shape : ∀ {k : Key} {v : Value}, keyIs k v = true → (∃ i t, k = Sum.inl i ∧ v = Value.int i t) ∨ (∃ x t, k = Sum.inr x ∧ v = Value.str x t)
  | .inl i, v, h => by
    obtain ⟨t, e⟩ := Value.isInt_shape (k := i) (v := v) h
    exact .inl ⟨i, t, rfl, e⟩
  | .inr x, v, h => by
    obtain ⟨t, e⟩ := Value.isStrOf_shape (x := x) (v := v) h
    exact .inr ⟨x, t, rfl, e⟩
theorem keyIs_int (i : Int) (t : Tok) : keyIs (.inl i) (.int i t) = true := by simp [keyIs, Value.isInt]
theorem keyIs_str (x : Str) (t : Tok) : keyIs (.inr x) (.str x t) = true := by simp [keyIs, Value.isStrOf]
theorem key_ll (a b : Int) : decide ((Sum.inl a : Key) = Sum.inl b) = (a == b) := by
  by_cases e : a = b
  · subst e; simp
  · have h : ¬ (Sum.inl a : Key) = Sum.inl b := fun q => e (Sum.inl.inj q)
    rw [decide_eq_false h]
    exact (beq_eq_false_iff_ne.mpr e).symm
theorem key_rr (a b : Str) : decide ((Sum.inr a : Key) = Sum.inr b) = decide (a = b) := by
  by_cases e : a = b
  · subst e; simp
  · have h : ¬ (Sum.inr a : Key) = Sum.inr b := fun q => e (Sum.inr.inj q)
    rw [decide_eq_false h, decide_eq_false e]
theorem key_lr (a : Int) (b : Str) : decide ((Sum.inl a : Key) = Sum.inr b) = false := decide_eq_false (fun q => nomatch q)
theorem key_rl (a : Str) (b : Int) : decide ((Sum.inr a : Key) = Sum.inl b) = false := decide_eq_false (fun q => nomatch q)

def mixKind (prog : Program) (w : World) : PySem.KeyKind prog w Key where
  is := keyIs
  hash := keyH w
  inj := fun v a b ha hb => by
    rcases keyIs_shape ha with ⟨i, t, rfl, rfl⟩ | ⟨x, t, rfl, rfl⟩
    · rcases keyIs_shape hb with ⟨j, u, rfl, e⟩ | ⟨y, u, rfl, e⟩
      · injection e with e1 _; rw [e1]
      · exact nomatch e
    · rcases keyIs_shape hb with ⟨j, u, rfl, e⟩ | ⟨y, u, rfl, e⟩
      · exact nomatch e
      · injection e with e1 _; rw [e1]
  byValue := fun k v h => by
    rcases keyIs_shape h with ⟨i, t, rfl, rfl⟩ | ⟨x, t, rfl, rfl⟩ <;> rfl
  pyHash := fun hv h => by
    rcases keyIs_shape hv with ⟨i, t, rfl, rfl⟩ | ⟨x, t, rfl, rfl⟩
    · exact wpAny_pyHash_int h
    · exact wpAny_pyHash_str h
  eqBool := fun hu hv h => by
    rcases keyIs_shape hu with ⟨i, t, rfl, rfl⟩ | ⟨x, t, rfl, rfl⟩
    · rcases keyIs_shape hv with ⟨j, u, rfl, rfl⟩ | ⟨y, u, rfl, rfl⟩
      · rw [key_ll] at h; exact wpAny_eqBool_int h
      · rw [key_lr] at h; exact SeqAt.EqAt.int_str i t y u _ _ _ _ h
    · rcases keyIs_shape hv with ⟨j, u, rfl, rfl⟩ | ⟨y, u, rfl, rfl⟩
      · rw [key_rl] at h; exact SeqAt.EqAt.str_int x t j u _ _ _ _ h
      · rw [key_rr] at h; exact wpAny_eqBool_str h
  «strs» := fun k x t v h => by
    rcases keyIs_shape h with ⟨i, u, rfl, e⟩ | ⟨y, u, rfl, e⟩
    · exact nomatch e
    · injection e with e1 _
      subst e1
      cases v <;> rfl

theorem mixKind_is (prog : Program) (w : World) (k : Key) (v : Value) : (mixKind prog w).is k v = keyIs k v := rfl
theorem mixKind_int (prog : Program) (w : World) (i : Int) (t : Tok) : (mixKind prog w).is (.inl i) (.int i t) = true := keyIs_int i t
theorem mixKind_str (prog : Program) (w : World) (x : Str) (t : Tok) : (mixKind prog w).is (.inr x) (.str x t) = true := keyIs_str x t
end L2

namespace L2
open PySem PySem.Spec PyProof.Rows

/-- a value, without the heap -/
inductive V where
  | non | bl (b : Bool) | int (i : Int) | str (x : Str) | byt (b : Array UInt8) | flt (b : UInt64) | ref (a : Addr) | ty (n : String)
  deriving DecidableEq

def RelV : V → Value → Prop
  | .non, u => u = Value.none
  | .bl b, u => u = Value.bool b
  | .int i, u => ∃ t, u = Value.int i t
  | .str x, u => ∃ t, u = Value.str x t
  | .byt b, u => ∃ t, u = Value.bytes b t
  | .flt b, u => ∃ t, u = Value.float b t
  | .ref a, u => u = Value.ref a
  | .ty n, u => u = Value.type n

abbrev Vals : List V → List Value → Prop := Paired RelV
theorem Vals.length {xs : List V} {us : List Value} (r : Vals xs us) : xs.length = us.length := Paired.length r
theorem Vals.get : ∀ {xs : List V} {us : List Value} {i : Nat} {x : V}, Vals xs us → xs[i]? = some x → ∃ u, us[i]? = some u ∧ RelV x u
  | _, _, _, _, .nil, e => by simp at e
  | _, _, 0, _, .cons r _, e => by simp at e; subst e; exact ⟨_, rfl, r⟩
  | _, _, i + 1, x, .cons _ t, e => by
    obtain ⟨u, h1, h2⟩ := Vals.get (i := i) (x := x) t (by simpa using e)
    exact ⟨u, by simpa using h1, h2⟩
theorem Vals.set {x : V} {u : Value} (r : RelV x u) : ∀ {xs : List V} {us : List Value} (i : Nat), Vals xs us → Vals (xs.set i x) (us.set i u)
  | _, _, _, .nil => .nil
  | _, _, 0, .cons _ t => .cons r t
  | _, _, i + 1, .cons q t => .cons q (Vals.set r i t)
theorem Vals.append : ∀ {xs ys : List V} {us ws : List Value}, Vals xs us → Vals ys ws → Vals (xs ++ ys) (us ++ ws)
  | _, _, _, _, .nil, s => s
  | _, _, _, _, .cons r t, s => .cons r (Vals.append t s)
theorem Vals.take : ∀ {xs : List V} {us : List Value} (n : Nat), Vals xs us → Vals (xs.take n) (us.take n)
  | _, _, 0, _ => .nil
  | _, _, _ + 1, .nil => .nil
  | _, _, n + 1, .cons r t => .cons r (Vals.take n t)
theorem Vals.drop : ∀ {xs : List V} {us : List Value} (n : Nat), Vals xs us → Vals (xs.drop n) (us.drop n)
  | _, _, 0, r => r
  | _, _, _ + 1, .nil => .nil
  | _, _, n + 1, .cons _ t => Vals.drop n t
theorem Vals.none_of : ∀ {xs : List V} {us : List Value} {i : Nat}, Vals xs us → xs[i]? = none → us[i]? = none := fun {xs us i} r e => by
  have h1 := r.length
  have h2 : xs.length ≤ i := List.getElem?_eq_none_iff.mp e
  exact List.getElem?_eq_none_iff.mpr (by omega)

def RelO : Option V → Option Value → Prop
  | some v, some u => RelV v u
  | none, none => True
  | _, _ => False
def KV {κ : Type} : List (κ × V) → List (κ × Value) → Prop := Paired fun (p : κ × V) (q : κ × Value) => p.1 = q.1 ∧ RelV p.2 q.2

/-- a key of a dict (00_mix): an int or a text -/
def kV : Key → V
  | .inl i => .int i
  | .inr x => .str x

/-- what stands at a tracked address -/
inductive HO where
  /-- a list -/
  | lst (xs : List V)
  /-- a tuple (never changes) -/
  | tup (xs : List V)
  /-- a dict whose keys are ints and texts; one whose keys are tuples of ints and texts (the empty one is both) -/
  | dK (kvs : List (Key × V)) | dT (kvs : List (List Key × V))
  /-- a set of ints: its members, its size -/
  | set (S : Int → Bool) (n : Nat)
  /-- an instance of the class at C, its dict at dx, its attributes -/
  | ins (C dx : Addr) (fs : List (Str × V))
  /-- the dict of the instance at x -/
  | own (x : Addr)
  /-- the dict of an exception -/
  | xd (fs : List (Str × V))
  /-- a bound method, f of x -/
  | met (f x : Addr)
  /-- a range object lo, lo + 1, .. below hi -/
  | rng (lo hi : Int)
  /-- a thing that is known to the object (the script; a dict while a loop walks it): read, never written while it is so -/
  | frz (o : Obj) (u : HO)
  /-- a code object's table -/
  | tbl (ps : Array Value)
  /-- any other thing, by what is true of its one object (a def of one's own: SetO a S n := HO.ext fun h => ..) -/
  | ext (φ : Heap → Prop)

abbrev Hp := Addr → Option HO
def upd (H : Hp) (a : Addr) (o : HO) : Hp := fun b => if b = a then some o else H b
theorem upd_same {H : Hp} {a : Addr} {o : HO} : upd H a o a = some o := by unfold upd; rw [if_pos rfl]
theorem upd_ne {H : Hp} {a b : Addr} {o : HO} (h : b ≠ a) : upd H a o b = H b := by unfold upd; rw [if_neg h]
theorem upd_upd {H : Hp} {a : Addr} {o u : HO} : upd (upd H a o) a u = upd H a u := by
  funext b; unfold upd; split <;> rfl
/-- two objects of different content stand apart -/
theorem ne_of {H : Hp} {a b : Addr} {o u : HO} (h : H a = some o) (h' : H b = some u) (d : o ≠ u) : a ≠ b := by
  intro e; subst e; rw [h] at h'; exact d (Option.some.inj h')
theorem ne_of_none {H : Hp} {a b : Addr} {o : HO} (h : H a = some o) (h' : H b = none) : a ≠ b := by
  intro e; subst e; rw [h] at h'; cases h'

section
variable (P : Program) (w : World)
def ObjOk (H : Hp) (h : Heap) (a : Addr) : HO → Prop
  | .lst xs => xs.length ≤ sizeLine ∧ ∃ (its : List Value) (n : Nat), Vals xs its ∧ h.get? a = some { cls := .type "list", data := .seq its.toArray n }
  | .tup xs => xs.length ≤ sizeLine ∧ ∃ its : List Value, Vals xs its ∧ IsTup h a its.toArray
  | .dK kvs => kvs.length ≤ sizeLine ∧ (a == sysModules) = false ∧ ∃ vs, KV kvs vs ∧ h.DictOf (mixKind P w) a vs
  | .dT kvs => kvs.length ≤ sizeLine ∧ (a == sysModules) = false ∧ ∃ xs : List (List Key × Addr × Value),
      Paired (fun (p : List Key × V) (q : List Key × Addr × Value) => p.1 = q.1 ∧ H q.2.1 = some (.tup (p.1.map kV)) ∧ RelV p.2 q.2.2) kvs xs ∧
      ∃ o es ep, h.get? a = some o ∧ o.ExactDict ∧ o.data = .dict es ep ∧ es.toList = xs.map (entryOfKey (tupleKind (mixKind P w))) ∧ (xs.map (·.1)).Nodup
  | .set S n => h.SetOf (intKind P w) a S n
  | .ins C dx fs => H dx = some (.own a) ∧ fs.length ≤ 1000 ∧ dx ≠ a ∧ h.get? a = some (PySem.W.instObj C dx) ∧
      ∃ mA, h.Ns1 dx mA ∧ (∀ f, RelO (fs.lookup f) (mA f)) ∧ PySem.Within mA (fs.map (·.1))
  | .own _ => ∃ o, h.get? a = some o
  | .xd fs => ∃ mA, h.Ns1 a mA ∧ ∀ f, RelO (fs.lookup f) (mA f)
  | .rng lo hi => ∃ t u v, h.get? a = some { cls := .type "range", data := .fields #[.int lo t, .int hi u, .int 1 v] }
  | .frz o u => h.get? a = some o ∧ ObjOk H h a u
  | .tbl ps => h.get? a = some { cls := .none, data := .fields ps }
  | .met f x => h.get? a = some (PySem.W.methodObj (.ref f) (.ref x))
  | .ext φ => φ h ∧ (∃ o, h.get? a = some o) ∧ ∀ h1 h2 : Heap, φ h1 → (∀ o, h1.get? a = some o → h2.get? a = some o) → φ h2
/-- the abstract heap is held -/
def HOk (H : Hp) (h : Heap) : Prop := ∀ a o, H a = some o → ObjOk P w H h a o
end

section
variable {P : Program} {w : World} {H H' : Hp} {h h' : Heap} {a : Addr} {o : HO}
theorem ObjOk.lt (x : ObjOk P w H h a o) : a < h.objs.size := by
  cases o with
  | lst xs => obtain ⟨_, _, _, _, e⟩ := x; exact Heap.lt_size e
  | tup xs => obtain ⟨_, _, _, p⟩ := x; exact p.lt
  | dK kvs => obtain ⟨_, _, _, _, o, _, _, e, _⟩ := x; exact Heap.lt_size e
  | dT kvs => obtain ⟨_, _, _, _, o, _, _, e, _⟩ := x; exact Heap.lt_size e
  | set S n => obtain ⟨o, _, _, _, e, _⟩ := x; exact Heap.lt_size e
  | ins C dx fs => obtain ⟨_, _, _, e, _⟩ := x; exact Heap.lt_size e
  | own y => obtain ⟨_, e⟩ := x; exact Heap.lt_size e
  | xd fs => obtain ⟨_, ⟨_, _, _, e, _⟩, _⟩ := x; exact Heap.lt_size e
  | rng lo hi => obtain ⟨_, _, _, e⟩ := x; exact Heap.lt_size e
  | frz ob u => obtain ⟨e, _⟩ := x; exact Heap.lt_size e
  | tbl ps => exact Heap.lt_size (show h.get? a = some _ from x)
  | met f y => exact Heap.lt_size (show h.get? a = some _ from x)
  | ext φ => obtain ⟨_, ⟨_, e⟩, _⟩ := x; exact Heap.lt_size e
theorem Paired.mapP {α β : Type} {F G : α → β → Prop} : ∀ {l₁ : List α} {l₂ : List β}, Paired F l₁ l₂ → (∀ a b, F a b → G a b) → Paired G l₁ l₂
  | _, _, .nil, _ => .nil
  | _, _, .cons r t, f => .cons (f _ _ r) (Paired.mapP t f)
theorem Paired.imp' {α β : Type} {F G : α → β → Prop} (f : ∀ a b, F a b → G a b) {l₁ : List α} {l₂ : List β} (r : Paired F l₁ l₂) : Paired G l₁ l₂ := Paired.mapP r f
/-- what an object's description leans on: its own object, its own dict, the tuples -/
theorem ObjOk.stay (x : ObjOk P w H h a o) (k : ∀ b u, (b = a ∨ H b = some (.own a)) → h.get? b = some u → h'.get? b = some u)
    (ho : ∀ b, H b = some (.own a) → H' b = some (.own a)) (ht : ∀ b xs, H b = some (.tup xs) → H' b = some (.tup xs)) : ObjOk P w H' h' a o := by
  induction o with
  | lst xs => obtain ⟨z, its, n, r, e⟩ := x; exact ⟨z, its, n, r, k _ _ (.inl rfl) e⟩
  | tup xs => obtain ⟨z, its, r, ob, e, c⟩ := x; exact ⟨z, its, r, ob, k _ _ (.inl rfl) e, c⟩
  | dK kvs => obtain ⟨z, y, vs, r, ob, es, ep, e, c⟩ := x; exact ⟨z, y, vs, r, ob, es, ep, k _ _ (.inl rfl) e, c⟩
  | dT kvs =>
    obtain ⟨z, y, xs, r, ob, es, ep, e, c⟩ := x
    exact ⟨z, y, xs, Paired.mapP r fun p q z => ⟨z.1, ht _ _ z.2.1, z.2.2⟩, ob, es, ep, k _ _ (.inl rfl) e, c⟩
  | set S n => obtain ⟨ob, es, ep, t, e, c⟩ := x; exact ⟨ob, es, ep, t, k _ _ (.inl rfl) e, c⟩
  | ins C dx fs =>
    obtain ⟨d, z, ne, e, mA, ⟨od, es, ep, e2, c⟩, r⟩ := x
    exact ⟨ho _ d, z, ne, k _ _ (.inl rfl) e, mA, ⟨od, es, ep, k _ _ (.inr d) e2, c⟩, r⟩
  | own y => obtain ⟨ob, e⟩ := x; exact ⟨ob, k _ _ (.inl rfl) e⟩
  | xd fs => obtain ⟨mA, ⟨od, es, ep, e, c⟩, r⟩ := x; exact ⟨mA, ⟨od, es, ep, k _ _ (.inl rfl) e, c⟩, r⟩
  | rng lo hi => obtain ⟨t, u, v, e⟩ := x; exact ⟨t, u, v, k _ _ (.inl rfl) e⟩
  | frz ob u ih => obtain ⟨e, q⟩ := x; exact ⟨k _ _ (.inl rfl) e, ih q⟩
  | tbl ps =>
    have e : h.get? a = some { cls := .none, data := .fields ps } := x
    show h'.get? a = some { cls := .none, data := .fields ps }
    exact k a _ (.inl rfl) e
  | met f y =>
    have e : h.get? a = some (PySem.W.methodObj (.ref f) (.ref y)) := x
    show h'.get? a = some (PySem.W.methodObj (.ref f) (.ref y))
    exact k a _ (.inl rfl) e
  | ext φ => obtain ⟨p, ⟨o, e⟩, st⟩ := x; exact ⟨st _ _ p fun o q => k _ _ (.inl rfl) q, ⟨o, k _ _ (.inl rfl) e⟩, st⟩
theorem HOk.lt (x : HOk P w H h) (e : H a = some o) : a < h.objs.size := (x a o e).lt
theorem HOk.fresh (x : HOk P w H h) (e : h.objs.size ≤ a) : H a = none := by
  cases q : H a with
  | none => rfl
  | some u => exact absurd (Nat.lt_of_lt_of_le (x.lt q) e) (Nat.lt_irrefl _)
/-- every object of the heap is kept -/
theorem HOk.kept (x : HOk P w H h) (k : ∀ b u, h.get? b = some u → h'.get? b = some u) : HOk P w H h' := fun a o e =>
  (x a o e).stay (fun b u _ q => k b u q) (fun _ q => q) fun _ _ q => q
/-- a new object is laid and tracked -/
theorem HOk.laid (x : HOk P w H h) (k : ∀ b u, h.get? b = some u → h'.get? b = some u) (hp : h.objs.size ≤ a) (new : ObjOk P w (upd H a o) h' a o) : HOk P w (upd H a o) h' := fun b u e => by
  have hn := x.fresh hp
  by_cases hb : b = a
  · subst hb; rw [upd_same] at e; cases e; exact new
  · rw [upd_ne hb] at e
    exact (x b u e).stay (fun c v _ q => k c v q) (fun c q => by rw [upd_ne (ne_of_none q hn)]; exact q) fun c xs q => by rw [upd_ne (ne_of_none q hn)]; exact q
end

/-- what may be read as u: it is u, or a known u -/
def Rd (H : Hp) (a : Addr) (u : HO) : Prop := H a = some u ∨ ∃ o, H a = some (.frz o u)
theorem Rd.of {H : Hp} {a : Addr} {u : HO} (h : H a = some u) : Rd H a u := .inl h
theorem Rd.ok {P : Program} {w : World} {H : Hp} {h : Heap} {a : Addr} {u : HO} (r : Rd H a u) (x : HOk P w H h) : ObjOk P w H h a u := by
  rcases r with r | ⟨o, r⟩
  · exact x a u r
  · obtain ⟨_, q⟩ := x a _ r
    exact q
/-- what may be written -/
def Mut : Option HO → Prop
  | some (.lst _) => True
  | some (.dK _) => True
  | some (.dT _) => True
  | some (.set _ _) => True
  | some (.ins _ _ _) => True
  | some (.ext _) => True
  | _ => False
section
variable {P : Program} {w : World} {H : Hp} {h h' : Heap} {x e : Addr} {o' : HO}
/-- the object at e is changed: x itself, or the dict of the instance x -/
theorem HOk.write (ok : HOk P w H h) (mu : Mut (H x)) (he : e = x ∨ H e = some (.own x)) (k : ∀ b u, b ≠ e → h.get? b = some u → h'.get? b = some u) (heo : ∃ u, h'.get? e = some u)
    (new : ObjOk P w (upd H x o') h' x o') : HOk P w (upd H x o') h' := fun b u q => by
  have nown : ∀ c y, H c = some (.own y) → c ≠ x := fun c y r z => by subst z; rw [r] at mu; exact mu
  have ntup : ∀ c xs, H c = some (.tup xs) → c ≠ x := fun c xs r z => by subst z; rw [r] at mu; exact mu
  by_cases hb : b = x
  · subst hb; rw [upd_same] at q; cases q; exact new
  · rw [upd_ne hb] at q
    by_cases hbe : b = e
    · have q' : H b = some (.own x) := by
        rcases he with z | z
        · exact absurd (hbe.trans z) hb
        · rw [hbe]; exact z
      rw [q] at q'; cases q'
      obtain ⟨v, hv⟩ := heo
      exact ⟨v, by rw [hbe]; exact hv⟩
    · refine (ok b u q).stay (fun c v hc r => k c v ?_ r) (fun c r => by rw [upd_ne (nown c b r)]; exact r) fun c xs r => by rw [upd_ne (ntup c xs r)]; exact r
      rcases hc with rfl | hc
      · exact hbe
      · rintro rfl
        rcases he with z | z
        · exact nown c b hc z
        · rw [hc] at z; cases z; exact hb rfl
end

/-! ### kept unless tracked; of the frames at fs (the callers') the slots may change (an exception that passes writes there); of the records at ex (iterators) nothing is said -/
structure Un (fs ex : List Addr) (H H' : Hp) (h h' : Heap) : Prop where
  keep : ∀ b o, h.get? b = some o → H b = none → b ∉ fs → b ∉ ex → h'.get? b = some o
  slot : ∀ b o, h.get? b = some o → H b = none → b ∈ fs → b ∉ ex → ∃ sl, h'.get? b = some { o with slots := sl }
  free : ∀ b o, h.get? b = some o → H b = none → b ∉ ex → H' b = none
  there : ∀ b o, h.get? b = some o → b ∉ ex → ∃ o', h'.get? b = some o'
  tups : ∀ b xs, H b = some (.tup xs) → H' b = some (.tup xs)
  frzs : ∀ b o u, H b = some (.frz o u) → H' b = some (.frz o u)
  tbls : ∀ b ps, H b = some (.tbl ps) → ∃ more, H' b = some (.tbl (ps ++ more))
section
variable {fs fs' ex ex' : List Addr} {H H1 H2 : Hp} {h h1 h2 h' : Heap} {a x e : Addr} {o : HO}
theorem Un.any (u : Un fs ex H H1 h h1) {b : Addr} {ob : Obj} (q : h.get? b = some ob) (n : H b = none) (hx : b ∉ ex) : ∃ sl, h1.get? b = some { ob with slots := sl } := by
  by_cases hb : b ∈ fs
  · exact u.slot b ob q n hb hx
  · exact ⟨ob.slots, u.keep b ob q n hb hx⟩
theorem Un.trans (a : Un fs ex H H1 h h1) (b : Un fs ex H1 H2 h1 h2) : Un fs ex H H2 h h2 where
  keep := fun c ob q n hc hx => b.keep c ob (a.keep c ob q n hc hx) (a.free c ob q n hx) hc hx
  slot := fun c ob q n hc hx => by
    obtain ⟨sl, e1⟩ := a.slot c ob q n hc hx
    obtain ⟨sl', e2⟩ := b.slot c _ e1 (a.free c ob q n hx) hc hx
    exact ⟨sl', e2⟩
  free := fun c ob q n hx => by
    obtain ⟨o', e1⟩ := a.there c ob q hx
    exact b.free c o' e1 (a.free c ob q n hx) hx
  there := fun c ob q hx => by
    obtain ⟨o', e1⟩ := a.there c ob q hx
    exact b.there c o' e1 hx
  tups := fun c xs q => b.tups c xs (a.tups c xs q)
  frzs := fun c ob xs q => b.frzs c ob xs (a.frzs c ob xs q)
  tbls := fun c ps q => by
    obtain ⟨m1, e1⟩ := a.tbls c ps q
    obtain ⟨m2, e2⟩ := b.tbls c _ e1
    exact ⟨m1 ++ m2, by rw [e2, Array.append_assoc]⟩
theorem Un.kept (k : ∀ b u, h.get? b = some u → h'.get? b = some u) : Un fs ex H H h h' :=
  ⟨fun b ob q _ _ _ => k b ob q, fun b ob q _ _ _ => ⟨ob.slots, k b ob q⟩, fun _ _ _ n _ => n, fun b ob q _ => ⟨ob, k b ob q⟩, fun _ _ q => q, fun _ _ _ q => q, fun _ ps q => ⟨#[], by rw [q]; simp⟩⟩
theorem Un.refl : Un fs ex H H h h := Un.kept fun _ _ q => q
theorem Un.laid (k : ∀ b u, h.get? b = some u → h'.get? b = some u) (hp : h.objs.size ≤ a) (hn : H a = none) : Un fs ex H (upd H a o) h h' where
  keep := fun b u q _ _ _ => k b u q
  slot := fun b u q _ _ _ => ⟨u.slots, k b u q⟩
  free := fun b u q n _ => by rw [upd_ne (Nat.ne_of_lt (Nat.lt_of_lt_of_le (Heap.lt_size q) hp))]; exact n
  there := fun b u q _ => ⟨u, k b u q⟩
  tups := fun b xs q => by rw [upd_ne (ne_of_none q hn)]; exact q
  frzs := fun b u xs q => by rw [upd_ne (ne_of_none q hn)]; exact q
  tbls := fun b ps q => ⟨#[], by rw [upd_ne (ne_of_none q hn), q]; simp⟩
theorem Un.write (mu : Mut (H x)) (he : e = x ∨ H e = some (.own x)) (k : ∀ b u, b ≠ e → h.get? b = some u → h'.get? b = some u) (heo : ∃ u, h'.get? e = some u) : Un fs ex H (upd H x o) h h' := by
  have hx : ∀ b, H b = none → b ≠ x := fun b n z => by subst z; rw [n] at mu; exact mu
  have hb : ∀ b, H b = none → b ≠ e := fun b n z => by
    subst z
    rcases he with r | r
    · exact hx b n r
    · rw [n] at r; cases r
  have hm : ∀ b u, H b = some u → ¬ Mut (some u) → b ≠ x := fun b u q nm z => by subst z; rw [q] at mu; exact nm mu
  refine ⟨fun b u q n _ _ => k b u (hb b n) q, fun b u q n _ _ => ⟨u.slots, k b u (hb b n) q⟩, fun b u q n _ => by rw [upd_ne (hx b n)]; exact n, fun b u q _ => ?_,
    fun b xs q => by rw [upd_ne (hm b _ q fun z => z)]; exact q, fun b u xs q => by rw [upd_ne (hm b _ q fun z => z)]; exact q, fun b ps q => ⟨#[], by rw [upd_ne (hm b _ q fun z => z), q]; simp⟩⟩
  by_cases hbe : b = e
  · subst hbe; exact heo
  · exact ⟨u, k b u hbe q⟩
theorem Un.mono (u : Un fs ex H H1 h h1) (hs : ∀ b ∈ fs, b ∈ fs') (hx : ∀ b ∈ ex, b ∈ ex') : Un fs' ex' H H1 h h1 :=
  ⟨fun b ob q n hb he => u.keep b ob q n (fun z => hb (hs b z)) fun z => he (hx b z), fun _ _ q n _ he => u.any q n fun z => he (hx _ z), fun b ob q n he => u.free b ob q n fun z => he (hx b z), fun b ob q he => u.there b ob q fun z => he (hx b z), u.tups, u.frzs, u.tbls⟩
end

/-! ### the heap without what is tracked -/
def trk (h : Heap) (H : Hp) : List Addr := (List.range h.objs.size).filter fun a => (H a).isSome
def hidT (h : Heap) (H : Hp) : Heap := PySem.W.hideAll h (trk h H)
theorem hidT_size (h : Heap) (H : Hp) : (hidT h H).objs.size = h.objs.size := PySem.W.hideAll_size _ _
theorem hidT_get {h : Heap} {H : Hp} {b : Addr} {o : Obj} (e : h.get? b = some o) (n : H b = none) : (hidT h H).get? b = some o :=
  PySem.W.hideAll_get _ e fun hm => by
    have q : (H b).isSome = true := (List.mem_filter.mp hm).2
    rw [n] at q; simp at q
theorem of_hidT {h : Heap} {H : Hp} {b : Addr} {o : Obj} (e : (hidT h H).get? b = some o) : h.get? b = some o ∧ H b = none := by
  have e' : h.get? b = some o := PySem.W.of_hideAll (trk h H) e
  refine ⟨e', ?_⟩
  cases q : H b with
  | none => rfl
  | some x =>
    have hm : b ∈ trk h H := List.mem_filter.mpr ⟨List.mem_range.mpr (Heap.lt_size e'), by simp [q]⟩
    have z : (hidT h H).get? b = none := PySem.W.hideAll_none (trk h H) hm
    rw [z] at e; cases e

/-! ### OpenK's ledger, filled with every new object but one -/
def allNews (g h : Heap) (L : Addr) : List (Addr × Obj) := (List.range h.objs.size).filterMap fun a => if a = L ∨ (g.get? a).isSome = true then none else (h.get? a).map fun o => (a, o)
theorem mem_allNews {g h : Heap} {L a : Addr} {o : Obj} (h1 : a ≠ L) (h2 : g.get? a = none) (h3 : h.get? a = some o) : (a, o) ∈ allNews g h L :=
  List.mem_filterMap.mpr ⟨a, List.mem_range.mpr (Heap.lt_size h3), by simp [h1, h2, h3]⟩
theorem of_mem_allNews {g h : Heap} {L : Addr} {p : Addr × Obj} (hp : p ∈ allNews g h L) : p.1 ≠ L ∧ g.get? p.1 = none ∧ h.get? p.1 = some p.2 := by
  obtain ⟨b, _, e⟩ := List.mem_filterMap.mp hp
  split at e
  · cases e
  · rename_i hn
    cases q : h.get? b with
    | none => rw [q] at e; simp at e
    | some u =>
      rw [q] at e
      simp only [Option.map_some, Option.some.injEq] at e
      subst e
      refine ⟨fun z => hn (.inl z), ?_, q⟩
      show g.get? b = none
      cases r : g.get? b with
      | none => rfl
      | some v => exact (hn (.inr (by simp [r]))).elim
def rest (g h : Heap) (L d : Addr) : List (Addr × Obj) := (allNews g h L).filter fun p => decide (p.1 ≠ d)
theorem rest_ne {g h : Heap} {L d : Addr} : ∀ p ∈ rest g h L d, p.1 ≠ d := fun p hp => of_decide_eq_true (List.mem_filter.mp hp).2
theorem mem_rest {g h : Heap} {L d a : Addr} {o : Obj} (h1 : a ≠ L) (h2 : g.get? a = none) (h3 : h.get? a = some o) (h4 : a ≠ d) : (a, o) ∈ rest g h L d :=
  List.mem_filter.mpr ⟨mem_allNews h1 h2 h3, decide_eq_true h4⟩
theorem news_all {g h : Heap} {L : Addr} : News g L h (allNews g h L) := fun p hp => let ⟨a, b, c⟩ := of_mem_allNews hp; ⟨c, a, b⟩
theorem news_at {g h : Heap} {L d : Addr} {o : Obj} (h1 : d ≠ L) (h2 : g.get? d = none) (h3 : h.get? d = some o) : News g L h ((d, o) :: rest g h L d) := fun p hp => by
  rcases List.mem_cons.mp hp with rfl | hp
  · exact ⟨h3, h1, h2⟩
  · exact news_all p (List.mem_filter.mp hp).1
/-- behind a rule that changed d alone: all else but the frame is kept -/
theorem kept_of_news {g h h' : Heap} {L d : Addr} {m : Str → Option Value} (k : ∀ b o, g.get? b = some o → h.get? b = some o) (F : Fr g L h' m) (N : News g L h' (rest g h L d)) :
    ∀ b o, b ≠ L → b ≠ d → h.get? b = some o → h'.get? b = some o := fun b o h1 h2 e => by
  cases q : g.get? b with
  | some u =>
    have := k b u q
    rw [e] at this; cases this
    exact F.keep b _ q
  | none => exact (N (b, o) (mem_rest h1 q e h2)).1
end L2

namespace L2
open PySem PySem.Spec PyProof.Rows

/-- the module's facts, over the base: the heap at the law's entry without what is tracked there -/
structure Mod (K : PySem.W.Frag) (mg : Str → Option Value) (base : Heap) : Prop where
  kin : K.In base
  glob : base.Ns mainGlobals mg
  blt : ∃ mb, base.Ns builtinsNs mb ∧ ∀ x : Str, x ≠ "__name__" → mb x = bootBuiltins x
  nolimit : base.NoLimit

/-- the context: a def's body (or a comprehension's block) running. base: fixed through the whole law; s₀, H₀: the entry; outer: the frames whose slots others may change (a def's callers); stack: all frames that run;
   ex: iterators that were made ahead of the entry and are walked here (a comprehension's); fn: the names whose cells were made at the entry (a def: all; a comprehension's block: its own); calm: not within an except suite; pn: pins that every state bears; xe: what is wanted of an exception that leaves the code -/
structure Cx where
  prog : Program
  w : World
  K : PySem.W.Frag
  mg : Str → Option Value
  base : Heap
  A : Around
  N : List Str
  s_0 : Shared
  H_0 : Hp
  env : Env
  outer : List Env
  stack : List Env
  ex : List Addr
  fn : Str → Bool
  calm : Bool
  pn : List (Addr × Obj)
  xe : Value → Shared → Prop
/-- the callers' frames -/
def frs (l : List Env) : List Addr := l.filterMap (·.frame)
abbrev Cx.fs (X : Cx) : List Addr := frs X.outer

def Vis (sc : Scope) (x : Str) : Prop := sc.names.lookup x = some .local ∨ sc.names.lookup x = some .cell ∨ sc.names.lookup x = some .free
def Loc (sc : Scope) (x : Str) : Prop := sc.names.lookup x = some .local ∨ sc.names.lookup x = some .cell
def Look (env : Env) (h : Heap) (m : Str → Option Value) (x : Str) (u : Value) : Prop :=
  (env.kindOf x = some .local ∧ m x = some u) ∨ ((env.kindOf x = some .cell ∨ env.kindOf x = some .free) ∧ ∃ c, env.cells.lookup x = some c ∧ h.IsCell c (some u))

structure Cx.Ok (X : Cx) : Prop where
  mod : Mod X.K X.mg X.base
  kind : X.env.scope.kind = .function
  glob : X.env.globals = mainGlobals
  blt : X.env.builtins = builtinsNs
  above : X.s_0.heap.objs.size ≤ X.env.locals
  inj : ∀ x y c, X.env.cells.lookup x = some c → X.env.cells.lookup y = some c → x = y
  has : ∀ x, (X.env.kindOf x = some .cell ∨ X.env.kindOf x = some .free) → ∃ c, X.env.cells.lookup x = some c
  cab : ∀ x c, X.fn x = true → X.env.cells.lookup x = some c → X.s_0.heap.objs.size ≤ c
  hd : X.calm = true → X.A.handled = none
  frames : X.A.frames = some X.stack
  stk : X.stack = X.outer ∨ (X.stack = X.env :: X.outer ∧ X.env.frame = some X.env.locals)
  exf : ∀ b ∈ X.ex, b ≠ X.env.locals ∧ ∀ x c, X.env.cells.lookup x = some c → c ≠ b
  bs : ∀ b o, X.base.get? b = some o → X.s_0.heap.get? b = some o ∧ X.H_0 b = none
  bsz : X.base.objs.size ≤ X.s_0.heap.objs.size
  noex : ∀ b o, X.base.get? b = some o → b ∉ X.ex
  exfs : ∀ b ∈ X.ex, b ∉ X.fs
  funs : X.s_0.heap.FunFrames X.base X.outer
  frf : ∀ b ∈ X.fs, X.H_0 b = none

structure Inv (X : Cx) (pins : List (Addr × Obj)) (σ : List (Option V)) (H : Hp) (s : Shared) : Prop where
  ok : X.Ok
  os : s.os = X.s_0.os
  bare : AllBare s.gens
  base : Un X.fs X.ex X.H_0 H X.s_0.heap s.heap
  loc : ∃ m, s.heap.Ns X.env.locals m ∧ ∀ (i : Nat) (x : Str) (v : V), X.N[i]? = some x → σ[i]? = some (some v) → Vis X.env.scope x → ∃ u, RelV v u ∧ Look X.env s.heap m x u
  cell : ∀ x c, X.env.cells.lookup x = some c → ∃ v, s.heap.IsCell c v
  free : H X.env.locals = none
  freeC : ∀ x c, X.env.cells.lookup x = some c → H c = none
  pin : ∀ p ∈ X.pn ++ pins, s.heap.get? p.1 = some p.2 ∧ H p.1 = none ∧ p.1 ≠ X.env.locals ∧ p.1 ∉ X.fs ∧ ∀ v, p.2.data ≠ .cell v
  hok : HOk X.prog X.w H s.heap
  len : σ.length = X.N.length

section
variable {X : Cx} {pins : List (Addr × Obj)} {σ : List (Option V)} {H H' : Hp} {s : Shared} {h' : Heap}

theorem Cx.Ok.nofr (ok : X.Ok) {b : Addr} {o : Obj} (e : X.base.get? b = some o) : b ∉ X.fs := fun hb => by
  have := (ok.funs.mem hb).1
  rw [e] at this; cases this
theorem Inv.bs (I : Inv X pins σ H s) : ∀ b o, X.base.get? b = some o → s.heap.get? b = some o ∧ H b = none := fun b o e =>
  ⟨I.base.keep b o (I.ok.bs b o e).1 (I.ok.bs b o e).2 (I.ok.nofr e) (I.ok.noex b o e), I.base.free b o (I.ok.bs b o e).1 (I.ok.bs b o e).2 (I.ok.noex b o e)⟩
theorem Inv.bk (I : Inv X pins σ H s) : ∀ b o, X.base.get? b = some o → s.heap.get? b = some o := fun b o e => (I.bs b o e).1
theorem Inv.mod (I : Inv X pins σ H s) : Mod X.K X.mg X.base := I.ok.mod
theorem Inv.kIn (I : Inv X pins σ H s) : X.K.In s.heap := I.ok.mod.kin.keeps I.bk
theorem Inv.nolimit (I : Inv X pins σ H s) : s.heap.NoLimit := I.ok.mod.nolimit.keeps I.bk
/-- the frame over the base: for OpenK's rules (K.In X.base is I.mod.kin) -/
theorem Inv.fr (I : Inv X pins σ H s) : ∃ m, Fr X.base X.env.locals s.heap m :=
  let ⟨m, hn, _⟩ := I.loc
  ⟨m, hn, I.bk, Nat.le_trans I.ok.bsz I.ok.above⟩
theorem Inv.lt (I : Inv X pins σ H s) : X.env.locals < s.heap.objs.size := let ⟨_, hn, _⟩ := I.loc; hn.lt
theorem Inv.sz (I : Inv X pins σ H s) : X.s_0.heap.objs.size ≤ s.heap.objs.size := Nat.le_trans I.ok.above (Nat.le_of_lt I.lt)
theorem Inv.nofs (I : Inv X pins σ H s) {a : Addr} (h : s.heap.objs.size ≤ a) : a ∉ X.fs := fun hb => by
  obtain ⟨_, o, ho, _⟩ := I.ok.funs.mem hb
  exact absurd (Nat.lt_of_lt_of_le (Heap.lt_size ho) (Nat.le_trans I.sz h)) (Nat.lt_irrefl _)
theorem Inv.cne (I : Inv X pins σ H s) : ∀ x c, X.env.cells.lookup x = some c → c ≠ X.env.locals := fun x c e z => by
  obtain ⟨v, o, ho, hd⟩ := I.cell x c e
  obtain ⟨m, ⟨o', es, ep, ho', hd', _⟩, _⟩ := I.loc
  rw [z, ho'] at ho; cases ho; rw [hd'] at hd; cases hd
theorem Inv.funs (I : Inv X pins σ H s) : s.heap.FunFrames X.base X.outer := by
  have all : ∀ (l : List Env), (∀ b ∈ frs l, b ∈ X.fs) → X.s_0.heap.FunFrames X.base l → s.heap.FunFrames X.base l := by
    intro l
    induction l with
    | nil => intro _ _; trivial
    | cons env r ih =>
      intro hs hl
      obtain ⟨hk, ⟨L, o, hf, hn, ho, hd⟩, hr⟩ := hl
      have hL : L ∈ X.fs := hs L (by unfold frs; rw [List.filterMap_cons, hf]; exact List.mem_cons_self)
      obtain ⟨sl, e⟩ := I.base.slot L o ho (I.ok.frf L hL) hL fun z => I.ok.exfs L z hL
      exact ⟨hk, ⟨L, _, hf, hn, e, hd⟩, ih (fun b hb => hs b (by unfold frs; rw [List.filterMap_cons, hf]; exact List.mem_cons_of_mem _ hb)) hr⟩
  exact all X.outer (fun _ hb => hb) I.ok.funs

/-- the frames that run, for a call -/
theorem Inv.stack (I : Inv X pins σ H s) : s.heap.FunFrames X.base X.stack := by
  rcases I.ok.stk with e | ⟨e, hf⟩
  · rw [e]; exact I.funs
  · rw [e]
    obtain ⟨m, hn, _⟩ := I.loc
    refine .cons (by rw [I.ok.kind]; decide) hf hn ?_ I.funs
    exact Heap.get?_none_of_le (Nat.le_trans I.ok.bsz I.ok.above)
theorem Inv.stkSub (I : Inv X pins σ H s) : ∀ b ∈ frs X.stack, b ∈ X.env.locals :: X.fs := fun b hb => by
  rcases I.ok.stk with e | ⟨e, hf⟩
  · rw [e] at hb; exact List.mem_cons_of_mem _ hb
  · rw [e] at hb
    unfold frs at hb
    rw [List.filterMap_cons, hf] at hb
    exact hb
theorem Inv.stkFree (I : Inv X pins σ H s) : ∀ b ∈ frs X.stack, H b = none := fun b hb => by
  rcases List.mem_cons.mp (I.stkSub b hb) with e | hb
  · rw [e]; exact I.free
  · obtain ⟨_, o, ho, _⟩ := I.ok.funs.mem hb
    exact I.base.free b o ho (I.ok.frf b hb) fun z => I.ok.exfs b z hb

/-- THE STEP: the untracked objects but the frame and the records at ch are kept (the callers' frames up to slots), the frame's map is kept, the new abstract heap is held -/
theorem Inv.step {g' : Array GenState} {t' : Nat} {d' : Drawn} {ch : List Addr} (I : Inv X pins σ H s)
    (hch : ∀ b ∈ ch, (b ∈ X.ex ∨ X.s_0.heap.objs.size ≤ b) ∧ b ≠ X.env.locals ∧ (∀ x c, X.env.cells.lookup x = some c → c ≠ b) ∧ ∀ p ∈ X.pn ++ pins, p.1 ≠ b)
    (keep : ∀ b o, b ≠ X.env.locals → b ∉ X.fs → b ∉ ch → s.heap.get? b = some o → H b = none → h'.get? b = some o)
    (slot : ∀ b o, b ≠ X.env.locals → b ∈ X.fs → b ∉ ch → s.heap.get? b = some o → H b = none → ∃ sl, h'.get? b = some { o with slots := sl }) (free : ∀ b o, b ∉ ch → s.heap.get? b = some o → H b = none → H' b = none)
    (there : ∀ b o, b ∉ ch → s.heap.get? b = some o → ∃ o', h'.get? b = some o')
    (tups : ∀ b xs, H b = some (.tup xs) → H' b = some (.tup xs)) (frzs : ∀ b o u, H b = some (.frz o u) → H' b = some (.frz o u)) (tbls : ∀ b ps, H b = some (.tbl ps) → ∃ more, H' b = some (.tbl (ps ++ more)))
    (ns : ∀ m, s.heap.Ns X.env.locals m → h'.Ns X.env.locals m) (hok : HOk X.prog X.w H' h') (hg : AllBare g') :
    Inv X pins σ H' { s with heap := h', gens := g', drawn := d', toks := t' } := by
  have neL : ∀ b o, X.s_0.heap.get? b = some o → b ≠ X.env.locals := fun b o e => Nat.ne_of_lt (Nat.lt_of_lt_of_le (Heap.lt_size e) I.ok.above)
  have neC : ∀ b o, X.s_0.heap.get? b = some o → b ∉ X.ex → b ∉ ch := fun b o e hx hb => by
    rcases (hch b hb).1 with z | z
    · exact hx z
    · exact absurd (Nat.lt_of_lt_of_le (Heap.lt_size e) z) (Nat.lt_irrefl _)
  have cellK : ∀ x c, X.env.cells.lookup x = some c → ∀ v, s.heap.IsCell c v → h'.IsCell c v := fun x c e v ⟨o, ho, hd⟩ => by
    have nch : c ∉ ch := fun z => (hch c z).2.2.1 x c e rfl
    by_cases hc : c ∈ X.fs
    · obtain ⟨sl, q⟩ := slot c o (I.cne x c e) hc nch ho (I.freeC x c e)
      exact ⟨_, q, hd⟩
    · exact ⟨o, keep c o (I.cne x c e) hc nch ho (I.freeC x c e), hd⟩
  refine ⟨I.ok, I.os, hg, ⟨fun b o e n hb hx => ?_, fun b o e n hb hx => ?_, fun b o e n hx => ?_, fun b o e hx => ?_, fun b xs e => tups b xs (I.base.tups b xs e), fun b o xs e => frzs b o xs (I.base.frzs b o xs e), fun b ps e => ?_⟩, ?_, fun x c e => ?_, ?_, fun x c e => ?_, fun p hp => ?_, hok, I.len⟩
  · exact keep b o (neL b o e) hb (neC b o e hx) (I.base.keep b o e n hb hx) (I.base.free b o e n hx)
  · obtain ⟨sl, e1⟩ := I.base.slot b o e n hb hx
    obtain ⟨sl', e2⟩ := slot b _ (neL b o e) hb (neC b o e hx) e1 (I.base.free b o e n hx)
    exact ⟨sl', e2⟩
  · obtain ⟨o', e1⟩ := I.base.there b o e hx
    exact free b o' (neC b o e hx) e1 (I.base.free b o e n hx)
  · obtain ⟨o', e1⟩ := I.base.there b o e hx
    exact there b o' (neC b o e hx) e1
  · obtain ⟨m1, e1⟩ := I.base.tbls b ps e
    obtain ⟨m2, e2⟩ := tbls b _ e1
    exact ⟨m1 ++ m2, by rw [e2, Array.append_assoc]⟩
  · obtain ⟨m, hn, hl⟩ := I.loc
    refine ⟨m, ns m hn, fun i x v e1 e2 e3 => ?_⟩
    obtain ⟨u, r, l⟩ := hl i x v e1 e2 e3
    refine ⟨u, r, ?_⟩
    rcases l with l | ⟨k, c, e, z⟩
    · exact .inl l
    · exact .inr ⟨k, c, e, cellK x c e _ z⟩
  · obtain ⟨v, z⟩ := I.cell x c e
    exact ⟨v, cellK x c e v z⟩
  · obtain ⟨m, ⟨o, _, _, ho, _⟩, _⟩ := I.loc
    exact free _ o (fun z => (hch _ z).2.1 rfl) ho I.free
  · obtain ⟨v, o, ho, hd⟩ := I.cell x c e
    exact free c o (fun z => (hch c z).2.2.1 x c e rfl) ho (I.freeC x c e)
  · obtain ⟨e, n, ne, nf, d⟩ := I.pin p hp
    have nch : p.1 ∉ ch := fun z => (hch p.1 z).2.2.2 p hp rfl
    exact ⟨keep p.1 p.2 ne nf nch e n, free p.1 p.2 nch e n, ne, nf, d⟩
/-- .. where the frame's own object is kept too -/
theorem Inv.un {t' : Nat} (I : Inv X pins σ H s) (u : Un X.fs [] H H' s.heap h') (hok : HOk X.prog X.w H' h') : Inv X pins σ H' { s with heap := h', toks := t' } := by
  obtain ⟨m, ⟨o, es, ep, ho, r⟩, _⟩ := id I.loc
  obtain ⟨sl, hL⟩ := u.any ho I.free (by simp)
  exact I.step (g' := s.gens) (d' := s.drawn) (ch := []) (fun _ z => nomatch z) (fun b o _ hb _ e n => u.keep b o e n hb (by simp)) (fun b o _ hb _ e n => u.slot b o e n hb (by simp)) (fun b o _ e n => u.free b o e n (by simp)) (fun b o _ e => u.there b o e (by simp)) u.tups u.frzs u.tbls (fun m' hm => by
    obtain ⟨o', es', ep', ho', r'⟩ := hm
    rw [ho] at ho'; cases ho'
    exact ⟨_, es', ep', hL, r'⟩) hok I.bare
/-- behind a call (or a comprehension's block): the slots of this frame may have changed too, the records at ch may have turned -/
theorem Inv.call {g' : Array GenState} {t' : Nat} {d' : Drawn} {ch : List Addr} (I : Inv X pins σ H s) (u : Un (frs X.stack) ch H H' s.heap h') (hok : HOk X.prog X.w H' h') (hg : AllBare g')
    (hch : ∀ b ∈ ch, (b ∈ X.ex ∨ X.s_0.heap.objs.size ≤ b) ∧ b ≠ X.env.locals ∧ (∀ x c, X.env.cells.lookup x = some c → c ≠ b) ∧ ∀ p ∈ X.pn ++ pins, p.1 ≠ b) :
    Inv X pins σ H' { s with heap := h', gens := g', drawn := d', toks := t' } := by
  obtain ⟨m, ⟨o, es, ep, ho, r⟩, _⟩ := id I.loc
  obtain ⟨sl, hL⟩ := u.any ho I.free fun z => (hch _ z).2.1 rfl
  exact I.step (ch := ch) hch (fun b o hL hb hc e n => u.keep b o e n (fun z => (List.mem_cons.mp (I.stkSub b z)).elim hL hb) hc) (fun b o _ _ hc e n => u.any e n hc) (fun b o hc e n => u.free b o e n hc) (fun b o hc e => u.there b o e hc) u.tups u.frzs u.tbls (fun m' hm => by
    obtain ⟨o', es', ep', ho', r'⟩ := hm
    rw [ho] at ho'; cases ho'
    exact ⟨_, es', ep', hL, r'⟩) hok hg
/-- an untracked record of ours (an iterator) has turned -/
theorem Inv.turned {t' : Nat} {it : Addr} (I : Inv X pins σ H s) (k : ∀ b o, b ≠ it → s.heap.get? b = some o → h'.get? b = some o) (hn : H it = none) (hL : it ≠ X.env.locals)
    (h1 : it ∈ X.ex ∨ X.s_0.heap.objs.size ≤ it) (h2 : ∀ x c, X.env.cells.lookup x = some c → c ≠ it) (h3 : ∀ p ∈ X.pn ++ pins, p.1 ≠ it) : Inv X pins σ H { s with heap := h', toks := t' } := by
  have nit : ∀ b u, H b = some u → b ≠ it := fun b u e z => by rw [z, hn] at e; cases e
  refine I.step (g' := s.gens) (d' := s.drawn) (ch := [it]) (fun b hb => ?_) (fun b o _ _ hc e _ => k b o (fun z => hc (by simp [z])) e) (fun b o _ _ hc e _ => ⟨o.slots, k b o (fun z => hc (by simp [z])) e⟩) (fun _ _ _ _ n => n)
    (fun b o hc e => ⟨o, k b o (fun z => hc (by simp [z])) e⟩) (fun _ _ e => e) (fun _ _ _ e => e) (fun b ps e => ⟨#[], by rw [e]; simp⟩) (fun m hm => ?_) (fun b u e => ?_) I.bare
  · have e : b = it := by simpa using hb
    subst e
    exact ⟨h1, hL, h2, h3⟩
  · obtain ⟨o, es, ep, ho, r⟩ := hm
    exact ⟨o, es, ep, k _ o (Ne.symm hL) ho, r⟩
  · refine (I.hok b u e).stay (fun c v hc q => k c v ?_ q) (fun _ q => q) fun _ _ q => q
    rcases hc with z | z
    · rw [z]; exact nit b u e
    · exact nit c _ z
theorem Inv.tok (I : Inv X pins σ H s) (t : Nat) : Inv X pins σ H { s with toks := t } := I.un (h' := s.heap) (t' := t) Un.refl I.hok
/-- all objects kept -/
theorem Inv.kept {t' : Nat} (I : Inv X pins σ H s) (k : ∀ b u, s.heap.get? b = some u → h'.get? b = some u) : Inv X pins σ H { s with heap := h', toks := t' } := I.un (Un.kept k) (I.hok.kept k)
/-- a new object laid and tracked -/
theorem Inv.laid {a : Addr} {o : HO} {t' : Nat} (I : Inv X pins σ H s) (k : ∀ b u, s.heap.get? b = some u → h'.get? b = some u) (hp : s.heap.objs.size ≤ a) (new : ObjOk X.prog X.w (upd H a o) h' a o) :
    Inv X pins σ (upd H a o) { s with heap := h', toks := t' } := I.un (Un.laid k hp (I.hok.fresh hp)) (I.hok.laid k hp new)
/-- an object written -/
theorem Inv.write {x e : Addr} {o : HO} {t' : Nat} (I : Inv X pins σ H s) (mu : Mut (H x)) (he : e = x ∨ H e = some (.own x)) (k : ∀ b u, b ≠ e → s.heap.get? b = some u → h'.get? b = some u) (heo : ∃ u, h'.get? e = some u)
    (new : ObjOk X.prog X.w (upd H x o) h' x o) : Inv X pins σ (upd H x o) { s with heap := h', toks := t' } := I.un (Un.write mu he k heo) (I.hok.write mu he k heo new)
/-- forgetting slots, pins -/
theorem Inv.weak {σ' : List (Option V)} (I : Inv X pins σ H s) (hl : σ'.length = σ.length) (w : ∀ (i : Nat) v, σ'[i]? = some (some v) → σ[i]? = some (some v)) : Inv X pins σ' H s :=
  ⟨I.ok, I.os, I.bare, I.base, let ⟨m, hn, hl'⟩ := I.loc; ⟨m, hn, fun i x v e1 e2 e3 => hl' i x v e1 (w i v e2) e3⟩, I.cell, I.free, I.freeC, I.pin, I.hok, hl.trans I.len⟩
theorem Inv.pins_of {pins' : List (Addr × Obj)} (I : Inv X pins σ H s) (h : ∀ p ∈ pins', s.heap.get? p.1 = some p.2 ∧ H p.1 = none ∧ p.1 ≠ X.env.locals ∧ p.1 ∉ X.fs ∧ ∀ v, p.2.data ≠ .cell v) : Inv X pins' σ H s :=
  ⟨I.ok, I.os, I.bare, I.base, I.loc, I.cell, I.free, I.freeC, fun p hp => (List.mem_append.mp hp).elim (fun z => I.pin p (List.mem_append_left _ z)) (h p), I.hok, I.len⟩

theorem nodup_ix {N : List Str} (hN : N.Nodup) {i j : Nat} {x : Str} (a : N[i]? = some x) (b : N[j]? = some x) : i = j := by
  obtain ⟨h1, e1⟩ := List.getElem?_eq_some_iff.mp a
  obtain ⟨h2, e2⟩ := List.getElem?_eq_some_iff.mp b
  exact (List.getElem_inj hN).mp (e1.trans e2.symm)

/-- a name is stored; what changed -/
theorem store_ok2 {M : Model} {A : Around} {E : Value → Shared → Prop} {i : Nat} {x : Str} {v : V} {u : Value} {Q : Unit → Shared → Prop} (I : Inv X pins σ H s) (hN : X.N.Nodup) (hi : X.N[i]? = some x) (hx : Loc X.env.scope x) (r : RelV v u)
    (h : ∀ s', Inv X pins (σ.set i (some v)) H s' → (∃ a, Heap.SameBut a s.heap s'.heap ∧ (a = X.env.locals ∨ X.env.cells.lookup x = some a)) → Q () s') (hf : X.fn x = true ∨ X.env.scope.names.lookup x = some .local := by first | exact .inl rfl | exact .inr rfl | assumption) : wpAny M A (storeName X.env x u) Q E s := by
  obtain ⟨m, hn, hl⟩ := id I.loc
  have hcls : (X.env.scope.kind == .class || (X.env.scope.kind == .module && X.env.locals != X.env.globals)) = false := by rw [I.ok.kind]; rfl
  have hiσ : i < σ.length := by rw [I.len]; exact (List.getElem?_eq_some_iff.mp hi).1
  have cne := I.cne
  have tracked : ∀ {a : Addr} {h' : Heap}, (∃ o, s.heap.get? a = some o ∧ H a = none) → Heap.SameBut a s.heap h' → HOk X.prog X.w H h' := fun {a h'} ha hs b ob e => by
    obtain ⟨_, _, hfree⟩ := ha
    refine (I.hok b ob e).stay (fun c w' hc q => (hs.2 c ?_).trans q) (fun _ q => q) fun _ _ q => q
    rintro rfl
    rcases hc with rfl | hc
    · rw [hfree] at e; cases e
    · rw [hfree] at hc; cases hc
  rcases hx with hk | hk
  · refine wpAny_storeName_local hk hn (fun h' hn' hs => ?_) hcls
    obtain ⟨oL, _, _, hoL, _⟩ := id hn
    refine h _ ⟨I.ok, I.os, I.bare, ⟨fun b o e n hb hx => ?_, fun b o e n hb hx => ?_, I.base.free, fun b o e hx => ?_, I.base.tups, I.base.frzs, I.base.tbls⟩, ⟨_, hn', fun j y v' e1 e2 e3 => ?_⟩, fun y c e => ?_, I.free, I.freeC, fun p hp => ?_, tracked ⟨oL, hoL, I.free⟩ hs, by simpa using I.len⟩ ⟨_, hs, .inl rfl⟩
    · exact (hs.2 b (Nat.ne_of_lt (Nat.lt_of_lt_of_le (Heap.lt_size e) I.ok.above))).trans (I.base.keep b o e n hb hx)
    · obtain ⟨sl, e1⟩ := I.base.slot b o e n hb hx
      exact ⟨sl, (hs.2 b (Nat.ne_of_lt (Nat.lt_of_lt_of_le (Heap.lt_size e) I.ok.above))).trans e1⟩
    · obtain ⟨o', e1⟩ := I.base.there b o e hx
      exact ⟨o', (hs.2 b (Nat.ne_of_lt (Nat.lt_of_lt_of_le (Heap.lt_size e) I.ok.above))).trans e1⟩
    · by_cases hj : j = i
      · subst hj
        rw [hi] at e1; cases e1
        rw [List.getElem?_set_self hiσ] at e2
        cases e2
        exact ⟨u, r, .inl ⟨hk, by simp⟩⟩
      · rw [List.getElem?_set_ne (Ne.symm hj)] at e2
        obtain ⟨u', r', q⟩ := hl j y v' e1 e2 e3
        refine ⟨u', r', ?_⟩
        rcases q with ⟨k, e⟩ | ⟨k, c, e, z⟩
        · refine .inl ⟨k, ?_⟩
          have : y ≠ x := fun e => hj (nodup_ix hN e1 (e ▸ hi))
          simp [this, e]
        · exact .inr ⟨k, c, e, z.sameBut hs (cne y c e)⟩
    · obtain ⟨w', z⟩ := I.cell y c e
      exact ⟨w', z.sameBut hs (cne y c e)⟩
    · obtain ⟨e, n, ne, nf, d⟩ := I.pin p hp
      exact ⟨(hs.2 p.1 ne).trans e, n, ne, nf, d⟩
  · have hfn : X.fn x = true := by
      rcases hf with z | z
      · exact z
      · rw [z] at hk; cases hk
    obtain ⟨c, hc⟩ := I.ok.has x (.inl hk)
    obtain ⟨w', z⟩ := I.cell x c hc
    refine wpAny_storeName_cell I.ok.kind hk hc z (fun h' hc' hs => ?_)
    obtain ⟨oc, hoc, hocd⟩ := id z
    refine h { s with heap := h' } ⟨I.ok, I.os, I.bare, ⟨fun b o e n hb hx => ?_, fun b o e n hb hx => ?_, I.base.free, fun b o e hx => ?_, I.base.tups, I.base.frzs, I.base.tbls⟩, ⟨m, hn.sameBut hs (Ne.symm (cne x c hc)), fun j y v' e1 e2 e3 => ?_⟩, fun y c' e => ?_, I.free, I.freeC, fun p hp => ?_, tracked ⟨oc, hoc, I.freeC x c hc⟩ hs, by simpa using I.len⟩ ⟨c, hs, .inr hc⟩
    · exact (hs.2 b (Nat.ne_of_lt (Nat.lt_of_lt_of_le (Heap.lt_size e) (I.ok.cab x c hfn hc)))).trans (I.base.keep b o e n hb hx)
    · obtain ⟨sl, e1⟩ := I.base.slot b o e n hb hx
      exact ⟨sl, (hs.2 b (Nat.ne_of_lt (Nat.lt_of_lt_of_le (Heap.lt_size e) (I.ok.cab x c hfn hc)))).trans e1⟩
    · obtain ⟨o', e1⟩ := I.base.there b o e hx
      exact ⟨o', (hs.2 b (Nat.ne_of_lt (Nat.lt_of_lt_of_le (Heap.lt_size e) (I.ok.cab x c hfn hc)))).trans e1⟩
    · by_cases hj : j = i
      · subst hj
        rw [hi] at e1; cases e1
        rw [List.getElem?_set_self hiσ] at e2
        cases e2
        exact ⟨u, r, .inr ⟨.inl hk, c, hc, hc'⟩⟩
      · rw [List.getElem?_set_ne (Ne.symm hj)] at e2
        obtain ⟨u', r', q⟩ := hl j y v' e1 e2 e3
        refine ⟨u', r', ?_⟩
        rcases q with q | ⟨k, c', e, z'⟩
        · exact .inl q
        · refine .inr ⟨k, c', e, z'.sameBut hs ?_⟩
          rintro rfl
          exact hj (nodup_ix hN e1 (I.ok.inj _ _ _ e hc ▸ hi))
    · by_cases hcc : c' = c
      · subst hcc; exact ⟨_, hc'⟩
      · obtain ⟨w2, z2⟩ := I.cell y c' e
        exact ⟨w2, z2.sameBut hs hcc⟩
    · obtain ⟨e, n, ne, nf, d⟩ := I.pin p hp
      refine ⟨(hs.2 p.1 ?_).trans e, n, ne, nf, d⟩
      intro q
      rw [q, hoc] at e
      have q' : oc = p.2 := Option.some.inj e
      exact d w' (by rw [← q']; exact hocd)
theorem store_ok {M : Model} {A : Around} {E : Value → Shared → Prop} {i : Nat} {x : Str} {v : V} {u : Value} {Q : Unit → Shared → Prop} (I : Inv X pins σ H s) (hN : X.N.Nodup) (hi : X.N[i]? = some x) (hx : Loc X.env.scope x) (r : RelV v u)
    (h : ∀ s', Inv X pins (σ.set i (some v)) H s' → Q () s') (hf : X.fn x = true ∨ X.env.scope.names.lookup x = some .local := by first | exact .inl rfl | exact .inr rfl | assumption) : wpAny M A (storeName X.env x u) Q E s :=
  store_ok2 I hN hi hx r (fun s' I' _ => h s' I') hf
/-- behind a call or a block, the state as it is -/
theorem Inv.call' {s' : Shared} {ch : List Addr} (I : Inv X pins σ H s) (ho : s'.os = s.os) (u : Un (frs X.stack) ch H H' s.heap s'.heap) (hok : HOk X.prog X.w H' s'.heap) (hg : AllBare s'.gens)
    (hch : ∀ b ∈ ch, (b ∈ X.ex ∨ X.s_0.heap.objs.size ≤ b) ∧ b ≠ X.env.locals ∧ (∀ x c, X.env.cells.lookup x = some c → c ≠ b) ∧ ∀ p ∈ X.pn ++ pins, p.1 ≠ b) : Inv X pins σ H' s' := by
  obtain ⟨h', g', d', t', o'⟩ := s'
  have e : o' = s.os := ho
  subst e
  exact I.call (g' := g') (t' := t') (d' := d') u hok hg hch
end

/-! ### the judgements -/
/-- an exception: its class, its own dict's address (where it has one), the abstract heap behind it -/
abbrev XK := Value → Option Addr → Hp → Prop
abbrev St := List (Option V)
abbrev VK := V → Hp → Prop
/-- an expression's reading; a test's; an argument list's -/
abbrev TE := St → Hp → VK → Prop
abbrev TT := St → Hp → (Bool → Hp → Prop) → Prop
abbrev TA := St → Hp → (List V → Hp → Prop) → Prop
/-- what is wanted behind a statement -/
structure Ends where
  nx : St → Hp → Prop
  rt : VK
  bk : St → Hp → Prop := fun _ _ => False
  ct : St → Hp → Prop := fun _ _ => False
abbrev TS := Ends → St → Hp → Prop

def EP (X : Cx) (pins : List (Addr × Obj)) (σ : St) (Q : VK) (u : Value) (s' : Shared) : Prop := ∃ v H', Inv X pins σ H' s' ∧ RelV v u ∧ Q v H'
def TP (X : Cx) (pins : List (Addr × Obj)) (σ : St) (Q : Bool → Hp → Prop) (b : Bool) (s' : Shared) : Prop := ∃ H', Inv X pins σ H' s' ∧ Q b H'
def AP (X : Cx) (pins : List (Addr × Obj)) (σ : St) (Q : List V → Hp → Prop) (us : List Value) (s' : Shared) : Prop := ∃ vs H', Inv X pins σ H' s' ∧ Vals vs us ∧ Q vs H'
def SP (X : Cx) (pins : List (Addr × Obj)) (D : Ends) (f : Flow) (s' : Shared) : Prop :=
  match f with
  | .next => ∃ σ' H', Inv X pins σ' H' s' ∧ D.nx σ' H'
  | .brk => ∃ σ' H', Inv X pins σ' H' s' ∧ D.bk σ' H'
  | .cont => ∃ σ' H', Inv X pins σ' H' s' ∧ D.ct σ' H'
  | .ret u => ∃ v σ' H', Inv X pins σ' H' s' ∧ RelV v u ∧ D.rt v H'

def PE (X : Cx) (e : Expr) (t : TE) : Prop :=
  ∀ (pins : List (Addr × Obj)) (s : Shared) (σ : St) (H : Hp) (Q : VK), Inv X pins σ H s → t σ H Q → wpAny (model X.prog X.w) X.A (eval e X.env) (EP X pins σ Q) X.xe s
def PT (X : Cx) (e : Expr) (t : TT) : Prop :=
  ∀ (pins : List (Addr × Obj)) (s : Shared) (σ : St) (H : Hp) (Q : Bool → Hp → Prop), Inv X pins σ H s → t σ H Q → wpAny (model X.prog X.w) X.A (isTrue e X.env (eval e X.env)) (TP X pins σ Q) X.xe s
/-- a test whatever its 'whole' is (and, or) -/
def PW (X : Cx) (e : Expr) (t : TT) : Prop :=
  ∀ (whole : Sem Value) (pins : List (Addr × Obj)) (s : Shared) (σ : St) (H : Hp) (Q : Bool → Hp → Prop), Inv X pins σ H s → t σ H Q → wpAny (model X.prog X.w) X.A (isTrue e X.env whole) (TP X pins σ Q) X.xe s
theorem PW.pt {X : Cx} {e : Expr} {t : TT} (h : PW X e t) : PT X e t := h _
/-- an argument list (no star), from the left -/
def PA (X : Cx) (es : List Expr) (t : TA) : Prop :=
  ∀ (pos : Pos) (pins : List (Addr × Obj)) (s : Shared) (σ : St) (H : Hp) (Q : List V → Hp → Prop), Inv X pins σ H s → t σ H Q → wpAny (model X.prog X.w) X.A (spliced (backTo pos (starEach es X.env))) (AP X pins σ Q) X.xe s
def PS (X : Cx) (st : Stmt) (t : TS) : Prop :=
  ∀ (pins : List (Addr × Obj)) (s : Shared) (σ : St) (H : Hp) (D : Ends), Inv X pins σ H s → t D σ H → wpAny (model X.prog X.w) X.A (exec st X.env) (SP X pins D) X.xe s
def PSs (X : Cx) (st : List Stmt) (t : TS) : Prop :=
  ∀ (pins : List (Addr × Obj)) (s : Shared) (σ : St) (H : Hp) (D : Ends), Inv X pins σ H s → t D σ H → wpAny (model X.prog X.w) X.A (execs st X.env) (SP X pins D) X.xe s
/-- weaken the end -/
theorem thn {α : Type} {t : Sem α} {Q Q' : α → Shared → Prop} {M : Model} {A : Around} {E : Value → Shared → Prop} {s : Shared} (h : wpAny M A t Q E s) (hQ : ∀ a s, Q a s → Q' a s) : wpAny M A t Q' E s := wpAny_mono h hQ fun _ _ x => x
end L2

namespace L2
open PySem PySem.Spec PyProof.Rows
section
variable {X : Cx}

/-- two expressions in a row -/
theorem bin {a b : Expr} {ta tb : TE} (ha : PE X a ta) (hb : PE X b tb) {pins : List (Addr × Obj)} {s : Shared} {σ : St} {H : Hp} {R : V → V → Hp → Prop} (I : Inv X pins σ H s) (h : ta σ H fun x H1 => tb σ H1 fun y H2 => R x y H2)
    {α : Type} {Q : α → Shared → Prop} {f : Value → Value → Sem α}
    (hf : ∀ v u s2 x y H2, Inv X pins σ H2 s2 → RelV x v → RelV y u → R x y H2 → wpAny (model X.prog X.w) X.A (f v u) Q X.xe s2) :
    wpAny (model X.prog X.w) X.A (eval a X.env) (fun v s₁ => wpAny (model X.prog X.w) X.A (eval b X.env) (fun u s₂ => wpAny (model X.prog X.w) X.A (f v u) Q X.xe s₂) X.xe s₁) X.xe s := by
  refine thn (ha pins s σ H _ I h) fun v s1 ⟨x, H1, I1, r1, q1⟩ => ?_
  refine thn (hb pins s1 σ H1 _ I1 q1) fun u s2 ⟨y, H2, I2, r2, q2⟩ => ?_
  exact hf v u s2 x y H2 I2 r1 r2 q2

/-! ### names and constants -/
def tVar (i : Nat) : TE := fun σ H Q => ∃ v, σ[i]? = some (some v) ∧ Q v H
def tC (v : V) : TE := fun _ H Q => Q v H
theorem pe_var {i : Nat} {x : Str} {pos : Pos} (hN : X.N[i]? = some x) (hv : Vis X.env.scope x) (hd : (x == ("__debug__" : Str)) = false := by decide) (hcd : (x == ("__classdict__" : Str)) = false := by decide) : PE X (.Name x pos) (tVar i) := by
  intro pins s σ H Q I h
  obtain ⟨v, e, h⟩ := h
  obtain ⟨m, hn, hl⟩ := I.loc
  obtain ⟨u, r, l⟩ := hl i x v hN e hv
  have fin : EP X pins σ Q u s := ⟨v, H, I, r, h⟩
  rcases l with ⟨hk, hm⟩ | ⟨hk, c, hc, hcell⟩
  · exact wpAny_Name (wpAny_loadName_local I.ok.kind hk hn hm fin) hd
  · rcases hk with hk | hk
    · exact wpAny_Name (wpAny_loadName_cell I.ok.kind hk hc hcell fin) hd
    · exact wpAny_Name (wpAny_loadName_free I.ok.kind hk hc hcell fin hcd) hd
theorem pe_int {i j pos} : PE X (.Constant (.int i) j pos) (tC (.int i)) := fun _ _ _ H _ I h => wpAny_Constant_int ⟨.int i, H, I.tok _, ⟨_, rfl⟩, h⟩
theorem pe_bl {b j pos} : PE X (.Constant (.bool b) j pos) (tC (.bl b)) := fun _ _ _ H _ I h => Constant_bool ⟨.bl b, H, I, rfl, h⟩
theorem pe_non {j pos} : PE X (.Constant .none j pos) (tC .non) := fun _ _ _ H _ I h => Constant_none ⟨.non, H, I, rfl, h⟩
theorem pe_str {x j pos} : PE X (.Constant (.str x) j pos) (tC (.str x)) := fun _ _ _ H _ I h => Calls.Constant_str ⟨.str x, H, I.tok _, ⟨_, rfl⟩, h⟩

/-- a global name of the def -/
def Gl (X : Cx) (x : Str) : Prop := X.env.kindOf x = some .globalImplicit
theorem ld_glob {E : Value → Shared → Prop} {pins : List (Addr × Obj)} {s : Shared} {σ : St} {H : Hp} {x : Str} {u : Value} {pos : Pos} {Q : Value → Shared → Prop} (I : Inv X pins σ H s) (hg : Gl X x) (hm : X.mg x = some u) (h : Q u s)
    (hd : (x == ("__debug__" : Str)) = false := by decide) : wpAny (model X.prog X.w) X.A (eval (.Name x pos) X.env) Q E s :=
  Calls.Name_function_global I.ok.kind hg (Calls.loadGlobal_global (by rw [I.ok.glob]; exact I.mod.glob.keeps I.bk) hm h) hd
theorem ld_blt {E : Value → Shared → Prop} {pins : List (Addr × Obj)} {s : Shared} {σ : St} {H : Hp} {x : Str} {u : Value} {pos : Pos} {Q : Value → Shared → Prop} (I : Inv X pins σ H s) (hg : Gl X x) (hm : X.mg x = none) (hv : bootBuiltins x = some u) (h : Q u s)
    (hn : x ≠ "__name__" := by decide) (hd : (x == ("__debug__" : Str)) = false := by decide) : wpAny (model X.prog X.w) X.A (eval (.Name x pos) X.env) Q E s := by
  obtain ⟨mb, h1, h2⟩ := I.mod.blt
  exact Calls.Name_function_global I.ok.kind hg (Calls.loadGlobal_builtin (by rw [I.ok.glob]; exact I.mod.glob.keeps I.bk) hm (by rw [I.ok.blt]; exact h1.keeps I.bk) ((h2 x hn).trans hv) h) hd
/-- a module's constant, a class, a function, as a value -/
theorem pe_glob {x : Str} {v : V} {u : Value} {pos : Pos} (hg : Gl X x) (hm : X.mg x = some u) (r : RelV v u) (hd : (x == ("__debug__" : Str)) = false := by decide) : PE X (.Name x pos) (tC v) :=
  fun _ _ _ H _ I h => ld_glob I hg hm ⟨v, H, I, r, h⟩ hd
theorem pe_bltn {x : Str} {v : V} {u : Value} {pos : Pos} (hg : Gl X x) (hm : X.mg x = none) (hv : bootBuiltins x = some u) (r : RelV v u) (hn : x ≠ "__name__" := by decide) (hd : (x == ("__debug__" : Str)) = false := by decide) : PE X (.Name x pos) (tC v) :=
  fun _ _ _ H _ I h => ld_blt I hg hm hv ⟨v, H, I, r, h⟩ hn hd

/-! ### arithmetic -/
/-- two ints -/
def t2I (ta tb : TE) (k : Int → Int → Hp → Prop) : St → Hp → Prop := fun σ H => ta σ H fun x H1 => tb σ H1 fun y H2 => ∃ i j, x = .int i ∧ y = .int j ∧ k i j H2
def tAdd (ta tb : TE) : TE := fun σ H Q => t2I ta tb (fun i j H2 => Q (.int (i + j)) H2) σ H
def tSub (ta tb : TE) : TE := fun σ H Q => t2I ta tb (fun i j H2 => Q (.int (i - j)) H2) σ H
/-- the left factor below 2^64 -/
def tMul (ta tb : TE) : TE := fun σ H Q => t2I ta tb (fun i j H2 => (-(2 ^ 64) < i ∧ i < 2 ^ 64) ∧ Q (.int (i * j)) H2) σ H
variable {a b : Expr} {ta tb : TE} {pos : Pos}
theorem pe_add (ha : PE X a ta) (hb : PE X b tb) : PE X (.BinOp a .Add b pos) (tAdd ta tb) := by
  intro pins s σ H Q I h
  refine wpAny_BinOp (bin ha hb I h fun v u s2 x y H2 I2 rx ry q => ?_)
  obtain ⟨i, j, rfl, rfl, q⟩ := q
  obtain ⟨t, rfl⟩ := rx
  obtain ⟨t', rfl⟩ := ry
  exact add_int ⟨.int _, H2, I2.tok _, ⟨_, rfl⟩, q⟩
theorem pe_sub (ha : PE X a ta) (hb : PE X b tb) : PE X (.BinOp a .Sub b pos) (tSub ta tb) := by
  intro pins s σ H Q I h
  refine wpAny_BinOp (bin ha hb I h fun v u s2 x y H2 I2 rx ry q => ?_)
  obtain ⟨i, j, rfl, rfl, q⟩ := q
  obtain ⟨t, rfl⟩ := rx
  obtain ⟨t', rfl⟩ := ry
  exact sub_int ⟨.int _, H2, I2.tok _, ⟨_, rfl⟩, q⟩
theorem pe_mul (ha : PE X a ta) (hb : PE X b tb) : PE X (.BinOp a .Mult b pos) (tMul ta tb) := by
  intro pins s σ H Q I h
  refine wpAny_BinOp (bin ha hb I h fun v u s2 x y H2 I2 rx ry q => ?_)
  obtain ⟨i, j, rfl, rfl, ⟨q1, q2⟩, q⟩ := q
  obtain ⟨t, rfl⟩ := rx
  obtain ⟨t', rfl⟩ := ry
  exact mul_int ⟨.int _, H2, I2.tok _, ⟨_, rfl⟩, q⟩ (.of_left (intBits_le_64 q1 q2))

/-! ### comparisons -/
def PC (X : Cx) (op : CmpOp) (a b : Expr) (t : TE) : Prop :=
  ∀ (pins : List (Addr × Obj)) (s : Shared) (σ : St) (H : Hp) (Q : VK), Inv X pins σ H s → t σ H Q →
    wpAny (model X.prog X.w) X.A (eval a X.env) (fun v s₁ => wpAny (model X.prog X.w) X.A (eval b X.env) (fun u s₂ => wpAny (model X.prog X.w) X.A (compareOp op v u) (EP X pins σ Q) X.xe s₂) X.xe s₁) X.xe s
theorem nobehind (b : Expr) {op : CmpOp} (h : op ≠ .In) (h2 : op ≠ .NotIn) : behindInMarks op b = false := by
  have e1 : (op == CmpOp.In) = false := by cases op <;> first | rfl | exact absurd rfl h
  have e2 : (op == CmpOp.NotIn) = false := by cases op <;> first | rfl | exact absurd rfl h2
  cases b <;> simp [behindInMarks, e1, e2]
def tCmp (p : Int → Int → Bool) (ta tb : TE) : TE := fun σ H Q => t2I ta tb (fun i j H2 => Q (.bl (p i j)) H2) σ H
abbrev tLt : TE → TE → TE := tCmp fun i j => decide (i < j)
abbrev tLe : TE → TE → TE := tCmp fun i j => decide (i ≤ j)
abbrev tGt : TE → TE → TE := tCmp fun i j => decide (j < i)
abbrev tGe : TE → TE → TE := tCmp fun i j => decide (j ≤ i)
abbrev tEqI : TE → TE → TE := tCmp fun i j => decide (i = j)
abbrev tNeI : TE → TE → TE := tCmp fun i j => !decide (i = j)
/-- a comparison of two ints, by its rule -/
theorem pc_int {op : CmpOp} {p : Int → Int → Bool} (ha : PE X a ta) (hb : PE X b tb)
    (rule : ∀ (i j : Int) (t u : Tok) (Q : Value → Shared → Prop) (s : Shared), Q (.bool (p i j)) s → wpAny (model X.prog X.w) X.A (compareOp op (.int i t) (.int j u)) Q X.xe s) : PC X op a b (tCmp p ta tb) := by
  intro pins s σ H Q I h
  refine bin ha hb I h fun v u s2 x y H2 I2 rx ry q => ?_
  obtain ⟨i, j, rfl, rfl, q⟩ := q
  obtain ⟨t, rfl⟩ := rx
  obtain ⟨t', rfl⟩ := ry
  exact rule i j t t' _ s2 ⟨.bl _, H2, I2, rfl, q⟩
theorem pc_lt (ha : PE X a ta) (hb : PE X b tb) : PC X .Lt a b (tLt ta tb) := pc_int ha hb fun _ _ _ _ _ _ h => lt_int h
theorem pc_le (ha : PE X a ta) (hb : PE X b tb) : PC X .LtE a b (tLe ta tb) := pc_int ha hb fun _ _ _ _ _ _ h => le_int h
theorem pc_gt (ha : PE X a ta) (hb : PE X b tb) : PC X .Gt a b (tGt ta tb) := pc_int ha hb fun _ _ _ _ _ _ h => gt_int h
theorem pc_ge (ha : PE X a ta) (hb : PE X b tb) : PC X .GtE a b (tGe ta tb) := pc_int ha hb fun _ _ _ _ _ _ h => ge_int h
theorem pc_eqI (ha : PE X a ta) (hb : PE X b tb) : PC X .Eq a b (tEqI ta tb) := pc_int ha hb fun _ _ _ _ _ _ h => eq_int (by rw [Bool.beq_eq_decide_eq]; exact h)
theorem pc_neI (ha : PE X a ta) (hb : PE X b tb) : PC X .NotEq a b (tNeI ta tb) := pc_int ha hb fun _ _ _ _ _ _ h => ne_int (by rw [bne, Bool.beq_eq_decide_eq]; exact h)
/-- is None -/
def tIsN (ta : TE) : TE := fun σ H Q => ta σ H fun x H1 => Q (.bl (decide (x = .non))) H1
def tNotN (ta : TE) : TE := fun σ H Q => ta σ H fun x H1 => Q (.bl (!decide (x = .non))) H1
theorem RelV.none_iff {x : V} {v : Value} (r : RelV x v) : (v == Value.none) = decide (x = .non) := by
  cases x with
  | non => cases r; rfl
  | bl _ => cases r; rfl
  | int _ => obtain ⟨t, rfl⟩ := r; rfl
  | str _ => obtain ⟨t, rfl⟩ := r; rfl
  | byt _ => obtain ⟨t, rfl⟩ := r; rfl
  | flt _ => obtain ⟨t, rfl⟩ := r; rfl
  | ref _ => cases r; rfl
  | ty _ => cases r; rfl
theorem pc_isN {j pos'} (ha : PE X a ta) : PC X .Is a (.Constant .none j pos') (tIsN ta) := by
  intro pins s σ H Q I h
  refine thn (ha pins s σ H _ I h) fun v s1 ⟨x, H1, I1, r1, q1⟩ => ?_
  exact Constant_none (is_none_gen ⟨.bl _, H1, I1, by rw [r1.none_iff]; rfl, q1⟩)
theorem pc_notN {j pos'} (ha : PE X a ta) : PC X .IsNot a (.Constant .none j pos') (tNotN ta) := by
  intro pins s σ H Q I h
  refine thn (ha pins s σ H _ I h) fun v s1 ⟨x, H1, I1, r1, q1⟩ => ?_
  exact Constant_none (isnot_none_gen ⟨.bl _, H1, I1, by rw [r1.none_iff]; rfl, q1⟩)
/-- a comparison as a value, as a test -/
def tB (t : TE) : TT := fun σ H Q => t σ H fun x H1 => ∃ c, x = .bl c ∧ Q c H1
theorem pe_cmp {op : CmpOp} {t : TE} (h : PC X op a b t) (h1 : behindInMarks op b = false := by first | exact nobehind _ (by decide) (by decide) | rfl) : PE X (.Compare a [op] [b] pos) t := fun pins s σ H Q I hw => wpAny_Compare1 (h pins s σ H Q I hw) h1
theorem pt_cmp {op : CmpOp} {t : TE} (h : PC X op a b t) (h1 : behindInMarks op b = false := by first | exact nobehind _ (by decide) (by decide) | rfl) : PT X (.Compare a [op] [b] pos) (tB t) := by
  intro pins s σ H Q I hw
  refine wpAny_isTrue_Compare1 (thn (h pins s σ H _ I hw) fun v s1 h1 => thn h1 fun u s2 h2 => thn h2 fun c s3 ⟨x, H1, I1, r1, q1⟩ => ?_) h1
  obtain ⟨d, rfl, q⟩ := q1
  cases r1
  exact wpAny_truthy_bool ⟨H1, I1, q⟩
/-- an expression whose value is a bool, as a test -/
theorem pt_val {e : Expr} {t : TE} (h : PE X e t) (he : ∀ whole, isTrue e X.env whole = (do let v ← whole; standAt e.pos; holding [v] (truthy v)) := by intro _; rfl) : PT X e (tB t) := by
  intro pins s σ H Q I hw
  refine isTrue_plain (thn (h pins s σ H _ I hw) fun v s1 ⟨x, H1, I1, r1, q1⟩ => ?_) (he _)
  obtain ⟨d, rfl, q⟩ := q1
  cases r1
  exact wpAny_truthy_bool ⟨H1, I1, q⟩

/-! ### and, or, not -/
variable {tA tB' : TT} {rest : List Expr}
def tAnd (t u : TT) : TT := fun σ H Q => t σ H fun c H1 => if c = true then u σ H1 Q else Q false H1
def tOr (t u : TT) : TT := fun σ H Q => t σ H fun c H1 => if c = true then Q true H1 else u σ H1 Q
def tNot (t : TT) : TT := fun σ H Q => t σ H fun c H1 => Q (!c) H1
theorem pw_and1 (ha : PT X a tA) : PW X (.BoolOp .And [a] pos) tA := by
  intro wh pins s σ H Q I h
  refine isTrue_and (thn (ha pins s σ H Q I h) fun c s1 e => ?_)
  cases c with
  | true => exact isTrue_and_nil e
  | false => exact e
theorem pw_or1 (ha : PT X a tA) : PW X (.BoolOp .Or [a] pos) tA := by
  intro wh pins s σ H Q I h
  refine isTrue_or (thn (ha pins s σ H Q I h) fun c s1 e => ?_)
  cases c with
  | false => exact isTrue_or_nil e
  | true => exact e
theorem pw_and (ha : PT X a tA) (hb : PW X (.BoolOp .And (b :: rest) pos) tB') : PW X (.BoolOp .And (a :: b :: rest) pos) (tAnd tA tB') := by
  intro wh pins s σ H Q I h
  refine isTrue_and (thn (ha pins s σ H _ I h) fun c s1 ⟨H1, I1, q1⟩ => ?_)
  cases c with
  | true => exact hb wh pins s1 σ H1 Q I1 q1
  | false => exact ⟨H1, I1, q1⟩
theorem pw_or (ha : PT X a tA) (hb : PW X (.BoolOp .Or (b :: rest) pos) tB') : PW X (.BoolOp .Or (a :: b :: rest) pos) (tOr tA tB') := by
  intro wh pins s σ H Q I h
  refine isTrue_or (thn (ha pins s σ H _ I h) fun c s1 ⟨H1, I1, q1⟩ => ?_)
  cases c with
  | true => exact ⟨H1, I1, q1⟩
  | false => exact hb wh pins s1 σ H1 Q I1 q1
theorem pt_not (ha : PT X a tA) : PT X (.UnaryOp .Not a pos) (tNot tA) := by
  intro pins s σ H Q I h
  exact isTrue_not (ha pins s σ H (fun c H1 => Q (!c) H1) I h)
/-- .. as values (bools) -/
def tAndV (ta tb : TE) : TE := fun σ H Q => ta σ H fun x H1 => ∃ c, x = .bl c ∧ if c = true then tb σ H1 Q else Q (.bl false) H1
def tOrV (ta tb : TE) : TE := fun σ H Q => ta σ H fun x H1 => ∃ c, x = .bl c ∧ if c = true then Q (.bl true) H1 else tb σ H1 Q
def tNotV (ta : TE) : TE := fun σ H Q => ta σ H fun x H1 => ∃ c, x = .bl c ∧ Q (.bl (!c)) H1
theorem pe_one {op} {t : TE} (h : PE X a t) : PE X (.BoolOp op [a] pos) t := fun pins s σ H Q I hw => BoolOp_one (h pins s σ H Q I hw)
theorem pe_and (ha : PE X a ta) (hb : PE X (.BoolOp .And (b :: rest) pos) tb) : PE X (.BoolOp .And (a :: b :: rest) pos) (tAndV ta tb) := by
  intro pins s σ H Q I h
  refine BoolOp_and (thn (ha pins s σ H _ I h) fun v s1 ⟨x, H1, I1, r1, q1⟩ => ?_)
  obtain ⟨c, rfl, q1⟩ := q1
  cases r1
  refine wpAny_truthy_bool ?_
  cases c with
  | true => exact hb pins s1 σ H1 Q I1 q1
  | false => exact ⟨.bl false, H1, I1, rfl, q1⟩
theorem pe_or (ha : PE X a ta) (hb : PE X (.BoolOp .Or (b :: rest) pos) tb) : PE X (.BoolOp .Or (a :: b :: rest) pos) (tOrV ta tb) := by
  intro pins s σ H Q I h
  refine BoolOp_or (thn (ha pins s σ H _ I h) fun v s1 ⟨x, H1, I1, r1, q1⟩ => ?_)
  obtain ⟨c, rfl, q1⟩ := q1
  cases r1
  refine wpAny_truthy_bool ?_
  cases c with
  | false => exact hb pins s1 σ H1 Q I1 q1
  | true => exact ⟨.bl true, H1, I1, rfl, q1⟩
theorem pe_not (ha : PE X a ta) : PE X (.UnaryOp .Not a pos) (tNotV ta) := by
  intro pins s σ H Q I h
  refine UnaryOp_ (thn (ha pins s σ H _ I h) fun v s1 ⟨x, H1, I1, r1, q1⟩ => ?_)
  obtain ⟨c, rfl, q1⟩ := q1
  cases r1
  exact not_of (wpAny_truthy_bool ⟨.bl (!c), H1, I1, rfl, q1⟩)
/-- a if t else b -/
def tIf (t : TT) (ta tb : TE) : TE := fun σ H Q => t σ H fun c H1 => if c = true then ta σ H1 Q else tb σ H1 Q
theorem pe_ifExp {c : Expr} (hc : PT X c tA) (ha : PE X a ta) (hb : PE X b tb) : PE X (.IfExp c a b pos) (tIf tA ta tb) := by
  intro pins s σ H Q I h
  refine wpAny_IfExp (thn (hc pins s σ H _ I h) fun d s1 ⟨H1, I1, q1⟩ => ?_)
  cases d with
  | true => exact ha pins s1 σ H1 Q I1 q1
  | false => exact hb pins s1 σ H1 Q I1 q1
end
end L2

namespace L2
open PySem PySem.Spec PyProof.Rows

/-! ### a list, a tuple that is read: tracked, frozen, or an object of the module -/
def SqL (K : PySem.W.Frag) (H : Hp) (a : Addr) (xs : List V) : Prop :=
  Rd H a (.lst xs) ∨
    ∃ (o : Obj) (its : Array Value) (n : Nat), K.lookup a = some o ∧ o.cls = .type "list" ∧ o.dict = none ∧ o.data = .seq its n ∧ its.size ≤ sizeLine ∧ Vals xs its.toList
def SqT (K : PySem.W.Frag) (H : Hp) (a : Addr) (xs : List V) : Prop :=
  Rd H a (.tup xs) ∨
    ∃ (o : Obj) (its : Array Value) (n : Nat), K.lookup a = some o ∧ o.cls = .type "tuple" ∧ o.data = .seq its n ∧ its.size ≤ sizeLine ∧ Vals xs its.toList
def absV : Value → Option V
  | .none => some .non
  | .bool b => some (.bl b)
  | .int i _ => some (.int i)
  | .str x _ => some (.str x)
  | .bytes b _ => some (.byt b)
  | .float b _ => some (.flt b)
  | .ref a => some (.ref a)
  | .type n => some (.ty n)
  | _ => none
theorem RelV.abs {x : V} {u : Value} (r : RelV x u) : absV u = some x := by
  cases x with
  | non => cases r; rfl
  | bl _ => cases r; rfl
  | int _ => obtain ⟨t, rfl⟩ := r; rfl
  | str _ => obtain ⟨t, rfl⟩ := r; rfl
  | byt _ => obtain ⟨t, rfl⟩ := r; rfl
  | flt _ => obtain ⟨t, rfl⟩ := r; rfl
  | ref _ => cases r; rfl
  | ty _ => cases r; rfl
theorem RelV.inj {x y : V} {u : Value} (r : RelV x u) (q : RelV y u) : x = y := Option.some.inj (r.abs.symm.trans q.abs)
theorem Vals.inj : ∀ {xs ys : List V} {us : List Value}, Vals xs us → Vals ys us → xs = ys
  | _, _, _, .nil, .nil => rfl
  | _, _, _, .cons r t, .cons r' t' => by rw [r.inj r', Vals.inj t t']
section
variable {X : Cx} {pins : List (Addr × Obj)} {σ : St} {H : Hp} {s : Shared} {a : Addr} {xs ys : List V}
theorem SqL.of {K : PySem.W.Frag} (h : H a = some (.lst xs)) : SqL K H a xs := .inl (.inl h)
theorem SqT.of {K : PySem.W.Frag} (h : H a = some (.tup xs)) : SqT K H a xs := .inl (.inl h)
theorem Inv.list (I : Inv X pins σ H s) (h : SqL X.K H a xs) : ∃ its : List Value, Vals xs its ∧ PlainL s.heap a its.toArray ∧ xs.length ≤ sizeLine := by
  rcases h with h | ⟨o, its, n, hk, hc, hd, hs, hz, r⟩
  · obtain ⟨z, its, n, r, e⟩ := h.ok I.hok
    exact ⟨its, r, ⟨_, n, e, rfl, rfl, rfl⟩, z⟩
  · refine ⟨its.toList, r, ⟨o, n, I.kIn a o hk, hc, hd, by simpa using hs⟩, ?_⟩
    have e := r.length
    simp only [Array.length_toList] at e
    omega
theorem Inv.tuple (I : Inv X pins σ H s) (h : SqT X.K H a xs) : ∃ its : List Value, Vals xs its ∧ IsTup s.heap a its.toArray ∧ xs.length ≤ sizeLine := by
  rcases h with h | ⟨o, its, n, hk, hc, hs, hz, r⟩
  · obtain ⟨z, its, r, p⟩ := h.ok I.hok
    exact ⟨its, r, p, z⟩
  · refine ⟨its.toList, r, ⟨o, I.kIn a o hk, hc, n, by simpa using hs⟩, ?_⟩
    have e := r.length
    simp only [Array.length_toList] at e
    omega
theorem Inv.list_inj (I : Inv X pins σ H s) (h : SqL X.K H a xs) (h' : SqL X.K H a ys) : xs = ys := by
  obtain ⟨its, r, ⟨o, n, e, _, _, d⟩, _⟩ := I.list h
  obtain ⟨its', r', ⟨o', n', e', _, _, d'⟩, _⟩ := I.list h'
  rw [e] at e'; cases e'
  rw [d] at d'
  injection d' with d1 _
  have : its = its' := by simpa using congrArg Array.toList d1
  subst this
  exact r.inj r'
theorem Inv.tuple_inj (I : Inv X pins σ H s) (h : SqT X.K H a xs) (h' : SqT X.K H a ys) : xs = ys := by
  obtain ⟨its, r, ⟨o, e, _, n, d⟩, _⟩ := I.tuple h
  obtain ⟨its', r', ⟨o', e', _, n', d'⟩, _⟩ := I.tuple h'
  rw [e] at e'; cases e'
  rw [d] at d'
  injection d' with d1 _
  have : its = its' := by simpa using congrArg Array.toList d1
  subst this
  exact r.inj r'
end

/-! ### another wish about exceptions -/
abbrev Cx.wish (X : Cx) (E : Value → Shared → Prop) : Cx := { X with xe := E }
/-- no exception leaves -/
abbrev Cx.nox (X : Cx) : Cx := X.wish fun _ _ => False
theorem Cx.Ok.wish {X : Cx} (ok : X.Ok) (E : Value → Shared → Prop) : (X.wish E).Ok :=
  ⟨ok.mod, ok.kind, ok.glob, ok.blt, ok.above, ok.inj, ok.has, ok.cab, ok.hd, ok.frames, ok.stk, ok.exf, ok.bs, ok.bsz, ok.noex, ok.exfs, ok.funs, ok.frf⟩
theorem Cx.Ok.unwish {X : Cx} {E : Value → Shared → Prop} (ok : (X.wish E).Ok) : X.Ok :=
  ⟨ok.mod, ok.kind, ok.glob, ok.blt, ok.above, ok.inj, ok.has, ok.cab, ok.hd, ok.frames, ok.stk, ok.exf, ok.bs, ok.bsz, ok.noex, ok.exfs, ok.funs, ok.frf⟩
section
variable {X : Cx} {pins : List (Addr × Obj)} {σ : St} {H : Hp} {s : Shared} {E : Value → Shared → Prop}
theorem Inv.wish (I : Inv X pins σ H s) (E : Value → Shared → Prop) : Inv (X.wish E) pins σ H s := ⟨I.ok.wish E, I.os, I.bare, I.base, I.loc, I.cell, I.free, I.freeC, I.pin, I.hok, I.len⟩
theorem Inv.unwish (I : Inv (X.wish E) pins σ H s) : Inv X pins σ H s := ⟨I.ok.unwish, I.os, I.bare, I.base, I.loc, I.cell, I.free, I.freeC, I.pin, I.hok, I.len⟩
theorem SP.unwish {D : Ends} {f : Flow} {s' : Shared} (h : SP (X.wish E) pins D f s') : SP X pins D f s' := by
  cases f with
  | next => obtain ⟨σ', H', I, q⟩ := h; exact ⟨σ', H', I.unwish, q⟩
  | brk => obtain ⟨σ', H', I, q⟩ := h; exact ⟨σ', H', I.unwish, q⟩
  | cont => obtain ⟨σ', H', I, q⟩ := h; exact ⟨σ', H', I.unwish, q⟩
  | ret u => obtain ⟨v, σ', H', I, r, q⟩ := h; exact ⟨v, σ', H', I.unwish, r, q⟩
theorem PE.nox {e : Expr} {t : TE} (h : PE X.nox e t) : PE X e t := fun pins s σ H Q I hw =>
  wpAny_mono (h pins s σ H Q (I.wish _) hw) (fun _ _ ⟨v, H', I', r, q⟩ => ⟨v, H', I'.unwish, r, q⟩) fun _ _ z => False.elim z
theorem PT.nox {e : Expr} {t : TT} (h : PT X.nox e t) : PT X e t := fun pins s σ H Q I hw =>
  wpAny_mono (h pins s σ H Q (I.wish _) hw) (fun _ _ ⟨H', I', q⟩ => ⟨H', I'.unwish, q⟩) fun _ _ z => False.elim z
theorem PSs.nox {st : List Stmt} {t : TS} (h : PSs X.nox st t) : PSs X st t := fun pins s σ H D I hw =>
  wpAny_mono (h pins s σ H D (I.wish _) hw) (fun _ _ q => q.unwish) fun _ _ z => False.elim z
end

/-! ### blocks and small statements -/
section
variable {X : Cx} {st : Stmt} {rest : List Stmt} {t u : TS} {e : Expr} {te : TE} {pos : Pos}
def tNext : TS := fun D σ H => D.nx σ H
def tSeq (t u : TS) : TS := fun D σ H => t { D with nx := u D } σ H
theorem pss_nil : PSs X [] tNext := fun _ _ σ H _ I h => wpAny_execs_nil ⟨σ, H, I, h⟩
theorem pss_cons (h1 : PS X st t) (h2 : PSs X rest u) : PSs X (st :: rest) (tSeq t u) := by
  intro pins s σ H D I h
  refine wpAny_execs_cons (thn (h1 pins s σ H { D with nx := u D } I h) fun f s1 q => ?_)
  cases f with
  | next =>
    obtain ⟨σ', H', I', q⟩ := q
    exact h2 pins s1 σ' H' D I' q
  | ret v => exact q
  | brk => exact q
  | cont => exact q
theorem pss_one (h1 : PS X st t) : PSs X [st] t := by
  intro pins s σ H D I h
  refine wpAny_execs_cons (thn (h1 pins s σ H D I h) fun f s1 q => ?_)
  cases f with
  | next => exact wpAny_execs_nil q
  | ret v => exact q
  | brk => exact q
  | cont => exact q
def tBreak : TS := fun D σ H => D.bk σ H
def tCont : TS := fun D σ H => D.ct σ H
theorem ps_pass : PS X (.Pass pos) tNext := fun _ _ σ H _ I h => wpAny_Pass ⟨σ, H, I, h⟩
theorem ps_break : PS X (.Break pos) tBreak := fun _ _ σ H _ I h => wpAny_Break ⟨σ, H, I, h⟩
theorem ps_continue : PS X (.Continue pos) tCont := fun _ _ σ H _ I h => wpAny_Continue ⟨σ, H, I, h⟩
/-- in a def's body nothing is shown -/
theorem Inv.quiet {pins : List (Addr × Obj)} {σ : St} {H : Hp} {s : Shared} (I : Inv X pins σ H s) : interactive X.env = false := by simp [interactive, I.ok.kind]
/-- a docstring -/
theorem ps_doc {x j pos pos'} : PS X (.Expr (.Constant (.str x) j pos) pos') tNext := fun _ s σ H _ I h => wpAny_Expr (Calls.Constant_str (show SP X _ _ .next { s with toks := s.toks + 1 } from ⟨σ, H, I.tok _, h⟩)) I.quiet
/-- an expression whose value is dropped -/
def tDrop (te : TE) : TS := fun D σ H => te σ H fun _ H1 => D.nx σ H1
theorem ps_expr (he : PE X e te) (hs : swapsWith e none pos.line X.env = pure false := by rfl) : PS X (.Expr e pos) (tDrop te) := by
  intro pins s σ H D I h
  exact wpAny_Expr_any (thn (he pins s σ H _ I h) fun v s1 ⟨x, H1, I1, r1, q1⟩ => ⟨σ, H1, I1, q1⟩) I.quiet hs
def tRet (te : TE) : TS := fun D σ H => te σ H D.rt
theorem ps_ret (he : PE X e te) : PS X (.Return (some e) pos) (tRet te) := by
  intro pins s σ H D I h
  exact wpAny_Return_some (thn (he pins s σ H _ I h) fun v s1 ⟨x, H1, I1, r1, q1⟩ => ⟨x, σ, H1, I1, r1, q1⟩)
def tRetN : TS := fun D _ H => D.rt .non H
theorem ps_retN : PS X (.Return none pos) tRetN := fun _ _ σ H _ I h => wpAny_Return_none ⟨.non, σ, H, I, rfl, h⟩
def tIfS (c : TT) (t u : TS) : TS := fun D σ H => c σ H fun b H1 => if b = true then t D σ H1 else u D σ H1
theorem ps_if {c : Expr} {a b : List Stmt} {tc : TT} (hc : PT X c tc) (ha : PSs X a t) (hb : PSs X b u) : PS X (.If c a b pos) (tIfS tc t u) := by
  intro pins s σ H D I h
  refine wpAny_If (thn (hc pins s σ H _ I h) fun d s1 ⟨H1, I1, q1⟩ => ?_)
  cases d with
  | true => exact ha pins s1 σ H1 D I1 q1
  | false => exact hb pins s1 σ H1 D I1 q1
/-- code that the proof never comes to -/
def tNever : TS := fun _ _ _ => False
theorem ps_never : PS X st tNever := fun _ _ _ _ _ _ h => h.elim
theorem pss_never {sts : List Stmt} : PSs X sts tNever := fun _ _ _ _ _ _ h => h.elim
end

/-! ### targets -/
abbrev TG := V → St → Hp → (St → Hp → Prop) → Prop
abbrev TGs := List V → St → Hp → (St → Hp → Prop) → Prop
def PG (X : Cx) (target : Expr) (t : TG) : Prop :=
  ∀ (pins : List (Addr × Obj)) (s : Shared) (σ : St) (H : Hp) (v : V) (u : Value) (Q : St → Hp → Prop), Inv X pins σ H s → RelV v u → t v σ H Q →
    wpAny (model X.prog X.w) X.A (assign target X.env u) (fun _ s' => ∃ σ' H', Inv X pins σ' H' s' ∧ Q σ' H') X.xe s
/-- several targets, one after another -/
def PGs (X : Cx) (ts : List Expr) (t : TGs) : Prop :=
  ∀ (pins : List (Addr × Obj)) (s : Shared) (σ : St) (H : Hp) (vs : List V) (us : List Value) (Q : St → Hp → Prop), Inv X pins σ H s → Vals vs us → t vs σ H Q →
    wpAny (model X.prog X.w) X.A (assignInOrder ((assignEach ts X.env).map (·.2)) us) (fun _ s' => ∃ σ' H', Inv X pins σ' H' s' ∧ Q σ' H') X.xe s
/-- o[i] = v, by values -/
abbrev TSet := V → V → V → Hp → (Hp → Prop) → Prop
def PSet (X : Cx) (t : TSet) : Prop :=
  ∀ (pins : List (Addr × Obj)) (s : Shared) (σ : St) (H : Hp) (o i v : V) (ov iv u : Value) (Q : Hp → Prop), Inv X pins σ H s → RelV o ov → RelV i iv → RelV v u → t o i v H Q →
    wpAny (model X.prog X.w) X.A (setItem ov iv u) (fun _ s' => ∃ H', Inv X pins σ H' s' ∧ Q H') X.xe s
/-- a op= b, by values -/
abbrev TIp := V → V → Hp → VK → Prop
def PIp (X : Cx) (op : Operator) (t : TIp) : Prop :=
  ∀ (pins : List (Addr × Obj)) (s : Shared) (σ : St) (H : Hp) (x y : V) (v u : Value) (Q : VK), Inv X pins σ H s → RelV x v → RelV y u → t x y H Q →
    wpAny (model X.prog X.w) X.A (inplaceOp op v u) (EP X pins σ Q) X.xe s
section
variable {X : Cx} {pos : Pos}
def gName (i : Nat) : TG := fun v σ H Q => Q (σ.set i (some v)) H
theorem pg_name {i : Nat} {x : Str} (hN : X.N.Nodup) (hi : X.N[i]? = some x) (hx : Loc X.env.scope x) (hf : X.fn x = true ∨ X.env.scope.names.lookup x = some .local := by first | exact .inl rfl | exact .inr rfl | assumption) : PG X (.Name x pos) (gName i) := by
  intro pins s σ H v u Q I r h
  exact wpAny_assign_Name (store_ok I hN hi hx r (fun s' I' => ⟨_, H, I', h⟩) hf)
def gNil : TGs := fun vs σ H Q => vs = [] ∧ Q σ H
def gCons (t : TG) (u : TGs) : TGs := fun vs σ H Q => ∃ v r, vs = v :: r ∧ t v σ H fun σ' H' => u r σ' H' Q
theorem pgs_nil : PGs X [] gNil := by
  intro pins s σ H vs us Q I r h
  obtain ⟨e, h⟩ := h
  subst e
  cases r
  exact assignInOrder_nil ⟨σ, H, I, h⟩
theorem pgs_cons {e : Expr} {es : List Expr} {t : TG} {u : TGs} (h1 : PG X e t) (h2 : PGs X es u)
    (hs : (assignEach (e :: es) X.env).map (·.2) = assign e X.env :: (assignEach es X.env).map (·.2) := by rfl) : PGs X (e :: es) (gCons t u) := by
  intro pins s σ H vs us Q I r h
  obtain ⟨v, vr, e1, h⟩ := h
  subst e1
  cases r with
  | cons r rr =>
    rw [hs]
    refine assignInOrder_cons (thn (h1 pins s σ H _ _ _ I r h) fun _ s1 ⟨σ1, H1, I1, q1⟩ => ?_)
    exact h2 pins s1 σ1 H1 _ _ Q I1 rr q1
/-- (a, b, ..) = a tuple of that length -/
def gTup (K : PySem.W.Frag) (n : Nat) (t : TGs) : TG := fun v σ H Q => ∃ a xs, v = .ref a ∧ SqT K H a xs ∧ xs.length = n ∧ t xs σ H Q
theorem pg_tup {es : List Expr} {k : Nat} {t : TGs} {n : Nat} (hc : X.calm = true) (h : PGs X es t)
    (hn : (assignEach es X.env).length = n := by rfl) (hst : (assignEach es X.env).findIdx? (·.1) = none := by rfl) : PG X (.Tuple es k pos) (gTup X.K n t) := by
  intro pins s σ H v u Q I r hw
  obtain ⟨a, xs, e1, hq, hl, hw⟩ := hw
  subst e1
  cases r
  obtain ⟨its, rv, ht, hz⟩ := I.tuple hq
  refine assign_Tuple_tuple (I.ok.hd hc) ht (by simp [hn, ← hl, rv.length]) hst fun h' hx => ?_
  have I1 : Inv X pins σ H { s with heap := h' } := I.kept (t' := s.toks) fun b o e => hx b o (Nat.ne_of_lt (Heap.lt_size e)) e
  exact h pins _ σ H xs _ Q I1 (by simpa using rv) hw
/-- o[i] = .. -/
def gSub (to ti : TE) (t : TSet) : TG := fun v σ H Q => to σ H fun o H1 => ti σ H1 fun i H2 => t o i v H2 fun H3 => Q σ H3
theorem pg_sub {o i : Expr} {to ti : TE} {t : TSet} (ho : PE X o to) (hi : PE X i ti) (hs : PSet X t)
    (ha : ∀ v, assign (.Subscript o i pos) X.env v = (do
      let ov ← holding [v] (eval o X.env)
      let iv ← holding [v, ov] (eval i X.env)
      standAt pos
      holding [v, ov, iv] (setItem ov iv v)
      release [v, ov, iv] []) := by intro _; rfl) : PG X (.Subscript o i pos) (gSub to ti t) := by
  intro pins s σ H v u Q I r h
  rw [ha]
  refine wpAny_bind (wpAny_holding (thn (ho pins s σ H _ I h) fun ov s1 ⟨x, H1, I1, r1, q1⟩ => ?_))
  refine wpAny_bind (wpAny_holding (thn (hi pins s1 σ H1 _ I1 q1) fun iv s2 ⟨y, H2, I2, r2, q2⟩ => ?_))
  refine wpAny_bind (wpAny_standAt (wpAny_bind (wpAny_holding (thn (hs pins s2 σ H2 x y v ov iv u _ I2 r1 r2 r q2) fun _ s3 ⟨H3, I3, q3⟩ => ?_))))
  exact wpAny_release ⟨σ, H3, I3, q3⟩
/-- target = value -/
def tAsg (te : TE) (g : TG) : TS := fun D σ H => te σ H fun x H1 => g x σ H1 D.nx
theorem ps_asg {tg e : Expr} {te : TE} {g : TG} (he : PE X e te) (hg : PG X tg g) (hs : swapsWithSole [tg] e pos.line X.env = pure false := by rfl) (hw : swappedStores [tg] e X.env = pure none := by rfl)
    (h1 : (assignEach [tg] X.env).map (·.2) = [assign tg X.env] := by rfl) : PS X (.Assign [tg] e pos) (tAsg te g) := by
  intro pins s σ H D I h
  refine wpAny_Assign_stores (thn (he pins s σ H _ I h) fun v s1 ⟨x, H1, I1, r1, q1⟩ => ?_) hs hw
  rw [h1]
  exact thn (hg pins s1 σ H1 x v _ I1 r1 q1) fun _ s2 q => q
/-- name = value -/
theorem ps_set {i : Nat} {x : Str} {e : Expr} {te : TE} {pos' : Pos} (hN : X.N.Nodup) (hi : X.N[i]? = some x) (hx : Loc X.env.scope x) (he : PE X e te) (hs : swapsWith e (some (.Name x pos')) pos.line X.env = pure false := by rfl) (hf : X.fn x = true ∨ X.env.scope.names.lookup x = some .local := by first | exact .inl rfl | exact .inr rfl | assumption) :
    PS X (.Assign [.Name x pos'] e pos) (tAsg te (gName i)) := by
  intro pins s σ H D I h
  refine wpAny_Assign_Name (thn (he pins s σ H _ I h) fun v s1 ⟨y, H1, I1, r1, q1⟩ => ?_) hs
  exact store_ok I1 hN hi hx r1 (fun s2 I2 => ⟨_, H1, I2, q1⟩) hf
/-- a, b = x, y with plain local names: stored from the right; the pair itself is not tracked (the opening rows as in PyProof/Rows/TupAssign.lean:23) -/
def tPar (i j : Nat) (ta : TA) : TS := fun D σ H => ta σ H fun vs H1 => ∃ v w, vs = [v, w] ∧ D.nx ((σ.set i (some v)).set j (some w)) H1
theorem ps_par {i j : Nat} {x y : Str} {a b : Expr} {ta : TA} {px py pt : Pos} {kt k2 pt2} (hc : X.calm = true) (hN : X.N.Nodup) (hi : X.N[i]? = some x) (hj : X.N[j]? = some y) (hij : i ≠ j)
    (hx : X.env.scope.names.lookup x = some .local) (hy : X.env.scope.names.lookup y = some .local) (ha : PA X [a, b] ta)
    (hw : swappedStores [.Tuple [.Name x px, .Name y py] kt pt] (.Tuple [a, b] k2 pt2) X.env = pure (some [x, y]))
    (hs : swapsWithSole [.Tuple [.Name x px, .Name y py] kt pt] (.Tuple [a, b] k2 pt2) pos.line X.env = pure false := by rfl) :
    PS X (.Assign [.Tuple [.Name x px, .Name y py] kt pt] (.Tuple [a, b] k2 pt2) pos) (tPar i j ta) := by
  intro pins s σ H D I h
  rw [exec_Assign_arm]
  refine wpAny_bind (wpAny_standAt ?_)
  rw [hs]
  refine wpAny_bind (wpAny_pure ?_)
  rw [if_neg (by decide)]
  refine wpAny_bind (Tuple_ (thn (ha _ pins s σ H _ I h) fun us s1 ⟨vs, H1, I1, r1, q1⟩ => ?_))
  obtain ⟨v, w, e1, q1⟩ := q1
  subst e1
  obtain ⟨u1, u2, rfl, rv, rw'⟩ : ∃ u1 u2, us = [u1, u2] ∧ RelV v u1 ∧ RelV w u2 := by
    cases r1 with
    | cons p q =>
      cases q with
      | cons p' q' =>
        cases q'
        exact ⟨_, _, rfl, p, p'⟩
  refine wpAny_newObj_type ?_ (by show 2 ≤ sizeLine; decide)
  have I2 : Inv X pins σ H1 { s1 with heap := s1.heap.push { cls := .type "tuple", data := .seq [u1, u2].toArray } } := I1.kept (t' := s1.toks) fun b o e => Heap.get?_push_of_some _ e
  rw [hw]
  refine wpAny_bind (wpAny_pure ?_)
  show wpAny (model X.prog X.w) X.A (do rule "assign.swapped-stores"; let items ← unpackItems (.ref s1.heap.objs.size) 2 none; assignInOrder [fun v => bindName X.env y v, fun v => bindName X.env x v] items.reverse; pure Flow.next) _ _ _
  refine wpAny_bind (wpAny_rule (wpAny_bind (unpackItems_tuple (items := #[u1, u2]) (I.ok.hd hc) (IsTup.new s1.heap _) fun h' hx' => ?_)))
  have I3 := I2.kept (h' := h') (t' := s1.toks) fun b o e => hx' b o (Nat.ne_of_lt (Heap.lt_size e)) e
  show wpAny _ _ (assignInOrder [fun v => bindName X.env y v, fun v => bindName X.env x v] [u2, u1] >>= fun _ => pure Flow.next) _ _ _
  refine wpAny_bind (assignInOrder_cons (wpAny_bindName (store_ok I3 hN hj (.inl hy) rw' (fun s2 I4 => ?_) (.inr hy))))
  refine assignInOrder_cons (wpAny_bindName (store_ok I4 hN hi (.inl hx) rv (fun s3 I5 => assignInOrder_nil (wpAny_pure ?_)) (.inr hx)))
  rw [List.set_comm _ _ (Ne.symm hij)] at I5
  exact ⟨_, H1, I5, q1⟩
/-- name op= e -/
def tAug (i : Nat) (te : TE) (ti : TIp) : TS := fun D σ H => ∃ x, σ[i]? = some (some x) ∧ te σ H fun y H1 => ti x y H1 fun z H2 => D.nx (σ.set i (some z)) H2
theorem ps_aug {i : Nat} {x : Str} {e : Expr} {te : TE} {op : Operator} {ti : TIp} {pos' : Pos} (hN : X.N.Nodup) (hi : X.N[i]? = some x) (hx : Loc X.env.scope x) (he : PE X e te) (ho : PIp X op ti) (hf : X.fn x = true ∨ X.env.scope.names.lookup x = some .local := by first | exact .inl rfl | exact .inr rfl | assumption) :
    PS X (.AugAssign (.Name x pos') op e pos) (tAug i te ti) := by
  intro pins s σ H D I h
  obtain ⟨v, e1, h⟩ := h
  obtain ⟨m, hn, hl⟩ := I.loc
  have vis : Vis X.env.scope x := by rcases hx with k | k; exact .inl k; exact .inr (.inl k)
  obtain ⟨u, r, l⟩ := hl i x v hi e1 vis
  refine wpAny_AugAssign_Name ?_
  have go : wpAny (model X.prog X.w) X.A (eval e X.env) (fun w s₂ => wpAny (model X.prog X.w) X.A (inplaceOp op u w) (fun r s₃ => wpAny (model X.prog X.w) X.A (storeName X.env x r) (fun _ => SP X pins D .next) X.xe s₃) X.xe s₂) X.xe s := by
    refine thn (he pins s σ H _ I h) fun w s1 ⟨y, H1, I1, r1, q1⟩ => ?_
    refine thn (ho pins s1 σ H1 v y u w _ I1 r r1 q1) fun z s2 ⟨zv, H2, I2, r2, q2⟩ => ?_
    exact store_ok I2 hN hi hx r2 (fun s3 I3 => ⟨_, H2, I3, q2⟩) hf
  rcases l with ⟨hk, hm⟩ | ⟨hk, c, hc, hcell⟩
  · exact wpAny_loadName_local I.ok.kind hk hn hm go
  · rcases hk with hk | hk
    · exact wpAny_loadName_cell I.ok.kind hk hc hcell go
    · rcases hx with k | k
      · have : X.env.scope.names.lookup x = some .free := hk
        rw [k] at this; cases this
      · have : X.env.scope.names.lookup x = some .free := hk
        rw [k] at this; cases this
/-- o[i] op= e -/
def tAugS (to ti te : TE) (tget : V → V → Hp → VK → Prop) (tip : TIp) (tset : TSet) : TS := fun D σ H => to σ H fun o H1 => ti σ H1 fun i H2 => tget o i H2 fun x H3 => te σ H3 fun y H4 => tip x y H4 fun z H5 => tset o i z H5 fun H6 => D.nx σ H6
/-- o[i], by values -/
def PGet (X : Cx) (t : V → V → Hp → VK → Prop) : Prop :=
  ∀ (pins : List (Addr × Obj)) (s : Shared) (σ : St) (H : Hp) (o i : V) (ov iv : Value) (Q : VK), Inv X pins σ H s → RelV o ov → RelV i iv → t o i H Q →
    wpAny (model X.prog X.w) X.A (getItem ov iv) (EP X pins σ Q) X.xe s
theorem ps_augS {o i e : Expr} {to ti te : TE} {tget : V → V → Hp → VK → Prop} {tip : TIp} {tset : TSet} {op : Operator} {tpos : Pos} (ho : PE X o to) (hi : PE X i ti) (hg : PGet X tget) (he : PE X e te) (hp : PIp X op tip) (hs : PSet X tset)
    (ha : ∀ ov iv new, augStore i ov iv new = (do holding [new, ov, iv] (setItem ov iv new); release [new, ov, iv] []; pure .next) := by intros; rfl) : PS X (.AugAssign (.Subscript o i tpos) op e pos) (tAugS to ti te tget tip tset) := by
  intro pins s σ H D I h
  refine wpAny_AugAssign_SubscriptAny (thn (ho pins s σ H _ I h) fun ov s1 ⟨x1, H1, I1, r1, q1⟩ => ?_) ha
  refine thn (hi pins s1 σ H1 _ I1 q1) fun iv s2 ⟨x2, H2, I2, r2, q2⟩ => ?_
  refine thn (hg pins s2 σ H2 x1 x2 ov iv _ I2 r1 r2 q2) fun old s3 ⟨x3, H3, I3, r3, q3⟩ => ?_
  refine thn (he pins s3 σ H3 _ I3 q3) fun v s4 ⟨x4, H4, I4, r4, q4⟩ => ?_
  refine thn (hp pins s4 σ H4 x3 x4 old v _ I4 r3 r4 q4) fun new s5 ⟨x5, H5, I5, r5, q5⟩ => ?_
  exact thn (hs pins s5 σ H5 x1 x2 x5 ov iv new _ I5 r1 r2 r5 q5) fun _ s6 ⟨H6, I6, q6⟩ => ⟨σ, H6, I6, q6⟩
/-- ints -/
def ipI (f : Int → Int → Int) : TIp := fun x y H Q => ∃ i j, x = .int i ∧ y = .int j ∧ Q (.int (f i j)) H
theorem ip_add : PIp X .Add (ipI fun i j => i + j) := by
  intro pins s σ H x y v u Q I r1 r2 h
  obtain ⟨i, j, e1, e2, q⟩ := h
  subst e1; subst e2
  obtain ⟨t, rfl⟩ := r1
  obtain ⟨t', rfl⟩ := r2
  exact iadd_int ⟨.int _, H, I.tok _, ⟨_, rfl⟩, q⟩
theorem ip_sub : PIp X .Sub (ipI fun i j => i - j) := by
  intro pins s σ H x y v u Q I r1 r2 h
  obtain ⟨i, j, e1, e2, q⟩ := h
  subst e1; subst e2
  obtain ⟨t, rfl⟩ := r1
  obtain ⟨t', rfl⟩ := r2
  exact isub_int ⟨.int _, H, I.tok _, ⟨_, rfl⟩, q⟩
end

/-! ### while -/
section
variable {X : Cx} {pos : Pos}
/-- the invariant W with its measure -/
def tWhile (c : TT) (tb : TS) : TS := fun D σ H => ∃ W : Nat → St → Hp → Prop, (∃ m, W m σ H) ∧ ∀ m σ H, W m σ H →
  c σ H fun b H1 => if b = true then ∃ N : St → Hp → Prop, (∀ σ' H', N σ' H' → ∃ m', m' < m ∧ W m' σ' H') ∧ tb { D with nx := N, ct := N, bk := D.nx } σ H1 else D.nx σ H1
theorem ps_while {c : Expr} {body : List Stmt} {tc : TT} {tb : TS} (hp : PassesOwn (model X.prog X.w) X.A X.env X.xe) (hc : PT X c tc) (hb : PSs X body tb) : PS X (.While c body [] pos) (tWhile tc tb) := by
  intro pins s σ H D I h
  obtain ⟨W, ⟨m0, w0⟩, turn⟩ := h
  refine wpAny_While (codeAny_whileLoop (fun n s' => ∃ σ' H', Inv X pins σ' H' s' ∧ W n σ' H') ?_ m0 ⟨σ, H, I, w0⟩)
  rintro n s1 ⟨σ1, H1, I1, w1⟩
  refine wpAny_passesOwn hp (thn (hc pins s1 σ1 H1 _ I1 (turn n σ1 H1 w1)) fun b s2 ⟨H2, I2, q2⟩ => ?_)
  cases b with
  | true =>
    obtain ⟨N, hN, q2⟩ := q2
    rw [if_pos rfl]
    refine wpAny_passesOwn hp (thn (hb pins s2 σ1 H2 _ I2 q2) fun f s3 q3 => ?_)
    cases f with
    | next =>
      obtain ⟨σ3, H3, I3, n3⟩ := q3
      obtain ⟨m', hm, w3⟩ := hN σ3 H3 n3
      exact ⟨m', hm, σ3, H3, I3, w3⟩
    | cont =>
      obtain ⟨σ3, H3, I3, n3⟩ := q3
      obtain ⟨m', hm, w3⟩ := hN σ3 H3 n3
      exact ⟨m', hm, σ3, H3, I3, w3⟩
    | brk => exact q3
    | ret v => exact q3
  | false =>
    rw [if_neg Bool.false_ne_true]
    exact wpAny_execs_nil ⟨σ1, H2, I2, q2⟩
end

/-! ### what a loop or a comprehension walks -/
/-- at turn i: it yields x (the heap may grow), or it stops -/
structure It where
  go : Nat → Hp → Prop
  yld : Nat → Hp → V → Hp → Prop
  stop : Nat → Hp → Prop
/-- the iterator's own objects may turn: they are not the frame's, not pinned, younger than the entry (or a comprehension's own) -/
def FpOk (X : Cx) (pins : List (Addr × Obj)) (H : Hp) (b : Addr) : Prop :=
  H b = none ∧ b ≠ X.env.locals ∧ b ∉ X.fs ∧ (b ∈ X.ex ∨ X.s_0.heap.objs.size ≤ b) ∧ (∀ x c, X.env.cells.lookup x = some c → c ≠ b) ∧ ∀ p ∈ X.pn ++ pins, p.1 ≠ b
theorem Inv.fpOk {X : Cx} {pins : List (Addr × Obj)} {σ : St} {H H' : Hp} {s : Shared} {b : Addr} (I : Inv X pins σ H s) (hb : s.heap.objs.size ≤ b) (hn : H' b = none) : FpOk X pins H' b := by
  refine ⟨hn, Nat.ne_of_gt (Nat.lt_of_lt_of_le I.lt hb), I.nofs hb, .inr (Nat.le_trans I.sz hb), fun x c e z => ?_, fun p hp z => ?_⟩
  · obtain ⟨v, q⟩ := I.cell x c e
    exact absurd (Nat.lt_of_lt_of_le q.lt (by rw [z]; exact hb)) (Nat.lt_irrefl _)
  · exact absurd (Nat.lt_of_lt_of_le (Heap.lt_size (I.pin p hp).1) (by rw [z]; exact hb)) (Nat.lt_irrefl _)
structure Turn (P : Program) (w : World) (K : PySem.W.Frag) (tg : Expr) (J : It) (fp : List Addr) (it : Addr) (tn : Nat → Heap → Prop) : Prop where
  mem : it ∈ fp
  obj : ∀ i h, tn i h → ∀ b ∈ fp, ∃ o, h.get? b = some o ∧ ∀ v, o.data ≠ .cell v
  keep : ∀ i h h', tn i h → (∀ b ∈ fp, ∀ o, h.get? b = some o → h'.get? b = some o) → tn i h'
  item : ∀ (X : Cx), X.prog = P → X.w = w → X.K = K → X.calm = true → ∀ (i : Nat) (pins : List (Addr × Obj)) (s : Shared) (σ : St) (H : Hp) (E : Value → Shared → Prop), Inv X pins σ H s → (∀ b ∈ fp, FpOk X pins H b) → tn i s.heap → J.go i H →
    wpAny (model P w) X.A (pyNext (.ref it)) (fun r s1 => ∃ u, r = some u ∧
      wpAny (model P w) X.A (letOwnedTupleGo tg (.ref it) u) (fun _ s2 => ∃ x H', Inv X pins σ H' s2 ∧ RelV x u ∧ J.yld i H x H' ∧ tn (i + 1) s2.heap ∧ ∀ b ∈ fp, H' b = none) E s1) E s
  done : ∀ (X : Cx), X.prog = P → X.w = w → X.K = K → X.calm = true → ∀ (i : Nat) (pins : List (Addr × Obj)) (s : Shared) (σ : St) (H : Hp) (E : Value → Shared → Prop), Inv X pins σ H s → (∀ b ∈ fp, FpOk X pins H b) → tn i s.heap → J.stop i H →
    wpAny (model P w) X.A (pyNext (.ref it)) (fun r s1 => r = none ∧ Inv X pins σ H s1) E s
  self : ∀ (A : Around) (i : Nat) (s : Shared) (Q : Value → Shared → Prop) (E : Value → Shared → Prop), tn i s.heap → Q (.ref it) s → wpAny (model P w) A (pyIter (.ref it)) Q E s
abbrev TI := St → Hp → (It → Hp → Prop) → Prop
/-- an iterator has come -/
def PIE (X : Cx) (pins : List (Addr × Obj)) (σ : St) (tg : Expr) (R : It → Hp → Prop) (itv : Value) (s2 : Shared) : Prop :=
  ∃ (it : Addr) (fp : List Addr) (tn : Nat → Heap → Prop) (J : It) (H' : Hp), itv = .ref it ∧ Inv X pins σ H' s2 ∧ Turn X.prog X.w X.K tg J fp it tn ∧ tn 0 s2.heap ∧ (∀ b ∈ fp, FpOk X pins H' b) ∧ R J H'
def PI (X : Cx) (tg iter : Expr) (wi : TI) : Prop :=
  ∀ (pins : List (Addr × Obj)) (s : Shared) (σ : St) (H : Hp) (R : It → Hp → Prop), Inv X pins σ H s → wi σ H R →
    wpAny (model X.prog X.w) X.A (eval iter X.env) (fun v s1 => wpAny (model X.prog X.w) X.A (pyIter v) (PIE X pins σ tg R) X.xe s1) X.xe s

/-- the step ahead of the store is nothing for an iterator that keeps no tuple -/
theorem go_of {M : Model} {A : Around} {E : Value → Shared → Prop} {s : Shared} {tg : Expr} {it : Addr} {u : Value} {o : Obj} {n : String} {vs : Array Value} {Q : Unit → Shared → Prop} (ho : s.heap.get? it = some o) (hc : o.cls = .type n) (hd : o.data = .fields vs)
    (hn : ["enumerate", "zip", "dict_itemiterator", "dict_reverseitemiterator", "odict_iterator", "itertools.zip_longest", "itertools.pairwise"].contains n = false) (hQ : Q () s) : wpAny M A (letOwnedTupleGo tg (.ref it) u) Q E s := by
  unfold letOwnedTupleGo
  cases tg <;> first
    | exact wpAny_pure hQ
    | (cases u <;> first
        | exact wpAny_pure hQ
        | (refine wpAny_bind (wpAny_load ho ?_)
           rw [hc, hd]
           show wpAny M A (if (["enumerate", "zip", "dict_itemiterator", "dict_reverseitemiterator", "odict_iterator", "itertools.zip_longest", "itertools.pairwise"].contains n && vs[0]? == some (rawInt _)) = true then _ else _) Q E s
           rw [if_neg (by intro h; rw [hn, Bool.false_and] at h; cases h)]
           exact wpAny_pure hQ))

/-- the list at a, as it stands at each turn (a loop may append to it) -/
def Itl (K : PySem.W.Frag) (a : Addr) : It :=
  ⟨fun i H => ∃ xs x, SqL K H a xs ∧ xs[i]? = some x, fun i H x H' => H' = H ∧ ∀ xs, SqL K H a xs → xs[i]? = some x, fun i H => ∃ xs, SqL K H a xs ∧ xs.length ≤ i⟩
def Itt (K : PySem.W.Frag) (a : Addr) : It :=
  ⟨fun i H => ∃ xs x, SqT K H a xs ∧ xs[i]? = some x, fun i H x H' => H' = H ∧ ∀ xs, SqT K H a xs → xs[i]? = some x, fun i H => ∃ xs, SqT K H a xs ∧ xs.length ≤ i⟩
/-- lo, lo + 1, .. (n of them) -/
def Itr (lo : Int) (n : Nat) : It := ⟨fun i _ => i < n, fun i H x H' => H' = H ∧ x = .int (lo + i), fun i _ => n ≤ i⟩
theorem turn_list {P : Program} {w : World} {K : PySem.W.Frag} {tg : Expr} (a it : Addr) : Turn P w K tg (Itl K a) [it] it (fun i h => h.IsListIter it a i) where
  mem := by simp
  obj := fun i h st b hb => by
    have e : b = it := by simpa using hb
    subst e
    obtain ⟨o, e, c, d⟩ := st
    exact ⟨o, e, fun v z => by rw [d] at z; cases z⟩
  keep := fun i h h' st k => st.at fun o e => k it (by simp) o e
  item := by
    intro X hP hw hK hc i pins s σ H E I hf st hg
    subst hP hw hK
    obtain ⟨xs, x, hq, hx⟩ := hg
    obtain ⟨its, rv, p, hz⟩ := I.list hq
    obtain ⟨u, hu, ru⟩ := rv.get hx
    obtain ⟨f0, f1, f2, f3, f4, f5⟩ := hf it (by simp)
    refine wpAny_pyNext_list_item st p.isList (x := u) (by simpa using hu) fun h' st' sb => ?_
    have I1 : Inv X pins σ H { s with heap := h' } := I.turned (t' := s.toks) (fun b o hb e => (sb.2 b hb).trans e) f0 f1 f3 f4 f5
    obtain ⟨o, e, c, d⟩ := id st'
    exact ⟨u, rfl, go_of (s := { s with heap := h' }) e c d (by decide) ⟨x, H, I1, ru, ⟨rfl, fun ys hy => by rw [I.list_inj hy hq]; exact hx⟩, st', fun b hb => (hf b hb).1⟩⟩
  done := by
    intro X hP hw hK hc i pins s σ H E I hf st hg
    subst hP hw hK
    obtain ⟨xs, hq, hx⟩ := hg
    obtain ⟨its, rv, p, hz⟩ := I.list hq
    obtain ⟨f0, f1, f2, f3, f4, f5⟩ := hf it (by simp)
    have hl := rv.length
    exact wpAny_pyNext_list_end (I.ok.hd hc) st p.isList (by simp; omega) fun h' eb => ⟨rfl, I.turned (t' := s.toks) (fun b o hb e => eb b o hb e) f0 f1 f3 f4 f5⟩
  self := fun _ _ _ _ _ st h => wpAny_pyIter_listiter st h
theorem turn_tuple {P : Program} {w : World} {K : PySem.W.Frag} {tg : Expr} (a it : Addr) : Turn P w K tg (Itt K a) [it] it (fun i h => h.IsTupleIter it a i) where
  mem := by simp
  obj := fun i h st b hb => by
    have e : b = it := by simpa using hb
    subst e
    obtain ⟨o, e, c, d⟩ := st
    exact ⟨o, e, fun v z => by rw [d] at z; cases z⟩
  keep := fun i h h' st k => st.at fun o e => k it (by simp) o e
  item := by
    intro X hP hw hK hc i pins s σ H E I hf st hg
    subst hP hw hK
    obtain ⟨xs, x, hq, hx⟩ := hg
    obtain ⟨its, rv, p, hz⟩ := I.tuple hq
    obtain ⟨u, hu, ru⟩ := rv.get hx
    obtain ⟨f0, f1, f2, f3, f4, f5⟩ := hf it (by simp)
    refine wpAny_pyNext_tuple_item st (show s.heap.IsTuple a its.toArray from p) (x := u) (by simpa using hu) fun h' st' sb => ?_
    have I1 : Inv X pins σ H { s with heap := h' } := I.turned (t' := s.toks) (fun b o hb e => (sb.2 b hb).trans e) f0 f1 f3 f4 f5
    obtain ⟨o, e, c, d⟩ := id st'
    exact ⟨u, rfl, go_of (s := { s with heap := h' }) e c d (by decide) ⟨x, H, I1, ru, ⟨rfl, fun ys hy => by rw [I.tuple_inj hy hq]; exact hx⟩, st', fun b hb => (hf b hb).1⟩⟩
  done := by
    intro X hP hw hK hc i pins s σ H E I hf st hg
    subst hP hw hK
    obtain ⟨xs, hq, hx⟩ := hg
    obtain ⟨its, rv, p, hz⟩ := I.tuple hq
    obtain ⟨f0, f1, f2, f3, f4, f5⟩ := hf it (by simp)
    have hl := rv.length
    exact wpAny_pyNext_tuple_end (I.ok.hd hc) st (show s.heap.IsTuple a its.toArray from p) (by simp; omega) fun h' eb => ⟨rfl, I.turned (t' := s.toks) (fun b o hb e => eb b o hb e) f0 f1 f3 f4 f5⟩
  self := fun _ _ _ _ _ st h => wpAny_pyIter_tupleiter st h
theorem turn_range {P : Program} {w : World} {K : PySem.W.Frag} {tg : Expr} (it : Addr) (lo : Int) (n : Nat) : Turn P w K tg (Itr lo n) [it] it (fun i h => IsRangeIter h it (lo + (i : Nat) * 1) ((n : Int) - (i : Nat)) 1) where
  mem := by simp
  obj := fun i h st b hb => by
    have e : b = it := by simpa using hb
    subst e
    exact ⟨_, st, fun v z => by
      have z' : Data.fields _ = Data.cell v := z
      cases z'⟩
  keep := fun i h h' st k => k it (by simp) _ st
  item := by
    intro X hP hw hK hc i pins s σ H E I hf st hg
    subst hP hw hK
    obtain ⟨f0, f1, f2, f3, f4, f5⟩ := hf it (by simp)
    have W := Walks.range (prog := X.prog) (w := X.w) (I.ok.hd hc) it lo 1 n
    refine W.item i s _ _ hg st fun v h' tk hv st' kk => ?_
    obtain ⟨t, rfl⟩ := hv
    have I1 : Inv X pins σ H { s with heap := h', toks := tk } := I.turned (fun b o hb e => kk b o (by simpa using hb) e) f0 f1 f3 f4 f5
    refine ⟨_, rfl, go_of (s := { s with heap := h', toks := tk }) (n := "range_iterator") st' rfl rfl (by decide) ⟨.int (lo + i), H, I1, ⟨t, ?_⟩, ⟨rfl, rfl⟩, st', fun b hb => (hf b hb).1⟩⟩
    rw [Int.mul_one]
  done := by
    intro X hP hw hK hc i pins s σ H E I hf st hg
    subst hP hw hK
    obtain ⟨f0, f1, f2, f3, f4, f5⟩ := hf it (by simp)
    exact wpAny_pyNext_range_end (I.ok.hd hc) st (by have : n ≤ i := hg; omega) fun h' eb => ⟨rfl, I.turned (t' := s.toks) (fun b o hb e => eb b o hb e) f0 f1 f3 f4 f5⟩
  self := fun _ _ _ _ _ st h => wpAny_pyIter_rangeiter st h
end L2

namespace L2
open PySem PySem.Spec PyProof.Rows
section
variable {X : Cx} {tg : Expr}
def iList (K : PySem.W.Frag) (tl : TE) : TI := fun σ H R => tl σ H fun x H1 => ∃ a, x = .ref a ∧ (∃ xs, SqL K H1 a xs) ∧ R (Itl K a) H1
def iTup (K : PySem.W.Frag) (tl : TE) : TI := fun σ H R => tl σ H fun x H1 => ∃ a, x = .ref a ∧ (∃ xs, SqT K H1 a xs) ∧ R (Itt K a) H1
theorem pi_list {l : Expr} {tl : TE} (hl : PE X l tl) : PI X tg l (iList X.K tl) := by
  intro pins s σ H R I h
  refine thn (hl pins s σ H _ I h) fun v s1 ⟨x, H1, I1, r1, q1⟩ => ?_
  obtain ⟨a, e, ⟨xs, hq⟩, q⟩ := q1
  subst e
  cases r1
  obtain ⟨its, rv, p, hz⟩ := I1.list hq
  refine wpAny_pyIter_list p.isList ?_
  refine ⟨s1.heap.objs.size, [s1.heap.objs.size], _, _, H1, rfl, I1.kept (t' := s1.toks) fun b o e => Heap.get?_push_of_some _ e, turn_list a _, ⟨_, Heap.get?_push_size _ rfl, rfl, rfl⟩, fun b hb => ?_, q⟩
  have e : b = s1.heap.objs.size := by simpa using hb
  subst e
  exact I1.fpOk (Nat.le_refl _) (I1.hok.fresh (Nat.le_refl _))
theorem pi_tup {l : Expr} {tl : TE} (hl : PE X l tl) : PI X tg l (iTup X.K tl) := by
  intro pins s σ H R I h
  refine thn (hl pins s σ H _ I h) fun v s1 ⟨x, H1, I1, r1, q1⟩ => ?_
  obtain ⟨a, e, ⟨xs, hq⟩, q⟩ := q1
  subst e
  cases r1
  obtain ⟨its, rv, p, hz⟩ := I1.tuple hq
  refine wpAny_pyIter_tuple (show s1.heap.IsTuple a its.toArray from p) ?_
  refine ⟨s1.heap.objs.size, [s1.heap.objs.size], _, _, H1, rfl, I1.kept (t' := s1.toks) fun b o e => Heap.get?_push_of_some _ e, turn_tuple a _, ⟨_, Heap.get?_push_size _ rfl, rfl, rfl⟩, fun b hb => ?_, q⟩
  have e : b = s1.heap.objs.size := by simpa using hb
  subst e
  exact I1.fpOk (Nat.le_refl _) (I1.hok.fresh (Nat.le_refl _))
/-- a range object just made, walked -/
theorem range_it {pins : List (Addr × Obj)} {σ : St} {H : Hp} {s : Shared} {R : It → Hp → Prop} {E : Value → Shared → Prop} {lo hi : Int} {t u v : Tok} {tk : Nat} (I : Inv X pins σ H s) (h1 : -(2 ^ 62) ≤ lo) (h2 : lo < 2 ^ 62) (h3 : -(2 ^ 62) ≤ hi) (h4 : hi < 2 ^ 62)
    (q : R (Itr lo (hi - lo).toNat) H) : wpAny (model X.prog X.w) X.A (pyIter (.ref s.heap.objs.size)) (PIE X pins σ tg R) E { s with heap := s.heap.push { cls := .type "range", data := .fields #[.int lo t, .int hi u, .int 1 v] }, toks := tk } := by
  refine wpAny_pyIter_range (IsRange.new ..) (small_one h1 h2 h3 h4) ?_
  have I1 : Inv X pins σ H { s with heap := s.heap.push { cls := .type "range", data := .fields #[.int lo t, .int hi u, .int 1 v] }, toks := tk } := I.kept fun b o e => Heap.get?_push_of_some _ e
  refine ⟨(s.heap.push { cls := .type "range", data := .fields #[.int lo t, .int hi u, .int 1 v] }).objs.size, [(s.heap.push { cls := .type "range", data := .fields #[.int lo t, .int hi u, .int 1 v] }).objs.size], _, _, H, rfl,
    I1.kept (t' := tk) fun b o e => Heap.get?_push_of_some _ e, turn_range _ lo (hi - lo).toNat, ?_, fun b hb => ?_, q⟩
  · have e1 : lo + ((0 : Nat) : Int) * 1 = lo := by simp
    have e2 : (((hi - lo).toNat : Nat) : Int) - ((0 : Nat) : Int) = Builtin.Range.rangeSize lo hi 1 := by rw [rangeSize_one]; split <;> omega
    show IsRangeIter _ _ (lo + ((0 : Nat) : Int) * 1) ((((hi - lo).toNat : Nat) : Int) - ((0 : Nat) : Int)) 1
    rw [e1, e2]
    exact Heap.get?_push_size _ rfl
  · have e : b = (s.heap.push { cls := .type "range", data := .fields #[.int lo t, .int hi u, .int 1 v] }).objs.size := by simpa using hb
    subst e
    exact I1.fpOk (Nat.le_refl _) (I1.hok.fresh (Nat.le_refl _))
def iRng1 (ta : TA) : TI := fun σ H R => ta σ H fun vs H1 => ∃ j : Int, vs = [.int j] ∧ -(2 ^ 62) ≤ j ∧ j < 2 ^ 62 ∧ R (Itr 0 j.toNat) H1
def iRng2 (ta : TA) : TI := fun σ H R => ta σ H fun vs H1 => ∃ i j : Int, vs = [.int i, .int j] ∧ (-(2 ^ 62) ≤ i ∧ i < 2 ^ 62 ∧ -(2 ^ 62) ≤ j ∧ j < 2 ^ 62) ∧ R (Itr i (j - i).toNat) H1
theorem pi_range1 {a : Expr} {ta : TA} {p pos : Pos} (hg : Gl X "range") (hm : X.mg "range" = none) (ha : PA X [a] ta) (hs : starEach [a] X.env = [(false, eval a X.env)] := by rfl) : PI X tg (.Call (.Name "range" p) [a] [] pos) (iRng1 ta) := by
  intro pins s σ H R I h
  refine Call_ (ld_blt I hg hm boot_range (PyProof.Rows.callWith_type1 (thn (ha pos pins s σ H _ I h) fun us s1 ⟨vs, H1, I1, r1, q1⟩ => ?_) hs rfl))
  obtain ⟨j, e, q1, q2, q⟩ := q1
  subst e
  cases r1 with
  | cons r rr =>
    cases rr
    obtain ⟨t, rfl⟩ := r
    exact call_range_1 (range_it I1 (by omega) (by omega) q1 q2 (by simpa using q))
theorem pi_range2 {a b : Expr} {ta : TA} {p pos : Pos} (hg : Gl X "range") (hm : X.mg "range" = none) (ha : PA X [a, b] ta) (hs : starEach [a, b] X.env = [(false, eval a X.env), (false, eval b X.env)] := by rfl) (hs2 : starEach [b] X.env = [(false, eval b X.env)] := by rfl) :
    PI X tg (.Call (.Name "range" p) [a, b] [] pos) (iRng2 ta) := by
  intro pins s σ H R I h
  refine Call_ (ld_blt I hg hm boot_range (PyProof.Rows.callWith_type1 (thn (ha pos pins s σ H _ I h) fun us s1 ⟨vs, H1, I1, r1, q1⟩ => ?_) (by rw [hs, hs2]) (by rw [hs2]; rfl)))
  obtain ⟨i, j, e, ⟨q1, q2, q3, q4⟩, q⟩ := q1
  subst e
  cases r1 with
  | cons r rr =>
    cases rr with
    | cons r' rr =>
      cases rr
      obtain ⟨t, rfl⟩ := r
      obtain ⟨t', rfl⟩ := r'
      exact call_range_2 (range_it I1 q1 q2 q3 q4 q)

/-! ### for -/
/-- W: the invariant by the turn and a measure; N: what the body is to reach -/
def tFor (wi : TI) (g : TG) (tb : TS) : TS := fun D σ H => wi σ H fun J H1 => ∃ W : Nat → Nat → St → Hp → Prop, (∃ m, W 0 m σ H1) ∧ ∀ i m σ H, W i m σ H →
  (J.stop i H ∧ D.nx σ H) ∨ (J.go i H ∧ ∃ N : St → Hp → Prop, (∀ σ' H', N σ' H' → ∃ m', m' < m ∧ W (i + 1) m' σ' H') ∧ ∀ x H', J.yld i H x H' → g x σ H' fun σ2 H2 => tb { D with nx := N, ct := N, bk := D.nx } σ2 H2)
/-- the records at fp as they stand -/
def pinsAt (fp : List Addr) (h : Heap) : List (Addr × Obj) := fp.filterMap fun b => (h.get? b).map fun o => (b, o)
theorem mem_pinsAt {fp : List Addr} {h : Heap} {b : Addr} {o : Obj} (hb : b ∈ fp) (e : h.get? b = some o) : (b, o) ∈ pinsAt fp h := List.mem_filterMap.mpr ⟨b, hb, by rw [e]; rfl⟩
theorem of_pinsAt {fp : List Addr} {h : Heap} {p : Addr × Obj} (hp : p ∈ pinsAt fp h) : p.1 ∈ fp ∧ h.get? p.1 = some p.2 := by
  obtain ⟨b, hb, e⟩ := List.mem_filterMap.mp hp
  cases q : h.get? b with
  | none => rw [q] at e; cases e
  | some o =>
    rw [q] at e
    have e' : (b, o) = p := Option.some.inj e
    subst e'
    exact ⟨hb, q⟩
theorem Inv.pinned {pins : List (Addr × Obj)} {σ : St} {H : Hp} {s : Shared} {fp : List Addr} (I : Inv X pins σ H s) (hf : ∀ b ∈ fp, FpOk X pins H b) (ho : ∀ b ∈ fp, ∃ o, s.heap.get? b = some o ∧ ∀ v, o.data ≠ .cell v) : Inv X (pins ++ pinsAt fp s.heap) σ H s :=
  I.pins_of fun p hp => (List.mem_append.mp hp).elim (fun z => I.pin p (List.mem_append_right _ z)) fun z => by
    obtain ⟨hb, e⟩ := of_pinsAt z
    obtain ⟨f0, f1, f2, _⟩ := hf p.1 hb
    obtain ⟨o, e', d⟩ := ho p.1 hb
    rw [e] at e'; cases e'
    exact ⟨e, f0, f1, f2, d⟩
theorem Inv.unpinned {pins pl : List (Addr × Obj)} {σ : St} {H : Hp} {s : Shared} (I : Inv X (pins ++ pl) σ H s) : Inv X pins σ H s := I.pins_of fun p hp => I.pin p (List.mem_append_right _ (List.mem_append_left _ hp))
theorem ps_for {iter : Expr} {body : List Stmt} {wi : TI} {g : TG} {tb : TS} {pos : Pos} (hp : PassesOwn (model X.prog X.w) X.A X.env X.xe) (hc : X.calm = true) (hi : PI X tg iter wi) (hg : PG X tg g) (hb : PSs X body tb)
    (hs : ∀ x, foldedSetIterable iter X.env x = pure x := by intro _; rfl) : PS X (.For tg iter body [] pos) (tFor wi g tb) := by
  intro pins s σ H D I h
  refine wpAny_For (thn (hi pins s σ H _ I h) fun v s1 h1 => thn h1 fun itv s2 h2 => ?_) hs
  obtain ⟨it, fp, tn, J, H2, e, I2, T, st2, f2, W, ⟨m0, w0⟩, turn⟩ := h2
  subst e
  -- what stays true of the iterator's objects through the loop
  have stat : ∀ {H' : Hp}, (∀ b ∈ fp, H' b = none) → ∀ b ∈ fp, FpOk X pins H' b := fun hn b hb => ⟨hn b hb, (f2 b hb).2⟩
  refine codeAny_forLoop_any (fun n s' => ∃ i σ' H', Inv X pins σ' H' s' ∧ tn i s'.heap ∧ (∀ b ∈ fp, H' b = none) ∧ W i n σ' H') ?_ m0 ⟨0, σ, H2, I2, st2, fun b hb => (f2 b hb).1, w0⟩
  rintro n s3 ⟨i, σ3, H3, I3, st3, fr3, w3⟩
  rcases turn i n σ3 H3 w3 with ⟨stop, qn⟩ | ⟨go, N, hN, step⟩
  · refine wpAny_passesOwn hp (thn (T.done X rfl rfl rfl hc i pins s3 σ3 H3 X.xe I3 (stat fr3) st3 stop) fun r s4 ⟨hr, I4⟩ => ?_)
    subst hr
    exact wpAny_execs_nil ⟨σ3, H3, I4, qn⟩
  · refine wpAny_passesOwn hp (thn (T.item X rfl rfl rfl hc i pins s3 σ3 H3 X.xe I3 (stat fr3) st3 go) fun r s4 ⟨u, hr, h4⟩ => ?_)
    subst hr
    refine wpAny_passesOwn hp (thn h4 fun _ s5 ⟨x, H5, I5, r5, y5, st5, fr5⟩ => ?_)
    have I5' := I5.pinned (stat fr5) (T.obj _ _ st5)
    refine wpAny_passesOwn hp (thn (hg _ s5 σ3 H5 x u _ I5' r5 (step x H5 y5)) fun _ s6 ⟨σ6, H6, I6, q6⟩ => ?_)
    refine wpAny_passesOwn hp (thn (hb _ s6 σ6 H6 _ I6 q6) fun f s7 q7 => ?_)
    have again : ∀ {σ7 : St} {H7 : Hp}, Inv X (pins ++ pinsAt fp s5.heap) σ7 H7 s7 → N σ7 H7 → ∃ m, m < n ∧ ∃ i σ' H', Inv X pins σ' H' s7 ∧ tn i s7.heap ∧ (∀ b ∈ fp, H' b = none) ∧ W i m σ' H' := fun {σ7 H7} I7 n7 => by
      obtain ⟨m', hm, w7⟩ := hN σ7 H7 n7
      refine ⟨m', hm, i + 1, σ7, H7, I7.unpinned, T.keep _ _ _ st5 fun b hb o e => (I7.pin (b, o) (List.mem_append_right _ (List.mem_append_right _ (mem_pinsAt hb e)))).1, fun b hb => ?_, w7⟩
      obtain ⟨o, e, d⟩ := T.obj _ _ st5 b hb
      exact (I7.pin (b, o) (List.mem_append_right _ (List.mem_append_right _ (mem_pinsAt hb e)))).2.1
    cases f with
    | next => obtain ⟨σ7, H7, I7, n7⟩ := q7; exact again I7 n7
    | cont => obtain ⟨σ7, H7, I7, n7⟩ := q7; exact again I7 n7
    | brk => obtain ⟨σ7, H7, I7, q7⟩ := q7; exact ⟨σ7, H7, I7.unpinned, q7⟩
    | ret v => obtain ⟨x7, σ7, H7, I7, r7, q7⟩ := q7; exact ⟨x7, σ7, H7, I7.unpinned, r7, q7⟩
end

/-! ### the forms one uses -/
/-- over a list that the body leaves as it is -/
theorem for_list {K : PySem.W.Frag} {a : Addr} {xs : List V} {g : TG} {tb : TS} {D : Ends} {σ : St} {H : Hp} (Pv : Nat → St → Hp → Prop) (h0 : Pv 0 σ H) (hl : ∀ i σ H, i ≤ xs.length → Pv i σ H → SqL K H a xs)
    (hs : ∀ i x σ H, xs[i]? = some x → Pv i σ H → g x σ H fun σ2 H2 => tb { D with nx := Pv (i + 1), ct := Pv (i + 1), bk := D.nx } σ2 H2) (hd : ∀ σ H, Pv xs.length σ H → D.nx σ H) :
    ∃ W : Nat → Nat → St → Hp → Prop, (∃ m, W 0 m σ H) ∧ ∀ i m σ H, W i m σ H →
      ((Itl K a).stop i H ∧ D.nx σ H) ∨ ((Itl K a).go i H ∧ ∃ N : St → Hp → Prop, (∀ σ' H', N σ' H' → ∃ m', m' < m ∧ W (i + 1) m' σ' H') ∧ ∀ x H', (Itl K a).yld i H x H' → g x σ H' fun σ2 H2 => tb { D with nx := N, ct := N, bk := D.nx } σ2 H2) := by
  refine ⟨fun i m σ H => m = xs.length - i ∧ i ≤ xs.length ∧ Pv i σ H, ⟨xs.length, by simp, Nat.zero_le _, h0⟩, ?_⟩
  rintro i m σ H ⟨rfl, hi, p⟩
  have q := hl i σ H hi p
  by_cases hlt : i < xs.length
  · refine .inr ⟨⟨xs, xs[i], q, by simp [hlt]⟩, Pv (i + 1), fun σ' H' p' => ⟨xs.length - (i + 1), by omega, rfl, hlt, p'⟩, fun x H' y => ?_⟩
    obtain ⟨e, y⟩ := y
    subst e
    exact hs i x σ _ (y xs q) p
  · have e : i = xs.length := by omega
    subst e
    exact .inl ⟨⟨xs, q, Nat.le_refl _⟩, hd σ H p⟩
theorem for_tup {K : PySem.W.Frag} {a : Addr} {xs : List V} {g : TG} {tb : TS} {D : Ends} {σ : St} {H : Hp} (Pv : Nat → St → Hp → Prop) (h0 : Pv 0 σ H) (hl : ∀ i σ H, i ≤ xs.length → Pv i σ H → SqT K H a xs)
    (hs : ∀ i x σ H, xs[i]? = some x → Pv i σ H → g x σ H fun σ2 H2 => tb { D with nx := Pv (i + 1), ct := Pv (i + 1), bk := D.nx } σ2 H2) (hd : ∀ σ H, Pv xs.length σ H → D.nx σ H) :
    ∃ W : Nat → Nat → St → Hp → Prop, (∃ m, W 0 m σ H) ∧ ∀ i m σ H, W i m σ H →
      ((Itt K a).stop i H ∧ D.nx σ H) ∨ ((Itt K a).go i H ∧ ∃ N : St → Hp → Prop, (∀ σ' H', N σ' H' → ∃ m', m' < m ∧ W (i + 1) m' σ' H') ∧ ∀ x H', (Itt K a).yld i H x H' → g x σ H' fun σ2 H2 => tb { D with nx := N, ct := N, bk := D.nx } σ2 H2) := by
  refine ⟨fun i m σ H => m = xs.length - i ∧ i ≤ xs.length ∧ Pv i σ H, ⟨xs.length, by simp, Nat.zero_le _, h0⟩, ?_⟩
  rintro i m σ H ⟨rfl, hi, p⟩
  have q := hl i σ H hi p
  by_cases hlt : i < xs.length
  · refine .inr ⟨⟨xs, xs[i], q, by simp [hlt]⟩, Pv (i + 1), fun σ' H' p' => ⟨xs.length - (i + 1), by omega, rfl, hlt, p'⟩, fun x H' y => ?_⟩
    obtain ⟨e, y⟩ := y
    subst e
    exact hs i x σ _ (y xs q) p
  · have e : i = xs.length := by omega
    subst e
    exact .inl ⟨⟨xs, q, Nat.le_refl _⟩, hd σ H p⟩
theorem for_range {lo : Int} {n : Nat} {g : TG} {tb : TS} {D : Ends} {σ : St} {H : Hp} (Pv : Nat → St → Hp → Prop) (h0 : Pv 0 σ H)
    (hs : ∀ i σ H, i < n → Pv i σ H → g (.int (lo + i)) σ H fun σ2 H2 => tb { D with nx := Pv (i + 1), ct := Pv (i + 1), bk := D.nx } σ2 H2) (hd : ∀ σ H, Pv n σ H → D.nx σ H) :
    ∃ W : Nat → Nat → St → Hp → Prop, (∃ m, W 0 m σ H) ∧ ∀ i m σ H, W i m σ H →
      ((Itr lo n).stop i H ∧ D.nx σ H) ∨ ((Itr lo n).go i H ∧ ∃ N : St → Hp → Prop, (∀ σ' H', N σ' H' → ∃ m', m' < m ∧ W (i + 1) m' σ' H') ∧ ∀ x H', (Itr lo n).yld i H x H' → g x σ H' fun σ2 H2 => tb { D with nx := N, ct := N, bk := D.nx } σ2 H2) := by
  refine ⟨fun i m σ H => m = n - i ∧ i ≤ n ∧ Pv i σ H, ⟨n, by simp, Nat.zero_le _, h0⟩, ?_⟩
  rintro i m σ H ⟨rfl, hi, p⟩
  by_cases hlt : i < n
  · refine .inr ⟨hlt, Pv (i + 1), fun σ' H' p' => ⟨n - (i + 1), by omega, rfl, hlt, p'⟩, fun x H' y => ?_⟩
    obtain ⟨e, y⟩ := y
    subst e y
    exact hs i σ _ hlt p
  · have e : i = n := by omega
    subst e
    exact .inl ⟨Nat.le_refl _, hd σ H p⟩
/-- while, by a word and a measure of the state -/
theorem while_by {c : TT} {tb : TS} {D : Ends} {σ : St} {H : Hp} (Pv : St → Hp → Prop) (μ : St → Hp → Nat) (h0 : Pv σ H)
    (hs : ∀ σ H, Pv σ H → c σ H fun b H1 => if b = true then tb { D with nx := fun σ' H' => Pv σ' H' ∧ μ σ' H' < μ σ H, ct := fun σ' H' => Pv σ' H' ∧ μ σ' H' < μ σ H, bk := D.nx } σ H1 else D.nx σ H1)
    (mono : ∀ σ H Q Q', (∀ b H1, Q b H1 → Q' b H1) → c σ H Q → c σ H Q') : tWhile c tb D σ H := by
  refine ⟨fun m σ H => m = μ σ H ∧ Pv σ H, ⟨_, rfl, h0⟩, ?_⟩
  rintro m σ H ⟨rfl, p⟩
  refine mono σ H _ _ (fun b H1 q => ?_) (hs σ H p)
  cases b with
  | true => exact ⟨_, fun σ' H' ⟨p', l⟩ => ⟨_, l, rfl, p'⟩, q⟩
  | false => exact q
end L2

namespace L2
open PySem PySem.Spec PyProof.Rows

abbrev R2 := V → V → Hp → VK → Prop
/-- a two-place operation on values: f is binaryOp op, inplaceOp op or compareOp op -/
def OpR (X : Cx) (f : Value → Value → Sem Value) (r : R2) : Prop :=
  ∀ (pins : List (Addr × Obj)) (s : Shared) (σ : St) (H : Hp) (x y : V) (v u : Value) (Q : VK), Inv X pins σ H s → RelV x v → RelV y u → r x y H Q →
    wpAny (model X.prog X.w) X.A (f v u) (EP X pins σ Q) X.xe s
/-- a one-place operation -/
def UnR (X : Cx) (f : Value → Sem Value) (r : V → Hp → VK → Prop) : Prop :=
  ∀ (pins : List (Addr × Obj)) (s : Shared) (σ : St) (H : Hp) (x : V) (v : Value) (Q : VK), Inv X pins σ H s → RelV x v → r x H Q →
    wpAny (model X.prog X.w) X.A (f v) (EP X pins σ Q) X.xe s
/-- a call of a value that is known (a builtin, a type) with values -/
def CallR (X : Cx) (f : Value) (r : List V → Hp → VK → Prop) : Prop :=
  ∀ (pins : List (Addr × Obj)) (s : Shared) (σ : St) (H : Hp) (xs : List V) (us : List Value) (Q : VK), Inv X pins σ H s → Vals xs us → r xs H Q →
    wpAny (model X.prog X.w) X.A (call f us) (EP X pins σ Q) X.xe s
/-- a value's truth -/
def TruR (X : Cx) (r : V → Hp → (Bool → Hp → Prop) → Prop) : Prop :=
  ∀ (pins : List (Addr × Obj)) (s : Shared) (σ : St) (H : Hp) (x : V) (v : Value) (Q : Bool → Hp → Prop), Inv X pins σ H s → RelV x v → r x H Q →
    wpAny (model X.prog X.w) X.A (truthy v) (TP X pins σ Q) X.xe s

def tOp (r : R2) (ta tb : TE) : TE := fun σ H Q => ta σ H fun x H1 => tb σ H1 fun y H2 => r x y H2 Q
def tUn (r : V → Hp → VK → Prop) (ta : TE) : TE := fun σ H Q => ta σ H fun x H1 => r x H1 Q
/-- ints in, under C, and a value out -/
def rI (C : Int → Int → Prop) (g : Int → Int → V) : R2 := fun x y H Q => ∃ i j, x = .int i ∧ y = .int j ∧ C i j ∧ Q (g i j) H
def rI0 (g : Int → Int → V) : R2 := fun x y H Q => ∃ i j, x = .int i ∧ y = .int j ∧ Q (g i j) H
def rU (g : Int → V) : V → Hp → VK → Prop := fun x H Q => ∃ i, x = .int i ∧ Q (g i) H

section
variable {X : Cx} {a b c : Expr} {ta tb tc : TE} {pos : Pos}

theorem binT (ha : PE X a ta) (hb : PE X b tb) {pins : List (Addr × Obj)} {s : Shared} {σ : St} {H : Hp} {R : V → V → Hp → Prop} (I : Inv X pins σ H s)
    (h : ta σ H fun x H1 => tb σ H1 fun y H2 => R x y H2) {Q : Value → Shared → Prop} {f : Value → Value → Sem Value}
    (hf : ∀ v u s2 x y H2, Inv X pins σ H2 s2 → RelV x v → RelV y u → R x y H2 → wpAny (model X.prog X.w) X.A (f v u) Q X.xe s2) :
    wpAny (model X.prog X.w) X.A (eval a X.env) (fun v s₁ => wpAny (model X.prog X.w) X.A (eval b X.env) (fun u s₂ => wpAny (model X.prog X.w) X.A (f v u) Q X.xe s₂) X.xe s₁) X.xe s := by
  refine thn (ha pins s σ H _ I h) fun v s1 ⟨x, H1, I1, r1, q1⟩ => ?_
  refine thn (hb pins s1 σ H1 _ I1 q1) fun u s2 ⟨y, H2, I2, r2, q2⟩ => ?_
  exact hf v u s2 x y H2 I2 r1 r2 q2

theorem pe_op {op : Operator} {r : R2} (ho : OpR X (binaryOp op) r) (ha : PE X a ta) (hb : PE X b tb) : PE X (.BinOp a op b pos) (tOp r ta tb) := by
  intro pins s σ H Q I h
  exact wpAny_BinOp (binT ha hb I h fun v u s2 x y H2 I2 rx ry q => ho pins s2 σ H2 x y v u Q I2 rx ry q)
theorem pe_un {op : UnaryOp} {r : V → Hp → VK → Prop} (ho : UnR X (unaryOp op) r) (ha : PE X a ta) : PE X (.UnaryOp op a pos) (tUn r ta) := by
  intro pins s σ H Q I h
  exact UnaryOp_ (thn (ha pins s σ H _ I h) fun v s1 ⟨x, H1, I1, r1, q1⟩ => ho pins s1 σ H1 x v Q I1 r1 q1)
/-- a op= e at a name: the name's slot i -/
theorem augR {op : Operator} {r : R2} (ho : OpR X (inplaceOp op) r) {pins : List (Addr × Obj)} {s : Shared} {σ : St} {H : Hp} {x y : V} {v u : Value} {Q : VK} (I : Inv X pins σ H s)
    (rx : RelV x v) (ry : RelV y u) (q : r x y H Q) : wpAny (model X.prog X.w) X.A (inplaceOp op v u) (EP X pins σ Q) X.xe s := ho pins s σ H x y v u Q I rx ry q

/-! ### ints -/
theorem opI {f : Value → Value → Sem Value} {C : Int → Int → Prop} {g : Int → Int → Int}
    (rule : ∀ (i j : Int) (t u : Tok) (s : Shared) (Q : Value → Shared → Prop) (E : Value → Shared → Prop), C i j → Q (.int (g i j) s.toks) { s with toks := s.toks + 1 } → wpAny (model X.prog X.w) X.A (f (.int i t) (.int j u)) Q E s) :
    OpR X f (rI C fun i j => .int (g i j)) := by
  intro pins s σ H x y v u Q I rx ry h
  obtain ⟨i, j, rfl, rfl, hc, q⟩ := h
  obtain ⟨t, rfl⟩ := rx
  obtain ⟨t', rfl⟩ := ry
  exact rule i j t t' s _ _ hc ⟨.int (g i j), H, I.tok _, ⟨_, rfl⟩, q⟩
theorem opI0 {f : Value → Value → Sem Value} {g : Int → Int → Int}
    (rule : ∀ (i j : Int) (t u : Tok) (s : Shared) (Q : Value → Shared → Prop) (E : Value → Shared → Prop), Q (.int (g i j) s.toks) { s with toks := s.toks + 1 } → wpAny (model X.prog X.w) X.A (f (.int i t) (.int j u)) Q E s) :
    OpR X f (rI0 fun i j => .int (g i j)) := by
  intro pins s σ H x y v u Q I rx ry h
  obtain ⟨i, j, rfl, rfl, q⟩ := h
  obtain ⟨t, rfl⟩ := rx
  obtain ⟨t', rfl⟩ := ry
  exact rule i j t t' s _ _ ⟨.int (g i j), H, I.tok _, ⟨_, rfl⟩, q⟩
theorem opB0 {f : Value → Value → Sem Value} {g : Int → Int → Bool}
    (rule : ∀ (i j : Int) (t u : Tok) (s : Shared) (Q : Value → Shared → Prop) (E : Value → Shared → Prop), Q (.bool (g i j)) s → wpAny (model X.prog X.w) X.A (f (.int i t) (.int j u)) Q E s) :
    OpR X f (rI0 fun i j => .bl (g i j)) := by
  intro pins s σ H x y v u Q I rx ry h
  obtain ⟨i, j, rfl, rfl, q⟩ := h
  obtain ⟨t, rfl⟩ := rx
  obtain ⟨t', rfl⟩ := ry
  exact rule i j t t' s _ _ ⟨.bl (g i j), H, I, rfl, q⟩

def CDiv (i j : Int) : Prop := 0 < j ∧ j < 1073741824
def CDivN (i j : Int) : Prop := j ≠ 0 ∧ j.natAbs < 1073741824
def CPow (i j : Int) : Prop := 0 ≤ j ∧ j ≤ 1000000 ∧ i.natAbs < 2 ^ 64
def CMul (i j : Int) : Prop := (-(2 ^ 64) < i ∧ i < 2 ^ 64) ∨ (-(2 ^ 64) < j ∧ j < 2 ^ 64)
theorem CMul.ok {i j : Int} (h : CMul i j) : IntMulOk i j := by
  rcases h with ⟨h1, h2⟩ | ⟨h1, h2⟩
  · exact .of_left (intBits_le_64 h1 h2)
  · exact .of_right (intBits_le_64 h1 h2)
theorem two_pow_nn (k : Nat) : (0 : Int) ≤ 2 ^ k := by
  rw [two_pow_cast]
  exact Int.natCast_nonneg _

theorem op_add : OpR X (binaryOp .Add) (rI0 fun i j => .int (i + j)) := opI0 fun _ _ _ _ _ _ _ q => add_int q
theorem op_sub : OpR X (binaryOp .Sub) (rI0 fun i j => .int (i - j)) := opI0 fun _ _ _ _ _ _ _ q => sub_int q
theorem op_mul : OpR X (binaryOp .Mult) (rI CMul fun i j => .int (i * j)) := opI fun _ _ _ _ _ _ _ hc q => mul_int q hc.ok
/-- // by a positive divisor -/
theorem op_fdiv : OpR X (binaryOp .FloorDiv) (rI CDiv fun i j => .int (i / j)) := opI fun i j _ _ _ _ _ hc q => by
  have h1 : (0 : Int) < j := hc.1
  have h2 : j < 1073741824 := hc.2
  exact floordiv_int (by omega) (by rw [Int.fdiv_eq_ediv_of_nonneg i (by omega)]; exact q) (.inl (PyProof.noPylong_small (by omega)))
theorem op_fdivN : OpR X (binaryOp .FloorDiv) (rI CDivN fun i j => .int (i.fdiv j)) := opI fun _ _ _ _ _ _ _ hc q => floordiv_int hc.1 q (.inl (PyProof.noPylong_small hc.2))
/-- % by a positive divisor of any size -/
theorem op_mod : OpR X (binaryOp .Mod) (rI (fun _ j => 0 < j) fun i j => .int (i % j)) := opI fun i j _ _ _ _ _ hc q => by
  have h1 : (0 : Int) < j := hc
  exact mod_int' (by omega) (by rw [Int.fmod_eq_emod_of_nonneg i (by omega)]; exact q)
theorem op_modN : OpR X (binaryOp .Mod) (rI (fun _ j => j ≠ 0) fun i j => .int (i.fmod j)) := opI fun _ _ _ _ _ _ _ hc q => mod_int' hc q
theorem op_pow : OpR X (binaryOp .Pow) (rI CPow fun i j => .int (i ^ j.toNat)) := opI fun _ _ _ _ _ _ _ hc q => pow_int_small hc.1 hc.2.1 hc.2.2 q
theorem op_shl : OpR X (binaryOp .LShift) (rI CPow fun i j => .int (i * 2 ^ j.toNat)) := opI fun _ _ _ _ _ _ _ hc q => lshift_int_small hc.1 hc.2.1 hc.2.2 q
theorem op_shr : OpR X (binaryOp .RShift) (rI (fun _ j => 0 ≤ j) fun i j => .int (i / 2 ^ j.toNat)) := opI fun i j _ _ _ _ _ hc q =>
  rshift_int hc (by rw [Int.fdiv_eq_ediv_of_nonneg i (two_pow_nn _)]; exact q)
theorem op_and : OpR X (binaryOp .BitAnd) (rI0 fun i j => .int (Builtin.bitAnd i j)) := opI0 fun _ _ _ _ _ _ _ q => and_int q
theorem op_or : OpR X (binaryOp .BitOr) (rI0 fun i j => .int (Builtin.bitOr i j)) := opI0 fun _ _ _ _ _ _ _ q => or_int q
theorem op_xor : OpR X (binaryOp .BitXor) (rI0 fun i j => .int (Builtin.bitXor i j)) := opI0 fun _ _ _ _ _ _ _ q => xor_int q

theorem iop_add : OpR X (inplaceOp .Add) (rI0 fun i j => .int (i + j)) := opI0 fun _ _ _ _ _ _ _ q => iadd_int q
theorem iop_sub : OpR X (inplaceOp .Sub) (rI0 fun i j => .int (i - j)) := opI0 fun _ _ _ _ _ _ _ q => isub_int q
theorem iop_mul : OpR X (inplaceOp .Mult) (rI CMul fun i j => .int (i * j)) := opI fun _ _ _ _ _ _ _ hc q => imul_int q hc.ok
theorem iop_fdiv : OpR X (inplaceOp .FloorDiv) (rI CDiv fun i j => .int (i / j)) := opI fun i j _ _ _ _ _ hc q => by
  have h1 : (0 : Int) < j := hc.1
  have h2 : j < 1073741824 := hc.2
  exact ifloordiv_int (by omega) (by rw [Int.fdiv_eq_ediv_of_nonneg i (by omega)]; exact q) (.inl (PyProof.noPylong_small (by omega)))
theorem iop_mod : OpR X (inplaceOp .Mod) (rI (fun _ j => 0 < j) fun i j => .int (i % j)) := opI fun i j _ _ _ _ _ hc q => by
  have h1 : (0 : Int) < j := hc
  exact imod_int (by omega) (by rw [Int.fmod_eq_emod_of_nonneg i (by omega)]; exact q)
theorem iop_shl : OpR X (inplaceOp .LShift) (rI CPow fun i j => .int (i * 2 ^ j.toNat)) := opI fun _ _ _ _ _ _ _ hc q => ilshift_int_small hc.1 hc.2.1 hc.2.2 q
theorem iop_shr : OpR X (inplaceOp .RShift) (rI (fun _ j => 0 ≤ j) fun i j => .int (i / 2 ^ j.toNat)) := opI fun i j _ _ _ _ _ hc q =>
  irshift_int hc (by rw [Int.fdiv_eq_ediv_of_nonneg i (two_pow_nn _)]; exact q)
theorem iop_and : OpR X (inplaceOp .BitAnd) (rI0 fun i j => .int (Builtin.bitAnd i j)) := opI0 fun _ _ _ _ _ _ _ q => iand_int q
theorem iop_or : OpR X (inplaceOp .BitOr) (rI0 fun i j => .int (Builtin.bitOr i j)) := opI0 fun _ _ _ _ _ _ _ q => ior_int q
theorem iop_xor : OpR X (inplaceOp .BitXor) (rI0 fun i j => .int (Builtin.bitXor i j)) := opI0 fun _ _ _ _ _ _ _ q => ixor_int q

theorem unI {f : Value → Sem Value} {g : Int → Int}
    (rule : ∀ (i : Int) (t : Tok) (s : Shared) (Q : Value → Shared → Prop) (E : Value → Shared → Prop), Q (.int (g i) s.toks) { s with toks := s.toks + 1 } → wpAny (model X.prog X.w) X.A (f (.int i t)) Q E s) :
    UnR X f (rU fun i => .int (g i)) := by
  intro pins s σ H x v Q I rx h
  obtain ⟨i, rfl, q⟩ := h
  obtain ⟨t, rfl⟩ := rx
  exact rule i t s _ _ ⟨.int (g i), H, I.tok _, ⟨_, rfl⟩, q⟩
theorem un_neg : UnR X (unaryOp .USub) (rU fun i => .int (-i)) := unI fun _ _ _ _ _ q => neg_int q
theorem un_inv : UnR X (unaryOp .Invert) (rU fun i => .int (Builtin.bitNot i)) := unI fun _ _ _ _ _ q => invert_int q

/-! ### bools among ints: n += (a < b) -/
theorem op_add_ib : OpR X (binaryOp .Add) (fun x y H Q => ∃ i k, x = .int i ∧ y = .bl k ∧ Q (.int (i + b2i k)) H) := by
  intro pins s σ H x y v u Q I rx ry h
  obtain ⟨i, k, rfl, rfl, q⟩ := h
  obtain ⟨t, rfl⟩ := rx
  cases ry
  exact add_int_bool ⟨.int (i + b2i k), H, I.tok _, ⟨_, rfl⟩, q⟩
end

/-! ### comparisons -/
/-- the scalars that == tells apart as data does -/
def scal : V → V → Bool
  | .non, .non => true | .non, .int _ => true | .int _, .non => true | .non, .bl _ => true | .bl _, .non => true | .non, .str _ => true | .str _, .non => true
  | .int _, .int _ => true | .bl _, .bl _ => true | .str _, .str _ => true | .byt _, .byt _ => true
  | .int _, .str _ => true | .str _, .int _ => true | .bl _, .str _ => true | .str _, .bl _ => true
  | _, _ => false
def rEq : R2 := fun x y H Q => scal x y = true ∧ Q (.bl (decide (x = y))) H
def rNe : R2 := fun x y H Q => scal x y = true ∧ Q (.bl (!decide (x = y))) H

theorem dec_int {i j : Int} : decide (V.int i = V.int j) = (i == j) := by
  rw [Bool.eq_iff_iff]
  simp
theorem dec_bl {i j : Bool} : decide (V.bl i = V.bl j) = (i == j) := by
  rw [Bool.eq_iff_iff]
  simp
theorem dec_str {i j : Str} : decide (V.str i = V.str j) = (i == j) := by
  rw [Bool.eq_iff_iff]
  simp
theorem dec_byt {i j : Array UInt8} : decide (V.byt i = V.byt j) = (i.toList == j.toList) := by
  rw [Bool.eq_iff_iff]
  cases i
  cases j
  simp

section
variable {X : Cx} {a b c : Expr} {ta tb tc : TE} {pos : Pos}
theorem fin_bl {pins : List (Addr × Obj)} {σ : St} {H : Hp} {s : Shared} {Q : VK} {k k' : Bool} (I : Inv X pins σ H s) (q : Q (.bl k) H) (e : k = k') : EP X pins σ Q (.bool k') s := by
  subst e
  exact ⟨.bl k, H, I, rfl, q⟩
theorem op_eq : OpR X (compareOp .Eq) rEq := by
  intro pins s σ H x y v u Q I rx ry h
  obtain ⟨hs, q⟩ := h
  cases x with
  | non =>
    cases rx
    cases y with
    | non => cases ry; exact PySem.EqNone.eq_none_none (fin_bl I q (by simp))
    | bl j => cases ry; exact PySem.EqNone.eq_none_bool (fin_bl I q (by simp))
    | int j => obtain ⟨t', rfl⟩ := ry; exact PySem.EqNone.eq_none_int (fin_bl I q (by simp))
    | str j => obtain ⟨t', rfl⟩ := ry; exact PySem.EqNone.eq_none_str (fin_bl I q (by simp))
    | _ => exact absurd (show false = true from hs) Bool.false_ne_true
  | bl i =>
    cases rx
    cases y with
    | non => cases ry; exact PySem.EqNone.eq_bool_none (fin_bl I q (by simp))
    | bl j => cases ry; exact eq_bool (fin_bl I q dec_bl)
    | str j => obtain ⟨t', rfl⟩ := ry; exact PySem.EqMixed.eq_bool_str (fin_bl I q (by simp))
    | _ => exact absurd (show false = true from hs) Bool.false_ne_true
  | int i =>
    obtain ⟨t, rfl⟩ := rx
    cases y with
    | non => cases ry; exact PySem.EqNone.eq_int_none (fin_bl I q (by simp))
    | int j => obtain ⟨t', rfl⟩ := ry; exact eq_int (fin_bl I q dec_int)
    | str j => obtain ⟨t', rfl⟩ := ry; exact PySem.EqMixed.eq_int_str (fin_bl I q (by simp))
    | _ => exact absurd (show false = true from hs) Bool.false_ne_true
  | str i =>
    obtain ⟨t, rfl⟩ := rx
    cases y with
    | non => cases ry; exact PySem.EqNone.eq_str_none (fin_bl I q (by simp))
    | bl j => cases ry; exact PySem.EqMixed.eq_str_bool (fin_bl I q (by simp))
    | int j => obtain ⟨t', rfl⟩ := ry; exact PySem.EqMixed.eq_str_int (fin_bl I q (by simp))
    | str j => obtain ⟨t', rfl⟩ := ry; exact eq_str (fin_bl I q dec_str)
    | _ => exact absurd (show false = true from hs) Bool.false_ne_true
  | byt i =>
    obtain ⟨t, rfl⟩ := rx
    cases y with
    | byt j => obtain ⟨t', rfl⟩ := ry; exact PySem.W.eq_bytes (fin_bl I q dec_byt)
    | _ => exact absurd (show false = true from hs) Bool.false_ne_true
  | _ => cases y <;> exact absurd (show false = true from hs) Bool.false_ne_true
theorem op_ne : OpR X (compareOp .NotEq) rNe := by
  intro pins s σ H x y v u Q I rx ry h
  obtain ⟨hs, q⟩ := h
  cases x with
  | non =>
    cases rx
    cases y with
    | non => cases ry; exact PySem.EqNone.ne_none_none (fin_bl I q (by simp))
    | bl j => cases ry; exact PySem.EqNone.ne_none_bool (fin_bl I q (by simp))
    | int j => obtain ⟨t', rfl⟩ := ry; exact PySem.EqNone.ne_none_int (fin_bl I q (by simp))
    | str j => obtain ⟨t', rfl⟩ := ry; exact PySem.EqNone.ne_none_str (fin_bl I q (by simp))
    | _ => exact absurd (show false = true from hs) Bool.false_ne_true
  | bl i =>
    cases rx
    cases y with
    | non => cases ry; exact PySem.EqNone.ne_bool_none (fin_bl I q (by simp))
    | bl j => cases ry; exact ne_bool (fin_bl I q (congrArg not dec_bl))
    | str j => obtain ⟨t', rfl⟩ := ry; exact PySem.EqMixed.ne_bool_str (fin_bl I q (by simp))
    | _ => exact absurd (show false = true from hs) Bool.false_ne_true
  | int i =>
    obtain ⟨t, rfl⟩ := rx
    cases y with
    | non => cases ry; exact PySem.EqNone.ne_int_none (fin_bl I q (by simp))
    | int j => obtain ⟨t', rfl⟩ := ry; exact ne_int (fin_bl I q (congrArg not dec_int))
    | str j => obtain ⟨t', rfl⟩ := ry; exact PySem.EqMixed.ne_int_str (fin_bl I q (by simp))
    | _ => exact absurd (show false = true from hs) Bool.false_ne_true
  | str i =>
    obtain ⟨t, rfl⟩ := rx
    cases y with
    | non => cases ry; exact PySem.EqNone.ne_str_none (fin_bl I q (by simp))
    | bl j => cases ry; exact PySem.EqMixed.ne_str_bool (fin_bl I q (by simp))
    | int j => obtain ⟨t', rfl⟩ := ry; exact PySem.EqMixed.ne_str_int (fin_bl I q (by simp))
    | str j => obtain ⟨t', rfl⟩ := ry; exact ne_str (fin_bl I q (congrArg not dec_str))
    | _ => exact absurd (show false = true from hs) Bool.false_ne_true
  | byt i =>
    obtain ⟨t, rfl⟩ := rx
    cases y with
    | byt j => obtain ⟨t', rfl⟩ := ry; exact PySem.W.ne_bytes (fin_bl I q (congrArg not dec_byt))
    | _ => exact absurd (show false = true from hs) Bool.false_ne_true
  | _ => cases y <;> exact absurd (show false = true from hs) Bool.false_ne_true

theorem op_lt : OpR X (compareOp .Lt) (rI0 fun i j => .bl (decide (i < j))) := opB0 fun _ _ _ _ _ _ _ q => lt_int q
theorem op_le : OpR X (compareOp .LtE) (rI0 fun i j => .bl (decide (i ≤ j))) := opB0 fun _ _ _ _ _ _ _ q => le_int q
theorem op_gt : OpR X (compareOp .Gt) (rI0 fun i j => .bl (decide (j < i))) := opB0 fun _ _ _ _ _ _ _ q => gt_int q
theorem op_ge : OpR X (compareOp .GtE) (rI0 fun i j => .bl (decide (j ≤ i))) := opB0 fun _ _ _ _ _ _ _ q => ge_int q
theorem op_lt_str : OpR X (compareOp .Lt) (fun x y H Q => ∃ i j, x = .str i ∧ y = .str j ∧ Q (.bl (decide (i.cps.toList < j.cps.toList))) H) := by
  intro pins s σ H x y v u Q I rx ry h
  obtain ⟨i, j, rfl, rfl, q⟩ := h
  obtain ⟨t, rfl⟩ := rx
  obtain ⟨t', rfl⟩ := ry
  exact lt_str (fin_bl I q rfl)
/-- the one string within the other -/
theorem op_in_str : OpR X (compareOp .In) (fun x y H Q => ∃ i j, x = .str i ∧ y = .str j ∧ Q (.bl (!(Builtin.Str.occurrences j i 0 j.length 1).isEmpty)) H) := by
  intro pins s σ H x y v u Q I rx ry h
  obtain ⟨i, j, rfl, rfl, q⟩ := h
  obtain ⟨t, rfl⟩ := rx
  obtain ⟨t', rfl⟩ := ry
  exact in_str (fin_bl I q rfl)

/-- is None, is not None: the right side a value none -/
theorem op_isN : OpR X (compareOp .Is) (fun x y H Q => y = .non ∧ Q (.bl (decide (x = .non))) H) := by
  intro pins s σ H x y v u Q I rx ry h
  obtain ⟨rfl, q⟩ := h
  cases ry
  refine is_none_gen (fin_bl I q ?_)
  cases x <;> first
    | (cases rx; rfl)
    | (obtain ⟨t, rfl⟩ := rx; rfl)
theorem op_notN : OpR X (compareOp .IsNot) (fun x y H Q => y = .non ∧ Q (.bl (!decide (x = .non))) H) := by
  intro pins s σ H x y v u Q I rx ry h
  obtain ⟨rfl, q⟩ := h
  cases ry
  refine isnot_none_gen (fin_bl I q ?_)
  cases x <;> first
    | (cases rx; rfl)
    | (obtain ⟨t, rfl⟩ := rx; rfl)

theorem op_notin_str : OpR X (compareOp .NotIn) (fun x y H Q => ∃ i j, x = .str i ∧ y = .str j ∧ Q (.bl (!(!(Builtin.Str.occurrences j i 0 j.length 1).isEmpty))) H) := by
  intro pins s σ H x y v u Q I rx ry h
  obtain ⟨i, j, rfl, rfl, q⟩ := h
  obtain ⟨t, rfl⟩ := rx
  obtain ⟨t', rfl⟩ := ry
  exact notIn_str (fin_bl I q rfl)
/-- is, is not of two objects that are tracked lists or instances -/
def isObj : HO → Bool
  | .lst _ => true
  | .ins _ _ _ => true
  | _ => false
theorem obj_there {pins : List (Addr × Obj)} {s : Shared} {σ : St} {H : Hp} {a : Addr} {o : HO} (I : Inv X pins σ H s) (h : H a = some o) (p : isObj o = true) : ∃ ob, s.heap.get? a = some ob ∧ ob.cls ≠ .type "tuple" := by
  cases o with
  | lst xs =>
    obtain ⟨_, its, n, _, e⟩ : xs.length ≤ sizeLine ∧ ∃ (its : List Value) (n : Nat), Vals xs its ∧ s.heap.get? a = some { cls := .type "list", data := .seq its.toArray n } := I.hok a _ h
    exact ⟨_, e, (by show Value.type "list" ≠ .type "tuple"; decide +kernel)⟩
  | ins C dx fs =>
    have x := I.hok a _ h
    obtain ⟨_, _, _, e, _⟩ := x
    exact ⟨_, e, (by show Value.ref C ≠ .type "tuple"; exact fun z => by cases z)⟩
  | _ => exact absurd (show false = true from p) Bool.false_ne_true
theorem op_is_ref : OpR X (compareOp .Is) (fun x y H Q => ∃ a b oa ob, x = .ref a ∧ y = .ref b ∧ H a = some oa ∧ isObj oa = true ∧ H b = some ob ∧ isObj ob = true ∧ Q (.bl (decide (a = b))) H) := by
  intro pins s σ H x y v u Q I rx ry h
  obtain ⟨a, b, oa, ob, rfl, rfl, ha, pa, hb, pb, q⟩ := h
  cases rx
  cases ry
  obtain ⟨o1, e1, n1⟩ := obj_there I ha pa
  obtain ⟨o2, e2, _⟩ := obj_there I hb pb
  by_cases z : a = b
  · subst z
    exact wpAny_is_ref_self (fin_bl I q (by simp))
  · exact wpAny_is_ref_other z e1 e2 n1 (fin_bl I q (by simp [z]))
theorem op_isnot_ref : OpR X (compareOp .IsNot) (fun x y H Q => ∃ a b oa ob, x = .ref a ∧ y = .ref b ∧ H a = some oa ∧ isObj oa = true ∧ H b = some ob ∧ isObj ob = true ∧ Q (.bl (!decide (a = b))) H) := by
  intro pins s σ H x y v u Q I rx ry h
  obtain ⟨a, b, oa, ob, rfl, rfl, ha, pa, hb, pb, q⟩ := h
  cases rx
  cases ry
  obtain ⟨o1, e1, n1⟩ := obj_there I ha pa
  obtain ⟨o2, e2, _⟩ := obj_there I hb pb
  by_cases z : a = b
  · subst z
    exact wpAny_isNot_ref_self (fin_bl I q (by simp))
  · exact wpAny_isNot_ref_other z e1 e2 n1 (fin_bl I q (by simp [z]))

/-- two rules for one operation: by cases -/
theorem OpR.or {f : Value → Value → Sem Value} {r r' : R2} (h : OpR X f r) (h' : OpR X f r') : OpR X f (fun x y H Q => r x y H Q ∨ r' x y H Q) := by
  intro pins s σ H x y v u Q I rx ry q
  rcases q with q | q
  · exact h pins s σ H x y v u Q I rx ry q
  · exact h' pins s σ H x y v u Q I rx ry q

theorem nomark (b : Expr) {op : CmpOp} (h : op ≠ .In := by decide) (h2 : op ≠ .NotIn := by decide) : behindInMarks op b = false := by
  have e1 : (op == CmpOp.In) = false := by cases op <;> first | rfl | exact absurd rfl h
  have e2 : (op == CmpOp.NotIn) = false := by cases op <;> first | rfl | exact absurd rfl h2
  cases b <;> simp [behindInMarks, e1, e2]
/-- a comparison as a value; hm: nomark b, or (for in, not in) by with_unfolding_all rfl -/
theorem pe_cmpR {op : CmpOp} {r : R2} (ho : OpR X (compareOp op) r) (ha : PE X a ta) (hb : PE X b tb) (hm : behindInMarks op b = false) : PE X (.Compare a [op] [b] pos) (tOp r ta tb) := by
  intro pins s σ H Q I h
  exact wpAny_Compare1 (binT ha hb I h fun v u s2 x y H2 I2 rx ry q => ho pins s2 σ H2 x y v u Q I2 rx ry q) hm
/-- a reading of a value as a test -/
def tTest (t : TE) : TT := fun σ H Q => t σ H fun x H' => ∃ k, x = .bl k ∧ Q k H'
theorem pt_cmpR {op : CmpOp} {r : R2} (ho : OpR X (compareOp op) r) (ha : PE X a ta) (hb : PE X b tb) (hm : behindInMarks op b = false) : PT X (.Compare a [op] [b] pos) (tTest (tOp r ta tb)) := by
  intro pins s σ H Q I h
  refine wpAny_isTrue_Compare1 (thn (ha pins s σ H _ I h) fun v s1 ⟨x, H1, I1, r1, q1⟩ => thn (hb pins s1 σ H1 _ I1 q1) fun u s2 ⟨y, H2, I2, r2, q2⟩ =>
    thn (ho pins s2 σ H2 x y v u _ I2 r1 r2 q2) fun c s3 ⟨z, H3, I3, r3, k, e, q3⟩ => ?_) hm
  subst e
  cases r3
  exact wpAny_truthy_bool ⟨H3, I3, q3⟩
/-- a op1 b op2 c -/
def tChain (r r' : R2) (ta tb tc : TE) : TE := fun σ H Q => ta σ H fun x H1 => tb σ H1 fun y H2 => r x y H2 fun z H3 => ∃ k, z = .bl k ∧
  (if k = true then tc σ H3 fun w' H4 => r' y w' H4 Q else Q (.bl false) H3)
theorem pe_chain {op op' : CmpOp} {r r' : R2} (ho : OpR X (compareOp op) r) (ho' : OpR X (compareOp op') r') (ha : PE X a ta) (hb : PE X b tb) (hc : PE X c tc)
    (hm : lastMarks [op, op'] [b, c] = false := by with_unfolding_all rfl) : PE X (.Compare a [op, op'] [b, c] pos) (tChain r r' ta tb tc) := by
  intro pins s σ H Q I h
  refine Compare_chain (thn (ha pins s σ H _ I h) fun v s1 ⟨x, H1, I1, r1, q1⟩ => chain_link (thn (hb pins s1 σ H1 _ I1 q1) fun u s2 ⟨y, H2, I2, r2, q2⟩ =>
    thn (ho pins s2 σ H2 x y v u _ I2 r1 r2 q2) fun d s3 ⟨z, H3, I3, r3, k, e, q3⟩ => ?_)) hm
  subst e
  cases r3
  refine wpAny_truthy_bool ?_
  cases k with
  | false => exact ite_ff ⟨.bl false, H3, I3, rfl, q3⟩
  | true => exact ite_tt (chain_last (thn (hc pins s3 σ H3 _ I3 q3) fun w' s4 ⟨z', H4, I4, r4, q4⟩ => ho' pins s4 σ H4 y z' u w' Q I4 r2 r4 q4))
theorem pt_chain {op op' : CmpOp} {r r' : R2} (ho : OpR X (compareOp op) r) (ho' : OpR X (compareOp op') r') (ha : PE X a ta) (hb : PE X b tb) (hc : PE X c tc)
    (hm : lastMarks [op, op'] [b, c] = false := by with_unfolding_all rfl) : PT X (.Compare a [op, op'] [b, c] pos) (tTest (tChain r r' ta tb tc)) := by
  intro pins s σ H Q I h
  refine isTrue_chain (thn (ha pins s σ H _ I h) fun v s1 ⟨x, H1, I1, r1, q1⟩ => test_link (thn (hb pins s1 σ H1 _ I1 q1) fun u s2 ⟨y, H2, I2, r2, q2⟩ =>
    thn (ho pins s2 σ H2 x y v u _ I2 r1 r2 q2) fun d s3 ⟨z, H3, I3, r3, k, e, q3⟩ => ?_)) hm
  subst e
  cases r3
  refine wpAny_truthy_bool ?_
  cases k with
  | false =>
    obtain ⟨k', e', q'⟩ := q3
    cases e'
    exact ite_ff ⟨H3, I3, q'⟩
  | true =>
    refine ite_tt (test_last (thn (hc pins s3 σ H3 _ I3 q3) fun w' s4 ⟨z', H4, I4, r4, q4⟩ => thn (ho' pins s4 σ H4 y z' u w' _ I4 r2 r4 q4) fun d' s5 ⟨z2, H5, I5, r5, k2, e2, q5⟩ => ?_))
    subst e2
    cases r5
    exact wpAny_truthy_bool ⟨H5, I5, q5⟩

/-! ### truth -/
/-- a value's truth by the abstract heap -/
def TruV (K : PySem.W.Frag) (x : V) (H : Hp) (k : Bool) : Prop :=
  match x with
  | .non => k = false
  | .bl b => k = b
  | .int i => k = (i != 0)
  | .str y => y.length ≤ sizeLine ∧ k = ((y.length : Int) != 0)
  | .byt y => y.size ≤ sizeLine ∧ k = ((y.size : Int) != 0)
  | .ref p => (∃ xs, SqL K H p xs ∧ k = !xs.isEmpty) ∨ (∃ xs, SqT K H p xs ∧ k = !xs.isEmpty) ∨ ∃ kvs, H p = some (.dK kvs) ∧ k = !kvs.isEmpty
  | _ => False
theorem isEmpty_kv {κ : Type} {kvs : List (κ × V)} {vs : List (κ × Value)} (r : KV kvs vs) : (!vs.isEmpty) = !kvs.isEmpty := by
  cases r <;> rfl
theorem isEmpty_of {xs : List V} {its : List Value} (r : Vals xs its) : (!its.toArray.isEmpty) = !xs.isEmpty := by
  cases r <;> simp
theorem line63 : (sizeLine : Nat) < 2 ^ 63 := by rw [sizeLine_eq]; decide
theorem tru_ok : TruR X (fun x H Q => ∃ k, TruV X.K x H k ∧ Q k H) := by
  intro pins s σ H x v Q I rx h
  obtain ⟨k, e, q⟩ := h
  have hl := line63
  have hs : sizeLine = 16777216 := sizeLine_eq
  cases x with
  | non =>
    cases rx
    have e' : k = false := e
    subst e'
    exact truthy_none ⟨H, I, q⟩
  | bl b =>
    cases rx
    have e' : k = b := e
    subst e'
    exact wpAny_truthy_bool ⟨H, I, q⟩
  | int i =>
    obtain ⟨t, rfl⟩ := rx
    have e' : k = (i != 0) := e
    subst e'
    exact PySem.P.truthy_int ⟨H, I, q⟩
  | str y =>
    obtain ⟨t, rfl⟩ := rx
    obtain ⟨hy, e'⟩ : y.length ≤ sizeLine ∧ k = ((y.length : Int) != 0) := e
    subst e'
    exact PySem.P.truthy_str (by omega) ⟨H, I.tok _, q⟩
  | byt y =>
    obtain ⟨t, rfl⟩ := rx
    obtain ⟨hy, e'⟩ : y.size ≤ sizeLine ∧ k = ((y.size : Int) != 0) := e
    subst e'
    exact PySem.W.truthy_bytes (by omega) ⟨H, I.tok _, q⟩
  | ref p =>
    cases rx
    have e' : (∃ xs, SqL X.K H p xs ∧ k = !xs.isEmpty) ∨ (∃ xs, SqT X.K H p xs ∧ k = !xs.isEmpty) ∨ ∃ kvs, H p = some (.dK kvs) ∧ k = !kvs.isEmpty := e
    rcases e' with ⟨xs, hx, e'⟩ | ⟨xs, hx, e'⟩ | ⟨kvs, hx, e'⟩
    · subst e'
      obtain ⟨its, r, pl, hz⟩ := I.list hx
      have hlen := r.length
      exact wpAny_truthy_list pl.isList (by simp only [List.size_toArray]; omega) ⟨H, I.tok _, by rw [isEmpty_of r]; exact q⟩
    · subst e'
      obtain ⟨its, r, pl, hz⟩ := I.tuple hx
      have hlen := r.length
      exact truthy_tuple pl (by simp only [List.size_toArray]; omega) ⟨H, I.tok _, by rw [isEmpty_of r]; exact q⟩
    · subst e'
      obtain ⟨hz, hS, vs, r, m⟩ : kvs.length ≤ sizeLine ∧ (p == sysModules) = false ∧ ∃ vs, KV kvs vs ∧ s.heap.DictOf (mixKind X.prog X.w) p vs := I.hok p _ hx
      have hlen : kvs.length = vs.length := Paired.length r
      exact wpAny_truthy_dict hS m (by omega) ⟨H, I.tok _, by rw [isEmpty_kv r]; exact q⟩
  | _ => exact (show False from e).elim
/-- any expression whose test is its value's truth (a name, a call, a subscript, a field ..: he by fun _ => rfl) -/
theorem pt_truth (ha : PE X a ta) (he : ∀ whole, isTrue a X.env whole = (do let v ← whole; standAt a.pos; holding [v] (truthy v))) :
    PT X a (fun σ H Q => ta σ H fun x H' => ∃ k, TruV X.K x H' k ∧ Q k H') := by
  intro pins s σ H Q I h
  exact isTrue_plain (thn (ha pins s σ H _ I h) fun v s1 ⟨x, H1, I1, r1, q1⟩ => tru_ok pins s1 σ H1 x v Q I1 r1 q1) (he _)

/-! ### strs and bytes -/
theorem pe_byt {x : List UInt8} {k : Nat} : PE X (.Constant (.bytes x) k pos) (fun _ H Q => Q (.byt x.toArray) H) := fun _ _ _ H _ I h => PySem.W.Constant_bytes ⟨.byt x.toArray, H, I.tok _, ⟨_, rfl⟩, h⟩
theorem op_add_str : OpR X (binaryOp .Add) (fun x y H Q => ∃ i j, x = .str i ∧ y = .str j ∧ i.length + j.length ≤ sizeLine ∧ Q (.str (i ++ j)) H) := by
  intro pins s σ H x y v u Q I rx ry h
  obtain ⟨i, j, rfl, rfl, hz, q⟩ := h
  obtain ⟨t, rfl⟩ := rx
  obtain ⟨t', rfl⟩ := ry
  exact add_str (fun t' tk => ⟨.str (i ++ j), H, I.tok _, ⟨_, rfl⟩, q⟩) hz
theorem iop_add_str : OpR X (inplaceOp .Add) (fun x y H Q => ∃ i j, x = .str i ∧ y = .str j ∧ i.length + j.length ≤ sizeLine ∧ Q (.str (i ++ j)) H) := by
  intro pins s σ H x y v u Q I rx ry h
  obtain ⟨i, j, rfl, rfl, hz, q⟩ := h
  obtain ⟨t, rfl⟩ := rx
  obtain ⟨t', rfl⟩ := ry
  exact iadd_str (fun t' tk => ⟨.str (i ++ j), H, I.tok _, ⟨_, rfl⟩, q⟩) hz
theorem op_add_byt : OpR X (binaryOp .Add) (fun x y H Q => ∃ i j, x = .byt i ∧ y = .byt j ∧ i.size + j.size ≤ 16777216 ∧ Q (.byt (i ++ j)) H) := by
  intro pins s σ H x y v u Q I rx ry h
  obtain ⟨i, j, rfl, rfl, hz, q⟩ := h
  obtain ⟨t, rfl⟩ := rx
  obtain ⟨t', rfl⟩ := ry
  exact PySem.W.KBy.add_bytes hz (fun t' tk => ⟨.byt (i ++ j), H, I.tok _, ⟨_, rfl⟩, q⟩)

def PlainIxT (b : Expr) : Prop := ∀ o i, subscripted b false o i = operate [o, i] (getItem o i)
/-- s[i], 0 ≤ i < len -/
theorem pe_item_str (ha : PE X a ta) (hb : PE X b tb) (hs : PlainIxT b) :
    PE X (.Subscript a b pos) (tOp (fun x y H Q => ∃ z i c, x = .str z ∧ y = .int i ∧ 0 ≤ i ∧ i < 2 ^ 63 ∧ i < z.length ∧ z.cps[i.toNat]? = some c ∧ Q (.str ⟨#[c]⟩) H) ta tb) := by
  intro pins s σ H Q I h
  refine Subscript_ (binT ha hb I h fun v u s2 x y H2 I2 rx ry q => ?_)
  obtain ⟨z, i, c, rfl, rfl, h0, h63, h1, hc, q⟩ := q
  obtain ⟨t, rfl⟩ := rx
  obtain ⟨t', rfl⟩ := ry
  have e : seqIndex? i z.length = some i.toNat := PySem.StrLaws.seqIndex_nonneg h0 h1
  exact tail_any (typeIs_str s2 z t) slot_str_getitem.lookup (getItem_str (c := c) (by
    have e1 : decide (i < -(2 ^ 63 : Int)) = false := decide_eq_false (by omega)
    have e2 : decide (i ≥ 2 ^ 63) = false := decide_eq_false (by omega)
    rw [e1, e2] <;> rfl) (by rw [e]; exact hc) ⟨.str ⟨#[c]⟩, H2, I2.tok _, ⟨_, rfl⟩, q⟩) (hs _ _)
/-- b[i], 0 ≤ i < len -/
theorem pe_item_byt (ha : PE X a ta) (hb : PE X b tb) (hs : PlainIxT b) :
    PE X (.Subscript a b pos) (tOp (fun x y H Q => ∃ (z : List UInt8) (i : Int), x = .byt z.toArray ∧ y = .int i ∧ z.length ≤ sizeLine ∧ 0 ≤ i ∧ i < z.length ∧ Q (.int ((z.getD i.toNat 0).toNat : Nat)) H) ta tb) := by
  intro pins s σ H Q I h
  refine Subscript_ (binT ha hb I h fun v u s2 x y H2 I2 rx ry q => ?_)
  obtain ⟨z, i, rfl, rfl, hz, h0, h1, q⟩ := q
  obtain ⟨t, rfl⟩ := rx
  obtain ⟨t', rfl⟩ := ry
  have hl : sizeLine = 16777216 := sizeLine_eq
  exact tail_any (PySem.W.typeIs_bytes s2 z.toArray t) PySem.W.FB.slot_bytes_getitem.lookup (PySem.W.getItem_bytes (by omega) h0 h1 ⟨.int ((z.getD i.toNat 0).toNat : Nat), H2, I2.tok _, ⟨_, rfl⟩, q⟩) (hs _ _)

/-! ### scalar builtins, by CallR -/
theorem vals1 {x : V} {us : List Value} (r : Vals [x] us) : ∃ u, us = [u] ∧ RelV x u := by
  cases r with
  | cons r1 r2 => cases r2; exact ⟨_, rfl, r1⟩
theorem vals2 {x y : V} {us : List Value} (r : Vals [x, y] us) : ∃ u w', us = [u, w'] ∧ RelV x u ∧ RelV y w' := by
  cases r with
  | cons r1 r2 =>
    cases r2 with
    | cons r3 r4 => cases r4; exact ⟨_, _, rfl, r1, r3⟩
theorem call_abs : CallR X (.builtin "abs") (fun xs H Q => ∃ i, xs = [.int i] ∧ Q (.int (if i < 0 then -i else i)) H) := by
  intro pins s σ H xs us Q I r h
  obtain ⟨i, rfl, q⟩ := h
  obtain ⟨u, rfl, t, rfl⟩ := vals1 r
  exact call_abs_int fun u tk => ⟨.int (if i < 0 then -i else i), H, I.tok _, ⟨_, rfl⟩, q⟩
theorem call_max2 (hc : X.calm = true) : CallR X (.builtin "max") (fun xs H Q => ∃ i j, xs = [.int i, .int j] ∧ Q (.int (if j > i then j else i)) H) := by
  intro pins s σ H xs us Q I r h
  obtain ⟨i, j, rfl, q⟩ := h
  obtain ⟨u, w', rfl, ⟨t, rfl⟩, ⟨t', rfl⟩⟩ := vals2 r
  refine max_two_ints (I.ok.hd hc) fun h' tk k => ⟨_, H, I.kept k, ?_, q⟩
  by_cases hj : j > i
  · rw [if_pos hj, if_pos hj]; exact ⟨_, rfl⟩
  · rw [if_neg hj, if_neg hj]; exact ⟨_, rfl⟩
theorem call_min2 (hc : X.calm = true) : CallR X (.builtin "min") (fun xs H Q => ∃ i j, xs = [.int i, .int j] ∧ Q (.int (if j < i then j else i)) H) := by
  intro pins s σ H xs us Q I r h
  obtain ⟨i, j, rfl, q⟩ := h
  obtain ⟨u, w', rfl, ⟨t, rfl⟩, ⟨t', rfl⟩⟩ := vals2 r
  refine min_two_ints (I.ok.hd hc) fun h' tk k => ⟨_, H, I.kept k, ?_, q⟩
  by_cases hj : j < i
  · rw [if_pos hj, if_pos hj]; exact ⟨_, rfl⟩
  · rw [if_neg hj, if_neg hj]; exact ⟨_, rfl⟩
theorem call_int1 : CallR X (.type "int") (fun xs H Q => (∃ i, xs = [.int i] ∧ Q (.int i) H) ∨ ∃ k, xs = [.bl k] ∧ Q (.int (if k then 1 else 0)) H) := by
  intro pins s σ H xs us Q I r h
  rcases h with ⟨i, rfl, q⟩ | ⟨k, rfl, q⟩
  · obtain ⟨u, rfl, t, rfl⟩ := vals1 r
    exact call_int_int ⟨.int i, H, I, ⟨_, rfl⟩, q⟩
  · obtain ⟨u, rfl, r1⟩ := vals1 r
    cases r1
    exact call_int_bool ⟨.int (if k then 1 else 0), H, I.tok _, ⟨_, rfl⟩, q⟩
theorem call_bool1 : CallR X (.type "bool") (fun xs H Q => (∃ i, xs = [.int i] ∧ Q (.bl (i != 0)) H) ∨ ∃ k, xs = [.bl k] ∧ Q (.bl k) H) := by
  intro pins s σ H xs us Q I r h
  rcases h with ⟨i, rfl, q⟩ | ⟨k, rfl, q⟩
  · obtain ⟨u, rfl, t, rfl⟩ := vals1 r
    exact call_bool_int ⟨.bl (i != 0), H, I, rfl, q⟩
  · obtain ⟨u, rfl, r1⟩ := vals1 r
    cases r1
    exact call_bool_bool ⟨.bl k, H, I, rfl, q⟩
theorem call_str_int : CallR X (.type "str") (fun xs H Q => ∃ i, xs = [.int i] ∧ i.natAbs.log2 < 1920 ∧ Q (.str (toString i)) H) := by
  intro pins s σ H xs us Q I r h
  obtain ⟨i, rfl, hz, q⟩ := h
  obtain ⟨u, rfl, t, rfl⟩ := vals1 r
  exact PySem.P.str_of_int hz ⟨.str _, H, I.tok _, ⟨_, rfl⟩, q⟩
theorem call_ord : CallR X (.builtin "ord") (fun xs H Q => ∃ x, xs = [.str x] ∧ x.length = 1 ∧ Q (.int (x.cps.getD 0 0 : Nat)) H) := by
  intro pins s σ H xs us Q I r h
  obtain ⟨x, rfl, hz, q⟩ := h
  obtain ⟨u, rfl, t, rfl⟩ := vals1 r
  exact ord_of_one hz ⟨.int _, H, I.tok _, ⟨_, rfl⟩, q⟩
theorem call_chr : CallR X (.builtin "chr") (fun xs H Q => ∃ i, xs = [.int i] ∧ 0 ≤ i ∧ i ≤ 1114111 ∧ Q (.str ⟨#[i.toNat]⟩) H) := by
  intro pins s σ H xs us Q I r h
  obtain ⟨i, rfl, h0, h1, q⟩ := h
  obtain ⟨u, rfl, t, rfl⟩ := vals1 r
  exact chr_of_range h0 h1 ⟨.str _, H, I.tok _, ⟨_, rfl⟩, q⟩
/-- len of a str, a bytes, a list, a tuple -/
def LenV (K : PySem.W.Frag) (x : V) (H : Hp) (n : Nat) : Prop :=
  match x with
  | .str y => y.length ≤ sizeLine ∧ n = y.length
  | .byt y => y.size ≤ sizeLine ∧ n = y.size
  | .ref p => (∃ xs, SqL K H p xs ∧ n = xs.length) ∨ ∃ xs, SqT K H p xs ∧ n = xs.length
  | _ => False
theorem call_len : CallR X (.builtin "len") (fun xs H Q => ∃ x n, xs = [x] ∧ LenV X.K x H n ∧ Q (.int n) H) := by
  intro pins s σ H xs us Q I r h
  obtain ⟨x, n, rfl, e, q⟩ := h
  obtain ⟨u, rfl, rx⟩ := vals1 r
  have hl := line63
  have hs : sizeLine = 16777216 := sizeLine_eq
  cases x with
  | str y =>
    obtain ⟨t, rfl⟩ := rx
    obtain ⟨hy, e'⟩ : y.length ≤ sizeLine ∧ n = y.length := e
    subst e'
    exact len_str (by omega) ⟨.int _, H, I.tok _, ⟨_, rfl⟩, q⟩
  | byt y =>
    obtain ⟨t, rfl⟩ := rx
    obtain ⟨hy, e'⟩ : y.size ≤ sizeLine ∧ n = y.size := e
    subst e'
    exact PySem.W.len_bytes (by omega) ⟨.int _, H, I.tok _, ⟨_, rfl⟩, q⟩
  | ref p =>
    cases rx
    have e' : (∃ xs, SqL X.K H p xs ∧ n = xs.length) ∨ ∃ xs, SqT X.K H p xs ∧ n = xs.length := e
    rcases e' with ⟨xs, hx, e'⟩ | ⟨xs, hx, e'⟩
    · subst e'
      obtain ⟨its, r', pl, hz⟩ := I.list hx
      have hlen := r'.length
      exact Calls.call_len_list pl.isList (by simp only [List.size_toArray]; omega) ⟨.int xs.length, H, I.tok _, ⟨_, by simp only [List.size_toArray]; rw [hlen]⟩, q⟩
    · subst e'
      obtain ⟨its, r', pl, hz⟩ := I.tuple hx
      have hlen := r'.length
      exact len_tuple pl (by simp only [List.size_toArray]; omega) ⟨.int xs.length, H, I.tok _, ⟨_, by simp only [List.size_toArray]; rw [hlen]⟩, q⟩
  | _ => exact (show False from e).elim
/-- divmod: a new tuple -/
theorem call_divmod : CallR X (.builtin "divmod") (fun xs H Q => ∃ i j, xs = [.int i, .int j] ∧ CDiv i j ∧ ∀ p, H p = none → Q (.ref p) (upd H p (.tup [.int (i / j), .int (i % j)]))) := by
  intro pins s σ H xs us Q I r h
  obtain ⟨i, j, rfl, ⟨h1, h2⟩, q⟩ := h
  obtain ⟨u, w', rfl, ⟨t, rfl⟩, ⟨t', rfl⟩⟩ := vals2 r
  refine divmod_int (by omega) ?_ (.inl (PyProof.noPylong_small (by omega)))
  rw [Int.fdiv_eq_ediv_of_nonneg i (by omega), Int.fmod_eq_emod_of_nonneg i (by omega)]
  have hn : H s.heap.objs.size = none := I.hok.fresh (Nat.le_refl _)
  refine ⟨.ref s.heap.objs.size, _, ?_, rfl, q _ hn⟩
  refine I.laid (fun b o e => Heap.get?_push_of_some _ e) (Nat.le_refl _) ⟨by simp only [List.length_cons, List.length_nil]; rw [sizeLine_eq]; decide, [.int (i / j) s.toks, .int (i % j) (s.toks + 1)], .cons ⟨_, rfl⟩ (.cons ⟨_, rfl⟩ .nil), ?_⟩
  exact ⟨_, Heap.get?_push_size s.heap rfl, rfl, 0, rfl⟩
end
end L2

namespace L2
open PySem PySem.Spec PyProof.Rows

/-! ### an instance, its attributes a map -/
structure ObjM (h : Heap) (x dx C : Addr) (mA : Str → Option Value) : Prop where
  obj : h.get? x = some (PySem.W.instObj C dx)
  ns : h.Ns1 dx mA
  ne : dx ≠ x

theorem lookIn_ns {h : Heap} {dx : Addr} {mA : Str → Option Value} (n : h.Ns1 dx mA) : ∃ od, h.get? dx = some od ∧ ∀ name, PySem.W.lookIn name od = some (mA name) := by
  obtain ⟨o, es, ep, ho, hd, hk, _, hm⟩ := n
  refine ⟨o, ho, fun name => ?_⟩
  have e := hm name
  unfold nsFind findBy at e
  rw [← Array.find?_toList] at e
  unfold PySem.W.lookIn
  rw [hd]
  dsimp only
  split
  · rename_i y q
    rw [q] at e
    exact congrArg some e
  · rename_i q
    rw [q] at e
    have a : es.toList.any (·.refKey) = false := by
      rw [List.any_eq_false]
      intro y hy
      obtain ⟨z, t, hkey⟩ := hk y (Array.mem_toList_iff.mp hy)
      simp [DictEntry.refKey, hkey]
    have a' : ¬ es.toList.any (·.refKey) = true := by rw [a]; exact Bool.false_ne_true
    rw [if_neg a']
    exact congrArg some e

theorem ObjM.look {h : Heap} {x dx C : Addr} {mA : Str → Option Value} (I : ObjM h x dx C mA) : ∃ od, PySem.W.InstAt h x (PySem.W.instObj C dx) C (some od) ∧ ∀ name, PySem.W.lookIn name od = some (mA name) :=
  let ⟨od, ho, hl⟩ := lookIn_ns I.ns
  ⟨od, ⟨I.obj, rfl, rfl, ho⟩, hl⟩

section
variable {prog : Program} {w : World} {A : Around} {E : Value → Shared → Prop} {s : Shared} {K : PySem.W.Frag} {x dx C f : Addr} {mA : Str → Option Value} {name : Str} {v : Value}

theorem get_map {expr : Bool} {Q : Value → Shared → Prop} (X : K.In s.heap) (I : ObjM s.heap x dx C mA) (hg : PySem.W.plainGet K C name = true) (hh : PySem.W.hasDictIn K C = true)
    (ha : PySem.W.findIn K (.ref C) name = some none) (hv : mA name = some v) (hv' : PySem.W.handedIn v = true) (h : Q v { s with toks := s.toks + 1 }) :
    wpAny (model prog w) A (getAttr (.ref x) name expr) Q E s := by
  obtain ⟨od, J, hl⟩ := I.look
  exact PySem.W.get_value X J (PySem.W.plainGet_of hg).1 (PySem.W.findObj_own hh ha rfl (by rw [hl, hv])) hv' h

theorem get_const {expr : Bool} {a : Value} {Q : Value → Shared → Prop} (X : K.In s.heap) (I : ObjM s.heap x dx C mA) (hg : PySem.W.plainGet K C name = true) (hh : PySem.W.hasDictIn K C = true)
    (ha : PySem.W.findIn K (.ref C) name = some (some a)) (hn : PySem.W.specialIn K a "__get__" = some none) (hc : PySem.W.copiedNames.contains name = false) (hv : mA name = none) (hv' : PySem.W.handedIn a = true)
    (h : Q a { s with toks := s.toks + 1 }) : wpAny (model prog w) A (getAttr (.ref x) name expr) Q E s := by
  obtain ⟨od, J, hl⟩ := I.look
  exact PySem.W.get_value X J (PySem.W.plainGet_of hg).1 (PySem.W.findObj_cls hh ha hn hv' hc (by rw [hl, hv])) hv' h

theorem get_meth {pl : Sem Bool} {Q : Value × List Value → Shared → Prop} (X : K.In s.heap) (I : ObjM s.heap x dx C mA) (hg : PySem.W.plainGet K C name = true)
    (hf : PySem.W.findIn K (.ref C) name = some (some (.ref f))) (ht : PySem.W.isFn K (.ref f) = true) (hv : mA name = none) (h : Q (.ref f, [.ref x]) s) :
    wpAny (model prog w) A (getMethod (.ref x) name pl) Q E s := by
  obtain ⟨od, J, hl⟩ := I.look
  exact PySem.W.method_fn X J (PySem.W.plainGet_of hg).1 (PySem.W.plainGet_of hg).2 hf (beq_iff_eq.mp ht) (by show (PySem.W.lookIn name od).map (·.isSome) = some false; rw [hl, hv]; rfl) h

theorem set_map {ns : List Str} {Q : Unit → Shared → Prop} (X : K.In s.heap) (I : ObjM s.heap x dx C mA)
    (hs : PySem.W.findIn K (.ref C) "__setattr__" = some (some (.builtin "object.__setattr__"))) (hp : PySem.W.plainOver K C = true) (ht : PySem.W.takerIn K C name = some none) (hh : PySem.W.hasDictIn K C = true)
    (hw : PySem.Within mA ns) (hsz : ns.length ≤ sizeLine)
    (h : ∀ h', ObjM h' x dx C (fun y => if y = name then some v else mA y) → Heap.SameBut dx s.heap h' → Q () { s with heap := h', toks := s.toks + 2 }) :
    wpAny (model prog w) A (setAttr (.ref x) name v) Q E s := by
  obtain ⟨od, J, hl⟩ := I.look
  refine PySem.W.set_plain X J hs (PySem.W.osa_open (s := { s with toks := s.toks + 1 }) (r := none) X J hp ht fun b => ?_)
  obtain ⟨cd, hc, hd'⟩ := PySem.W.any_some hh
  have hx : s.heap.get? x = some ⟨.ref C, some dx, .plain, #[]⟩ := I.obj
  refine wpAny_bind (wpAny_pure (wpAny_bind (wpAny_bind (wpAny_loadPart hx (wpAny_bind (PySem.W.Looks.here (s := { s with toks := s.toks + 1 }) (PySem.W.looks_clsIn X hc) ?_))))))
  rw [hd']
  refine wpAny_pure (a := some dx) (wpAny_bind (wpAny_pure (wpAny_bind ?_)))
  refine wpAny_nsSet1 (s := { s with toks := s.toks + 1 }) I.ns fun h' hn2 hs2 => ?_
  obtain ⟨oD, esD, epD, hoD, hdD, hcD⟩ := hn2.count (PySem.Within.cons name v hw)
  refine wpAny_bind (wpAny_lookBehind hoD (by rw [hdD]; exact pastItsLine_dict (Nat.le_trans hcD (by rw [List.length_cons]; omega))) ?_)
  exact wpAny_pure (h _ ⟨(hs2.2 _ (Ne.symm I.ne)).trans I.obj, hn2, I.ne⟩ hs2)

/-- C(..): the dict at the heap's end, the instance behind it; then its __init__ -/
theorem make_map {R : Result → Shared → Prop} {vs : List Value} {kw : List (Str × Value)} (X : K.In s.heap) (hm : PySem.W.makesIn K C = true)
    (hi : PySem.W.findIn K (.ref C) "__init__" = some (some (.ref f))) (hf : PySem.W.typeIn K (.ref f) = some (.type "function"))
    (h : codeAny (model prog w) (A.under (.builtin "type.__call__" ⟨.ref C :: vs, kw⟩)) (.call (.ref f) ⟨.ref (s.heap.objs.size + 1) :: vs, kw⟩) (PySem.W.InitBack (s.heap.objs.size + 1) R)
      { s with heap := (s.heap.push PySem.W.emptyDict).push (PySem.W.instObj C s.heap.objs.size) }) :
    codeAny (model prog w) A (.call (.ref C) ⟨vs, kw⟩) R s := by
  obtain ⟨hh, g, d, t, os⟩ := s
  exact PySem.W.make_core (PySem.W.makes_of X hm) (PySem.W.looks_findIn X hi) (fun self => PySem.W.bind_fn X self hf) (.inl rfl) h
/-- C() where there is no __init__ but object's -/
theorem make_map0 {R : Result → Shared → Prop} (X : K.In s.heap) (hm : PySem.W.makesIn K C = true)
    (hi : PySem.W.findIn K (.ref C) "__init__" = some (some (.builtin "object.__init__")))
    (hb : ∀ self, PySem.W.Looks (model prog w) s.heap (bindSpecial (.builtin "object.__init__") self) (.builtin "object.__init__", [self]))
    (h : codeAny (model prog w) (A.under (.builtin "type.__call__" ⟨[.ref C], []⟩)) (.call (.builtin "object.__init__") ⟨[.ref (s.heap.objs.size + 1)], []⟩) (PySem.W.InitBack (s.heap.objs.size + 1) R)
      { s with heap := (s.heap.push PySem.W.emptyDict).push (PySem.W.instObj C s.heap.objs.size) }) :
    codeAny (model prog w) A (.call (.ref C) ⟨[], []⟩) R s := by
  obtain ⟨hh, g, d, t, os⟩ := s
  exact PySem.W.make_core (PySem.W.makes_of X hm) (PySem.W.looks_findIn X hi) hb (.inr ⟨rfl, rfl⟩) h
end

/-! ### the attributes as a list of pairs -/
def putF (f : Str) (v : V) : List (Str × V) → List (Str × V)
  | [] => [(f, v)]
  | (g, x) :: r => if g = f then (g, v) :: r else (g, x) :: putF f v r
theorem lookup_putF (f g : Str) (v : V) : ∀ fs : List (Str × V), (putF f v fs).lookup g = if g = f then some v else fs.lookup g
  | [] => by
    show List.lookup g [(f, v)] = _
    by_cases h : g = f
    · have hb : (g == f) = true := beq_iff_eq.mpr h
      simp only [List.lookup, hb, if_pos h]
    · have hb : (g == f) = false := beq_eq_false_iff_ne.mpr h
      simp only [List.lookup, hb, if_neg h]
  | (k, x) :: r => by
    have ih := lookup_putF f g v r
    rw [show putF f v ((k, x) :: r) = (if k = f then (k, v) :: r else (k, x) :: putF f v r) from rfl]
    by_cases hk : k = f
    · rw [if_pos hk]
      by_cases h : g = k
      · have hb : (g == k) = true := beq_iff_eq.mpr h
        simp only [List.lookup, hb, if_pos (h.trans hk)]
      · have hb : (g == k) = false := beq_eq_false_iff_ne.mpr h
        simp only [List.lookup, hb, if_neg (fun e : g = f => h (e.trans hk.symm))]
    · rw [if_neg hk]
      by_cases h : g = k
      · have hb : (g == k) = true := beq_iff_eq.mpr h
        simp only [List.lookup, hb, if_neg (fun e : g = f => hk (h.symm.trans e))]
      · have hb : (g == k) = false := beq_eq_false_iff_ne.mpr h
        simp only [List.lookup, hb]
        exact ih
theorem keys_putF (f : Str) (v : V) : ∀ fs : List (Str × V), f ∈ (putF f v fs).map (·.1) ∧ ∀ g, g ∈ fs.map (·.1) → g ∈ (putF f v fs).map (·.1)
  | [] => ⟨by simp [putF], fun g h => by simp at h⟩
  | (k, x) :: r => by
    obtain ⟨i1, i2⟩ := keys_putF f v r
    rw [show putF f v ((k, x) :: r) = (if k = f then (k, v) :: r else (k, x) :: putF f v r) from rfl]
    by_cases hk : k = f
    · rw [if_pos hk]
      subst hk
      exact ⟨by simp, fun g h => by simpa using h⟩
    · rw [if_neg hk]
      refine ⟨?_, fun g h => ?_⟩
      · rw [List.map_cons]
        exact List.mem_cons_of_mem _ i1
      · rw [List.map_cons] at h ⊢
        rcases List.mem_cons.mp h with e | e
        · exact List.mem_cons.mpr (.inl e)
        · exact List.mem_cons_of_mem _ (i2 g e)
theorem length_putF (f : Str) (v : V) : ∀ fs : List (Str × V), (putF f v fs).length ≤ fs.length + 1
  | [] => by simp [putF]
  | (k, x) :: r => by
    have ih := length_putF f v r
    rw [show putF f v ((k, x) :: r) = (if k = f then (k, v) :: r else (k, x) :: putF f v r) from rfl]
    by_cases hk : k = f
    · rw [if_pos hk, List.length_cons, List.length_cons]; omega
    · rw [if_neg hk, List.length_cons, List.length_cons]; omega

theorem RelO.some_of {v : V} {o : Option Value} (r : RelO (some v) o) : ∃ u, o = some u ∧ RelV v u := by
  cases o with
  | none => exact (show False from r).elim
  | some u => exact ⟨u, rfl, r⟩
theorem RelO.none_of {o : Option Value} (r : RelO none o) : o = none := by
  cases o with
  | none => rfl
  | some u => exact (show False from r).elim
theorem handed_of {v : V} {u : Value} (r : RelV v u) : PySem.W.handedIn u = true := by
  cases v with
  | non => cases (show u = Value.none from r); rfl
  | bl b => cases (show u = Value.bool b from r); rfl
  | int i => obtain ⟨t, e⟩ := (show ∃ t, u = Value.int i t from r); cases e; rfl
  | str x => obtain ⟨t, e⟩ := (show ∃ t, u = Value.str x t from r); cases e; rfl
  | byt b => obtain ⟨t, e⟩ := (show ∃ t, u = Value.bytes b t from r); cases e; rfl
  | flt b => obtain ⟨t, e⟩ := (show ∃ t, u = Value.float b t from r); cases e; rfl
  | ref a => cases (show u = Value.ref a from r); rfl
  | ty n => cases (show u = Value.type n from r); rfl

section
variable {P : Program} {w : World} {H H' : Hp} {h h' : Heap} {a C dx : Addr} {fs fs' : List (Str × V)}
theorem ins_get (hok : HOk P w H h) (e : H a = some (.ins C dx fs)) : ∃ mA, ObjM h a dx C mA ∧ (∀ f, RelO (fs.lookup f) (mA f)) ∧ PySem.Within mA (fs.map (·.1)) ∧ fs.length ≤ 1000 ∧ H dx = some (.own a) := by
  obtain ⟨d, z, ne, ob, mA, n, r, q⟩ := (show ObjOk P w H h a (.ins C dx fs) from hok a _ e)
  exact ⟨mA, ⟨ob, n, ne⟩, r, q, z, d⟩
end

/-! ### what of the text a class must have -/
structure Cls (K : PySem.W.Frag) (C : Addr) : Prop where
  pg : PySem.W.plainGet K C Str.empty = true
  hd : PySem.W.hasDictIn K C = true
  po : PySem.W.plainOver K C = true
  sa : PySem.W.findIn K (.ref C) "__setattr__" = some (some (.builtin "object.__setattr__"))
theorem Cls.get {K : PySem.W.Frag} {C : Addr} (c : Cls K C) (f : Str) : PySem.W.plainGet K C f = true := c.pg
/-- no class of it has the name -/
def NoAttr (K : PySem.W.Frag) (C : Addr) (f : Str) : Prop := PySem.W.findIn K (.ref C) f = some none
theorem NoAttr.taker {K : PySem.W.Frag} {C : Addr} {f : Str} (n : NoAttr K C f) : PySem.W.takerIn K C f = some none := by
  unfold PySem.W.takerIn
  rw [show PySem.W.findIn K (.ref C) f = some none from n]
  rfl
/-- a constant of the class -/
structure Con (K : PySem.W.Frag) (C : Addr) (f : Str) (v : V) (u : Value) : Prop where
  at_ : PySem.W.findIn K (.ref C) f = some (some u)
  rel : RelV v u
  get : PySem.W.specialIn K u "__get__" = some none
  cp : PySem.W.copiedNames.contains f = false
/-- a method: a plain def of the class or of one above it -/
structure Meth (K : PySem.W.Frag) (C : Addr) (m : Str) (f : Addr) : Prop where
  at_ : PySem.W.findIn K (.ref C) m = some (some (.ref f))
  fn : PySem.W.isFn K (.ref f) = true
  kp : PySem.W.keepIn K (.ref f) = true

section
variable {X : Cx} {pins : List (Addr × Obj)} {σ : St} {H : Hp} {s : Shared} {a C dx : Addr} {fs : List (Str × V)} {f : Str} {v : V} {A : Around} {E : Value → Shared → Prop}

theorem getattr_ok {b : Bool} {Q : Value → Shared → Prop} (I : Inv X pins σ H s) (e : H a = some (.ins C dx fs)) (c : Cls X.K C) (n : NoAttr X.K C f) (l : fs.lookup f = some v)
    (h : ∀ u s', Inv X pins σ H s' → RelV v u → Q u s') : wpAny (model X.prog X.w) A (getAttr (.ref a) f b) Q E s := by
  obtain ⟨mA, O, r, _, _, _⟩ := ins_get I.hok e
  obtain ⟨u, hu, ru⟩ := RelO.some_of (v := v) (o := mA f) (by rw [← l]; exact r f)
  exact get_map I.kIn O (c.get f) c.hd n hu (handed_of ru) (h u _ (I.tok _) ru)

theorem getcon_ok {b : Bool} {u : Value} {Q : Value → Shared → Prop} (I : Inv X pins σ H s) (e : H a = some (.ins C dx fs)) (c : Cls X.K C) (k : Con X.K C f v u) (l : fs.lookup f = none)
    (h : ∀ s', Inv X pins σ H s' → Q u s') : wpAny (model X.prog X.w) A (getAttr (.ref a) f b) Q E s := by
  obtain ⟨mA, O, r, _, _, _⟩ := ins_get I.hok e
  have hn : mA f = none := RelO.none_of (by rw [← l]; exact r f)
  exact get_const I.kIn O (c.get f) c.hd k.at_ k.get k.cp hn (handed_of k.rel) (h _ (I.tok _))

theorem getmeth_ok {m : Str} {g : Addr} {pl : Sem Bool} {Q : Value × List Value → Shared → Prop} (I : Inv X pins σ H s) (e : H a = some (.ins C dx fs)) (c : Cls X.K C) (k : Meth X.K C m g) (l : fs.lookup m = none)
    (h : Q (.ref g, [.ref a]) s) : wpAny (model X.prog X.w) A (getMethod (.ref a) m pl) Q E s := by
  obtain ⟨mA, O, r, _, _, _⟩ := ins_get I.hok e
  have hn : mA m = none := RelO.none_of (by rw [← l]; exact r m)
  exact get_meth I.kIn O (c.get m) k.at_ k.fn hn h

theorem setattr_ok {y : V} {u : Value} {Q : Unit → Shared → Prop} (I : Inv X pins σ H s) (e : H a = some (.ins C dx fs)) (c : Cls X.K C) (n : NoAttr X.K C f) (hl : fs.length < 1000) (ry : RelV y u)
    (h : ∀ s', Inv X pins σ (upd H a (.ins C dx (putF f y fs))) s' → Q () s') : wpAny (model X.prog X.w) A (setAttr (.ref a) f u) Q E s := by
  obtain ⟨mA, O, r, wi, _, ho⟩ := ins_get I.hok e
  have hz : (fs.map (·.1)).length ≤ sizeLine := by rw [List.length_map, sizeLine_eq]; omega
  refine set_map I.kIn O c.sa c.po n.taker c.hd wi hz fun h' O' sb => h _ ?_
  have hd : ∃ o, h'.get? dx = some o := let ⟨o, _, _, e', _⟩ := O'.ns; ⟨o, e'⟩
  refine I.write (x := a) (e := dx) (by rw [e]; exact True.intro) (.inr ho) (fun b q hb z => (sb.2 b hb).trans z) hd ?_
  refine ⟨by rw [upd_ne O.ne]; exact ho, ?_, O.ne, O'.obj, _, O'.ns, fun g => ?_, fun g hg => ?_⟩
  · have := length_putF f y fs; omega
  · show RelO ((putF f y fs).lookup g) (if g = f then some u else mA g)
    rw [lookup_putF]
    by_cases q : g = f
    · rw [if_pos q, if_pos q]; exact ry
    · rw [if_neg q, if_neg q]; exact r g
  · by_cases q : g = f
    · rw [q]; exact (keys_putF f y fs).1
    · refine (keys_putF f y fs).2 g (wi g fun z => hg ?_)
      show (if g = f then some u else mA g) = none
      rw [if_neg q]; exact z

/-- a new instance, tracked, without attributes -/
theorem Inv.made (I : Inv X pins σ H s) : Inv X pins σ (upd (upd H s.heap.objs.size (.own (s.heap.objs.size + 1))) (s.heap.objs.size + 1) (.ins C s.heap.objs.size []))
    { s with heap := (s.heap.push PySem.W.emptyDict).push (PySem.W.instObj C s.heap.objs.size) } := by
  have e1 : (s.heap.push PySem.W.emptyDict).get? s.heap.objs.size = some PySem.W.emptyDict := Heap.get?_push_size s.heap rfl
  have e2 : ((s.heap.push PySem.W.emptyDict).push (PySem.W.instObj C s.heap.objs.size)).get? (s.heap.objs.size + 1) = some (PySem.W.instObj C s.heap.objs.size) := by
    have := Heap.get?_push_size (s.heap.push PySem.W.emptyDict) (o := PySem.W.instObj C s.heap.objs.size) rfl
    rwa [Heap.size_push] at this
  have e3 : (s.heap.push PySem.W.emptyDict).Ns s.heap.objs.size (fun _ => none) := ⟨PySem.W.emptyDict, #[], _, e1, rfl, (fun e he => absurd he (by simp)), fun _ => rfl⟩
  have I1 := I.laid (a := s.heap.objs.size) (o := .own (s.heap.objs.size + 1)) (h' := s.heap.push PySem.W.emptyDict) (t' := s.toks) (fun b u q => Heap.get?_push_of_some _ q) (Nat.le_refl _) ⟨_, e1⟩
  refine I1.laid (a := s.heap.objs.size + 1) (o := .ins C s.heap.objs.size []) (t' := s.toks) (fun b u q => Heap.get?_push_of_some _ q) (Nat.le_of_eq (Heap.size_push _ _)) ?_
  have ne : s.heap.objs.size ≠ s.heap.objs.size + 1 := Nat.ne_of_lt (Nat.lt_succ_self _)
  refine ⟨by rw [upd_ne ne, upd_same], Nat.zero_le _, ne, e2, fun _ => none, (Heap.Ns1.of_empty e3).at fun o q => Heap.get?_push_of_some _ q, fun _ => True.intro, fun y hy => absurd rfl hy⟩

/-- e.f where nothing but the object is asked: through attributeBase (super) and the last hold -/
theorem attr_of {prog : Program} {w : World} {env : Env} {e : Expr} {f : Str} {pos : Pos} {s : Shared} {Q : Value → Shared → Prop} (hb : attributeBase e f env (eval e env) = eval e env)
    (h : wpAny (model prog w) A (eval e env) (fun o s₁ => wpAny (model prog w) A (getAttr o f true) Q E s₁) E s) : wpAny (model prog w) A (eval (.Attribute e f pos) env) Q E s :=
  Attribute_any_ h (by rw [arm_eval_Attribute, hb])
end

/-! ### readings and rules -/
/-- e.f, an attribute of the instance -/
def tFld (K : PySem.W.Frag) (ta : TE) (f : Str) : TE := fun σ H Q => ta σ H fun x H1 => ∃ a C dx fs v, x = .ref a ∧ H1 a = some (.ins C dx fs) ∧ Cls K C ∧ NoAttr K C f ∧ fs.lookup f = some v ∧ Q v H1
/-- e.f, a constant of the class -/
def tCon (K : PySem.W.Frag) (ta : TE) (f : Str) : TE := fun σ H Q => ta σ H fun x H1 => ∃ a C dx fs v u, x = .ref a ∧ H1 a = some (.ins C dx fs) ∧ Cls K C ∧ Con K C f v u ∧ fs.lookup f = none ∧ Q v H1
/-- e.f = value -/
def sFld (K : PySem.W.Frag) (ta tv : TE) (f : Str) : TS := fun D σ H => tv σ H fun y H1 => ta σ H1 fun x H2 => ∃ a C dx fs, x = .ref a ∧ H2 a = some (.ins C dx fs) ∧ Cls K C ∧ NoAttr K C f ∧ fs.length < 1000 ∧
  D.nx σ (upd H2 a (.ins C dx (putF f y fs)))
/-- an augmented operator on two values -/
def InOp (X : Cx) (op : Operator) (rd : V → V → Hp → VK → Prop) : Prop :=
  ∀ (pins : List (Addr × Obj)) (s : Shared) (σ : St) (H : Hp) (x y : V) (u v : Value) (Q : VK), Inv X pins σ H s → RelV x u → RelV y v → rd x y H Q → wpAny (model X.prog X.w) X.A (inplaceOp op u v) (EP X pins σ Q) X.xe s
/-- e.f op= value -/
def sFldAug (K : PySem.W.Frag) (ta tv : TE) (rd : V → V → Hp → VK → Prop) (f : Str) : TS := fun D σ H => ta σ H fun x H1 => ∃ a C dx fs v, x = .ref a ∧ H1 a = some (.ins C dx fs) ∧ Cls K C ∧ NoAttr K C f ∧ fs.lookup f = some v ∧
  tv σ H1 fun y H2 => rd v y H2 fun z H3 => ∃ dx' fs', H3 a = some (.ins C dx' fs') ∧ fs'.length < 1000 ∧ D.nx σ (upd H3 a (.ins C dx' (putF f z fs')))

section
variable {X : Cx} {o e value : Expr} {f : Str} {pos pos' tpos : Pos} {ta tv : TE}
theorem pe_fld (he : PE X e ta) (hb : attributeBase e f X.env (eval e X.env) = eval e X.env) : PE X (.Attribute e f pos) (tFld X.K ta f) := by
  intro pins s σ H Q I h
  refine attr_of hb (thn (he pins s σ H _ I h) fun u s1 ⟨x, H1, I1, rx, a, C, dx, fs, v, ex, ea, c, n, l, q⟩ => ?_)
  subst ex
  obtain rfl : u = Value.ref a := rx
  exact getattr_ok I1 ea c n l fun u' s2 I2 ru => ⟨v, H1, I2, ru, q⟩
theorem pe_con (he : PE X e ta) (hb : attributeBase e f X.env (eval e X.env) = eval e X.env) : PE X (.Attribute e f pos) (tCon X.K ta f) := by
  intro pins s σ H Q I h
  refine attr_of hb (thn (he pins s σ H _ I h) fun u s1 ⟨x, H1, I1, rx, a, C, dx, fs, v, u0, ex, ea, c, k, l, q⟩ => ?_)
  subst ex
  obtain rfl : u = Value.ref a := rx
  exact getcon_ok I1 ea c k l fun s2 I2 => ⟨v, H1, I2, k.rel, q⟩
theorem ps_fld (ha : PE X o ta) (hv : PE X value tv) (hs : swapsWith value (some (.Attribute o f pos')) pos.line X.env = pure false) : PS X (.Assign [.Attribute o f pos'] value pos) (sFld X.K ta tv f) := by
  intro pins s σ H D I h
  refine plainObj_wpAny_Assign_Attribute (thn (hv pins s σ H _ I h) fun u s1 ⟨y, H1, I1, ry, q⟩ => thn (ha pins s1 σ H1 _ I1 q) fun ov s2 ⟨x, H2, I2, rx, a, C, dx, fs, ex, ea, c, n, l, q2⟩ => ?_) hs
  subst ex
  obtain rfl : ov = Value.ref a := rx
  exact setattr_ok I2 ea c n l ry fun s3 I3 => ⟨σ, _, I3, q2⟩
theorem ps_fldaug {op : Operator} {rd : V → V → Hp → VK → Prop} (ha : PE X o ta) (hv : PE X value tv) (hop : InOp X op rd) : PS X (.AugAssign (.Attribute o f tpos) op value pos) (sFldAug X.K ta tv rd f) := by
  intro pins s σ H D I h
  refine wpAny_AugAssign_AttributeAny (thn (ha pins s σ H _ I h) fun ov s1 ⟨x, H1, I1, rx, a, C, dx, fs, v, ex, ea, c, n, l, q⟩ => ?_)
  subst ex
  obtain rfl : ov = Value.ref a := rx
  refine getattr_ok I1 ea c n l fun u s2 I2 ru => thn (hv pins s2 σ H1 _ I2 q) fun w3 s3 ⟨y, H2, I3, ry, q3⟩ => thn (hop pins s3 σ H2 v y u w3 _ I3 ru ry q3) fun w4 s4 ⟨z, H3, I4, rz, dx', fs', ea', l', q4⟩ => ?_
  exact setattr_ok I4 ea' c n l' rz fun s5 I5 => ⟨σ, _, I5, q4⟩
def rAdd : V → V → Hp → VK → Prop := fun x y H Q => ∃ i j, x = .int i ∧ y = .int j ∧ Q (.int (i + j)) H
def rSub : V → V → Hp → VK → Prop := fun x y H Q => ∃ i j, x = .int i ∧ y = .int j ∧ Q (.int (i - j)) H
theorem in_add : InOp X .Add rAdd := by
  rintro pins s σ H x y u v Q I rx ry ⟨i, j, rfl, rfl, q⟩
  obtain ⟨t, rfl⟩ := (show ∃ t, u = Value.int i t from rx)
  obtain ⟨t', rfl⟩ := (show ∃ t', v = Value.int j t' from ry)
  exact PyProof.Rows.iadd_int ⟨.int (i + j), H, I.tok _, ⟨_, rfl⟩, q⟩
theorem in_sub : InOp X .Sub rSub := by
  rintro pins s σ H x y u v Q I rx ry ⟨i, j, rfl, rfl, q⟩
  obtain ⟨t, rfl⟩ := (show ∃ t, u = Value.int i t from rx)
  obtain ⟨t', rfl⟩ := (show ∃ t', v = Value.int j t' from ry)
  exact PyProof.Rows.isub_int ⟨.int (i - j), H, I.tok _, ⟨_, rfl⟩, q⟩

/-- what is between an instance and its method: the tree of a method call -/
theorem methcall_of {pl : Sem Bool} {m : Str} {apos : Pos} {args : List Expr} {pins : List (Addr × Obj)} {s : Shared} {σ : St} {H : Hp} {Q : Value → Shared → Prop} {te : TE} (he : PE X e te) (I : Inv X pins σ H s)
    (h : te σ H fun x H1 => ∃ a C dx fs g, x = .ref a ∧ H1 a = some (.ins C dx fs) ∧ Cls X.K C ∧ Meth X.K C m g ∧ fs.lookup m = none ∧
      ∀ s1, Inv X pins σ H1 s1 → wpAny (model X.prog X.w) X.A (callWith pos (.ref g) [.ref a] (backTo pos (starEach args X.env)) (backToKw pos (keywordEach [] X.env))) Q X.xe s1)
    (ht : eval (.Call (.Attribute e m apos) args [] pos) X.env = (do
      let ov ← eval e X.env
      standAt apos.atName
      let (f, first) ← holding [ov] (getMethod ov m pl)
      callWith pos f first (backTo pos (starEach args X.env)) (backToKw pos (keywordEach [] X.env)))) :
    wpAny (model X.prog X.w) X.A (eval (.Call (.Attribute e m apos) args [] pos) X.env) Q X.xe s := by
  refine PySem.W.methodCall_KW (pl := pl) (thn (he pins s σ H _ I h) fun u s1 ⟨x, H1, I1, rx, a, C, dx, fs, g, ex, ea, c, k, l, q⟩ => ?_) ht
  subst ex
  obtain rfl : u = Value.ref a := rx
  exact getmeth_ok I1 ea c k l (q s1 I1)
end

/-! ### isinstance -/
section
variable {X : Cx} {pins : List (Addr × Obj)} {σ : St} {H : Hp} {s : Shared} {A : Around} {E : Value → Shared → Prop} {Q : Value → Shared → Prop} {c : Value} {b : Bool}
/-- the type of a value, as the fragment's deciders take it; for an instance its class -/
inductive TyOf (K : PySem.W.Frag) (H : Hp) : V → Value → Prop where
  | non : TyOf K H .non (.type "NoneType")
  | bl (x : Bool) : TyOf K H (.bl x) (.type "bool")
  | int (i : Int) : TyOf K H (.int i) (.type "int")
  | str (x : Str) : TyOf K H (.str x) (.type "str")
  | flt (x : UInt64) : TyOf K H (.flt x) (.type "float")
  | lst {a : Addr} {xs : List V} (e : H a = some (.lst xs)) : TyOf K H (.ref a) (.type "list")
  | frz {a : Addr} {o : Obj} {xs : List V} (e : H a = some (.frz o (.lst xs))) : TyOf K H (.ref a) (.type "list")
  | tup {a : Addr} {xs : List V} (e : H a = some (.tup xs)) : TyOf K H (.ref a) (.type "tuple")
  | dK {a : Addr} {kvs : List (Key × V)} (e : H a = some (.dK kvs)) : TyOf K H (.ref a) (.type "dict")
  | dT {a : Addr} {kvs : List (List Key × V)} (e : H a = some (.dT kvs)) : TyOf K H (.ref a) (.type "dict")
  | ins {a C dx : Addr} {fs : List (Str × V)} (e : H a = some (.ins C dx fs)) (cl : Cls K C) (ha : PySem.W.findIn K (.ref C) "__class__" = some (some (.builtin "object.__class__")))
      (hn : PySem.W.specialIn K (.builtin "object.__class__") "__get__" = some (some (.builtin "getset_descriptor.__get__"))) (htk : PySem.W.takesIn K (.builtin "object.__class__") = some true)
      (hm : PySem.W.mroIn K C (.type "object") = some true) : TyOf K H (.ref a) (.ref C)
/-- isinstance(x, c) for one class c, a built-in or an own one: kitOne's answer -/
theorem isinst_ok {x : V} {u t : Value} (I : Inv X pins σ H s) (rx : RelV x u) (ty : TyOf X.K H x t) (e : PySem.W.kitOne X.K t c = some b) (h : ∀ tk, Q (.bool b) { s with toks := tk }) :
    wpAny (model X.prog X.w) A (call (.builtin "isinstance") [u, c]) Q E s := by
  cases ty with
  | non => cases (show u = Value.none from rx); exact PySem.W.kia_one PySem.W.kitx_none I.kIn True.intro e (fun z => nomatch z) h
  | bl y => cases (show u = Value.bool y from rx); exact PySem.W.kia_one PySem.W.kitx_bool I.kIn True.intro e (fun z => nomatch z) h
  | int i => obtain ⟨t, q⟩ := (show ∃ t, u = Value.int i t from rx); cases q; exact PySem.W.kia_one PySem.W.kitx_int I.kIn True.intro e (fun z => nomatch z) h
  | str y => obtain ⟨t, q⟩ := (show ∃ t, u = Value.str y t from rx); cases q; exact PySem.W.kia_one PySem.W.kitx_str I.kIn True.intro e (fun z => nomatch z) h
  | flt y => obtain ⟨t, q⟩ := (show ∃ t, u = Value.float y t from rx); cases q; exact PySem.W.kia_one PySem.W.kitx_float I.kIn True.intro e (fun z => nomatch z) h
  | @lst a xs ea =>
    cases (show u = Value.ref a from rx)
    obtain ⟨_, _, n, _, h1⟩ := (show ObjOk X.prog X.w H s.heap a (.lst xs) from I.hok a _ ea)
    exact PySem.W.kia_one PySem.W.kitx_list I.kIn ⟨_, h1, rfl⟩ e (fun z => nomatch z) h
  | @frz a ob xs ea =>
    cases (show u = Value.ref a from rx)
    obtain ⟨_, _, _, n, _, h1⟩ := (show ObjOk X.prog X.w H s.heap a (.frz ob (.lst xs)) from I.hok a _ ea)
    exact PySem.W.kia_one PySem.W.kitx_list I.kIn ⟨_, h1, rfl⟩ e (fun z => nomatch z) h
  | @tup a xs ea =>
    cases (show u = Value.ref a from rx)
    obtain ⟨_, _, _, p⟩ := (show ObjOk X.prog X.w H s.heap a (.tup xs) from I.hok a _ ea)
    obtain ⟨o, h1, h2, _⟩ := p
    exact PySem.W.kia_one PySem.W.kitx_tuple I.kIn ⟨o, h1, h2⟩ e (fun z => nomatch z) h
  | @dK a kvs ea =>
    cases (show u = Value.ref a from rx)
    obtain ⟨_, _, vs, _, p⟩ := (show ObjOk X.prog X.w H s.heap a (.dK kvs) from I.hok a _ ea)
    obtain ⟨o, es, ep, h1, h2, _⟩ := p
    exact PySem.W.kia_one PySem.W.kitx_dict I.kIn ⟨o, h1, h2.1⟩ e (fun z => nomatch z) h
  | @dT a kvs ea =>
    cases (show u = Value.ref a from rx)
    obtain ⟨_, _, xs, _, o, es, ep, h1, h2, _⟩ := (show ObjOk X.prog X.w H s.heap a (.dT kvs) from I.hok a _ ea)
    exact PySem.W.kia_one PySem.W.kitx_dict I.kIn ⟨o, h1, h2.1⟩ e (fun z => nomatch z) h
  | @ins a C dx fs ea cl ha hn htk hm =>
    cases (show u = Value.ref a from rx)
    obtain ⟨mA, O, _⟩ := ins_get I.hok ea
    obtain ⟨od, J, _⟩ := O.look
    exact PySem.W.kia_one (PySem.W.kitx_own (cl.get _) cl.hd ha hn htk hm) I.kIn J e (fun z => nomatch z) h
end
end L2

namespace L2
open PySem PySem.Spec PyProof.Rows

/-! ### room -/
structure Room (k : Nat) (A : Around) : Prop where
  hd : A.handled = none
  dp : A.depth + 3 * k + 5 < recursionLimit
  un : A.units + 16 * k + 200 < cLine
theorem Room.mono {j k : Nat} {A : Around} (r : Room k A) (h : j ≤ k) : Room j A := ⟨r.hd, by have := r.dp; omega, by have := r.un; omega⟩
theorem Room.deeper {k : Nat} {A : Around} (r : Room (k + 1) A) (env : Env) : Room k (A.deeper env) :=
  ⟨r.hd, by have := r.dp; show A.depth + 1 + 3 * k + 5 < _; omega, by have := r.un; show A.units + 3 + 16 * k + 200 < _; omega⟩
theorem Room.in1 {k : Nat} {A : Around} (r : Room (k + 1) A) : Room k A.in1 :=
  ⟨r.hd, by have := r.dp; show A.depth + 3 * k + 5 < _; omega, by have := r.un; show A.units + 1 + 16 * k + 200 < _; omega⟩
theorem make_depth {A : Around} {C : Addr} {us : List Value} {kw : List (Str × Value)} : (A.under (.builtin "type.__call__" ⟨.ref C :: us, kw⟩)).depth = A.depth + 1 := by
  first | rfl | simp [Around.under, Code.weight, Code.isCreation, Code.isGuard, Code.isCaller, Code.frames, Code.isFrame, guardIds]
theorem make_units {A : Around} {C : Addr} {us : List Value} {kw : List (Str × Value)} : (A.under (.builtin "type.__call__" ⟨.ref C :: us, kw⟩)).units = A.units + 1 := by
  first | rfl | simp [Around.under, Code.cUnits, Code.frames, Code.isFrame]
theorem Room.make {k : Nat} {A : Around} (r : Room (k + 1) A) (C : Addr) (us : List Value) (kw : List (Str × Value)) : Room k (A.under (.builtin "type.__call__" ⟨.ref C :: us, kw⟩)) :=
  ⟨r.hd, by have := r.dp; rw [make_depth]; omega, by have := r.un; rw [make_units]; omega⟩
theorem Room.depth {k : Nat} {A : Around} (r : Room k A) : A.depth < recursionLimit := by have := r.dp; omega
theorem Room.units {k : Nat} {A : Around} (r : Room k A) : A.units + 64 < cLine := by have := r.un; omega
theorem Room.units0 {k : Nat} {A : Around} (r : Room k A) : A.units < cLine := by have := r.un; omega

/-! ### argument lists and displays -/
def tNil : TA := fun _ H Q => Q [] H
def tCons (ta : TE) (tr : TA) : TA := fun σ H Q => ta σ H fun x H1 => tr σ H1 fun xs H2 => Q (x :: xs) H2
section
variable {X : Cx} {e : Expr} {es : List Expr} {te : TE} {t : TA} {pos : Pos}
theorem pa_nil : PA X [] tNil := fun _ _ _ _ H Q I h => Calls.spliced_nil ⟨[], H, I, .nil, h⟩
theorem pa_cons (ha : PE X e te) (hr : PA X es t) (hs : starEach (e :: es) X.env = (false, eval e X.env) :: starEach es X.env := by rfl) : PA X (e :: es) (tCons te t) := by
  intro pos pins s σ H Q I h
  rw [hs]
  show wpAny _ _ (spliced ((false, eval e X.env) :: backTo pos (starEach es X.env))) _ _ s
  refine Calls.spliced_cons (thn (ha pins s σ H _ I h) fun u s1 ⟨x, H1, I1, r1, q1⟩ => ?_)
  exact thn (hr pos pins s1 σ H1 _ I1 q1) fun us s2 ⟨xs, H2, I2, r2, q2⟩ => ⟨x :: xs, H2, I2, .cons r1 r2, q2⟩

/-- a tuple, a list of written items -/
def tTup (t : TA) : TE := fun σ H Q => t σ H fun xs H1 => xs.length ≤ sizeLine ∧ ∀ p, H1 p = none → Q (.ref p) (upd H1 p (.tup xs))
def tLst (t : TA) : TE := fun σ H Q => t σ H fun xs H1 => xs.length ≤ sizeLine ∧ ∀ p, H1 p = none → Q (.ref p) (upd H1 p (.lst xs))
theorem pe_tup {x1} (h : PA X es t) : PE X (.Tuple es x1 pos) (tTup t) := by
  intro pins s σ H Q I hq
  refine wpAny_Tuple_spliced (thn (h pos pins s σ H _ I hq) fun us s1 ⟨xs, H1, I1, r, z, q⟩ => ⟨by rw [← r.length]; exact z, ?_⟩)
  have hf : H1 s1.heap.objs.size = none := I1.hok.fresh (Nat.le_refl _)
  refine ⟨.ref s1.heap.objs.size, upd H1 s1.heap.objs.size (.tup xs), I1.laid (t' := s1.toks) (fun b u e => Heap.get?_push_of_some _ e) (Nat.le_refl _) ?_, rfl, q _ hf⟩
  exact ⟨z, us, r, ⟨_, Heap.get?_push_size _ rfl, rfl, _, rfl⟩⟩
theorem pe_lst (h : PA X es t) : PE X (.List es pos) (tLst t) := by
  intro pins s σ H Q I hq
  refine wpAny_List_spliced (thn (h pos pins s σ H _ I hq) fun us s1 ⟨xs, H1, I1, r, z, q⟩ => ⟨by rw [← r.length]; exact z, ?_⟩)
  have hf : H1 s1.heap.objs.size = none := I1.hok.fresh (Nat.le_refl _)
  refine ⟨.ref s1.heap.objs.size, upd H1 s1.heap.objs.size (.lst xs), I1.laid (t' := s1.toks) (fun b u e => Heap.get?_push_of_some _ e) (Nat.le_refl _) ?_, rfl, q _ hf⟩
  exact ⟨z, us, 0, r, Heap.get?_push_size _ rfl⟩
end

/-! ### what a def promises -/
/-- a def's promise: the bound arguments in the parameters' order, the heap, the wanted end, the wanted exception -/
abbrev Sp := List V → Hp → VK → XK → Prop
/-- how an exception lies behind a call (file 08 gives it): the callers' frames, abstract heap and state ahead of the call, the wish, the exception, the state -/
abbrev CXT := List Env → Hp → Shared → XK → Value → Shared → Prop

/-- the state at a call -/
structure Env0 (P : Program) (w : World) (K : PySem.W.Frag) (mg : Str → Option Value) (base : Heap) (A : Around) (outer : List Env) (s : Shared) (H : Hp) : Prop where
  frames : A.frames = some outer
  mod : Mod K mg base
  bs : ∀ b o, base.get? b = some o → s.heap.get? b = some o ∧ H b = none
  bsz : base.objs.size ≤ s.heap.objs.size
  funs : s.heap.FunFrames base outer
  frf : ∀ b ∈ frs outer, H b = none
  hok : HOk P w H s.heap
  bare : AllBare s.gens
/-- a call's end -/
def CE (outer : List Env) (P : Program) (w : World) (H : Hp) (s : Shared) (Q : VK) (u : Value) (s' : Shared) : Prop :=
  ∃ v H', s'.os = s.os ∧ AllBare s'.gens ∧ Un (frs outer) [] H H' s.heap s'.heap ∧ HOk P w H' s'.heap ∧ RelV v u ∧ Q v H'
def CR (CX : CXT) (outer : List Env) (P : Program) (w : World) (H : Hp) (s : Shared) (Q : VK) (E : XK) (r : Result) (s' : Shared) : Prop :=
  match r with
  | .ok (.ret u) => CE outer P w H s Q u s'
  | .ok _ => False
  | .error e => CX outer H s E e s'
structure FnOk (P : Program) (w : World) (K : PySem.W.Frag) (mg : Str → Option Value) (base : Heap) (CX : CXT) (k : Nat) (f : Addr) (fd : FuncData) (ps : List Str) (sp : Sp) : Prop where
  len : ∀ vs H Q E, sp vs H Q E → vs.length = ps.length
  run : ∀ (A : Around) (outer : List Env) (s : Shared) (H : Hp) (args : Args) (us : List Value) (vs : List V) (Q : VK) (E : XK), Room k A → Env0 P w K mg base A outer s H → BindsTo s fd args (ps.zip us) → Vals vs us → sp vs H Q E →
    codeAny (model P w) A (.call (.ref f) args) (CR CX outer P w H s Q E) s
theorem FnOk.mono {P : Program} {w : World} {K : PySem.W.Frag} {mg : Str → Option Value} {base : Heap} {CX : CXT} {j k : Nat} {f : Addr} {fd : FuncData} {ps : List Str} {sp : Sp} (F : FnOk P w K mg base CX j f fd ps sp) (h : j ≤ k) :
    FnOk P w K mg base CX k f fd ps sp := ⟨F.len, fun A outer s H args us vs Q E hr => F.run A outer s H args us vs Q E (hr.mono h)⟩
/-- a weaker promise -/
theorem FnOk.imp {P : Program} {w : World} {K : PySem.W.Frag} {mg : Str → Option Value} {base : Heap} {CX : CXT} {k : Nat} {f : Addr} {fd : FuncData} {ps : List Str} {sp sp' : Sp} (F : FnOk P w K mg base CX k f fd ps sp)
    (h : ∀ vs H Q E, sp' vs H Q E → sp vs H Q E) : FnOk P w K mg base CX k f fd ps sp' :=
  ⟨fun vs H Q E q => F.len vs H Q E (h _ _ _ _ q), fun A outer s H args us vs Q E hr he hb hv hs => F.run A outer s H args us vs Q E hr he hb hv (h _ _ _ _ hs)⟩

theorem Env0.make {P : Program} {w : World} {K : PySem.W.Frag} {mg : Str → Option Value} {base : Heap} {A : Around} {outer : List Env} {s : Shared} {H : Hp} (e : Env0 P w K mg base A outer s H) (C : Addr) (us : List Value) (kw : List (Str × Value)) :
    Env0 P w K mg base (A.under (.builtin "type.__call__" ⟨.ref C :: us, kw⟩)) outer s H := ⟨by first | exact e.frames | (simpa [Around.under, Code.envs, Code.isFrame, pushEnvs] using e.frames), e.mod, e.bs, e.bsz, e.funs, e.frf, e.hok, e.bare⟩
theorem Env0.in1 {P : Program} {w : World} {K : PySem.W.Frag} {mg : Str → Option Value} {base : Heap} {A : Around} {outer : List Env} {s : Shared} {H : Hp} (e : Env0 P w K mg base A outer s H) :
    Env0 P w K mg base A.in1 outer s H := ⟨e.frames, e.mod, e.bs, e.bsz, e.funs, e.frf, e.hok, e.bare⟩

section
variable {X : Cx} {pins : List (Addr × Obj)} {σ : St} {H : Hp} {s s' : Shared}
/-- from a body: what a callee wants -/
theorem Inv.env0 (I : Inv X pins σ H s) : Env0 X.prog X.w X.K X.mg X.base X.A X.stack s H :=
  ⟨I.ok.frames, I.ok.mod, I.bs, Nat.le_trans I.ok.bsz I.sz, I.stack, I.stkFree, I.hok, I.bare⟩
/-- behind a call -/
theorem Inv.after {Q : VK} {u : Value} (I : Inv X pins σ H s) (h : CE X.stack X.prog X.w H s Q u s') : EP X pins σ Q u s' := by
  obtain ⟨v, H', os, bare, un, hok, r, q⟩ := h
  obtain ⟨hh, g, d, t, os'⟩ := s'
  obtain rfl : os' = s.os := os
  exact ⟨v, H', I.call (h' := hh) (g' := g) (d' := d) (t' := t) (ch := []) un hok bare (fun b z => absurd z (by simp)), r, q⟩
end

/-! ### calls -/
/-- f(..): the written arguments, then the defaults dvs; E: what is wanted of an exception -/
def tCall (sp : Sp) (dvs : List V) (E : XK) (t : TA) : TE := fun σ H Q => t σ H fun vs H1 => sp (vs ++ dvs) H1 Q E
/-- o.m(..) of an instance of the class at C -/
def tMeth (C : Addr) (m : Str) (sp : Sp) (dvs : List V) (E : XK) (ta : TE) (t : TA) : TE := fun σ H Q => ta σ H fun x H1 => ∃ a dx fs, x = .ref a ∧ H1 a = some (.ins C dx fs) ∧ fs.lookup m = none ∧
  t σ H1 fun vs H2 => sp (x :: (vs ++ dvs)) H2 Q E
/-- C(..): a new instance and its dict, then __init__ -/
def tMake (C : Addr) (sp : Sp) (dvs : List V) (E : XK) (t : TA) : TE := fun σ H Q => t σ H fun vs H1 => ∀ x dx, H1 x = none → H1 dx = none → dx ≠ x →
  sp (.ref x :: (vs ++ dvs)) (upd (upd H1 dx (.own x)) x (.ins C dx [])) (fun v H2 => v = .non ∧ Q (.ref x) H2) E

/-- how the parameters are bound: us the positional arguments, kw the keywords' values by name, ds the defaults that fill up -/
def Binds (K : PySem.W.Frag) (fd : FuncData) (ps : List Str) (ds : List Value) : Prop :=
  ∀ (s : Shared) (us : List Value), K.In s.heap → (us ++ ds).length = ps.length → BindsTo s fd ⟨us, []⟩ (ps.zip (us ++ ds))
/-- every parameter is given -/
theorem Binds.all {K : PySem.W.Frag} {fd : FuncData} {ps : List Str} (h : ∀ us : List Value, us.length = ps.length → bindArgs fd ⟨us, []⟩ = pure (ps.zip us)) : Binds K fd ps [] := fun s us _ hl => by
  rw [List.append_nil] at hl ⊢
  exact .of_eq (h us hl)

/-- an exception of a callee reaches what this body wants of exceptions -/
def Passes (CX : CXT) (X : Cx) (E : XK) : Prop := ∀ (pins : List (Addr × Obj)) (σ : St) (H : Hp) (s : Shared) (e : Value) (s' : Shared), Inv X pins σ H s → CX X.stack H s E e s' → X.xe e s'

section
variable {X : Cx} {CX : CXT} {k : Nat} {f C : Addr} {fd : FuncData} {ps : List Str} {sp : Sp} {dvs : List V} {ds : List Value} {E : XK} {x m : Str} {p pos apos : Pos} {e o : Expr} {es : List Expr} {ta : TE} {t : TA}

/-- the callee runs -/
theorem run_fn {pins : List (Addr × Obj)} {σ : St} {H : Hp} {s : Shared} {Q : VK} {us : List Value} {vs : List V} (F : FnOk X.prog X.w X.K X.mg X.base CX k f fd ps sp) (hr : Room k X.A) (hb : Binds X.K fd ps ds) (hd : Vals dvs ds) (hx : Passes CX X E)
    (I : Inv X pins σ H s) (r : Vals vs us) (h : sp (vs ++ dvs) H Q E) : wpAny (model X.prog X.w) X.A (call (.ref f) us) (EP X pins σ Q) X.xe s := by
  have r2 : Vals (vs ++ dvs) (us ++ ds) := r.append hd
  have hl : (us ++ ds).length = ps.length := by rw [← r2.length]; exact F.len _ _ _ _ h
  refine wpAny_call (codeAny_mono (F.run X.A X.stack s H ⟨us, []⟩ (us ++ ds) (vs ++ dvs) Q E hr I.env0 (hb s us I.kIn hl) r2 h) fun r s' hq => ?_)
  cases r with
  | error e => exact hx pins σ H s e s' I hq
  | ok fl =>
    cases fl with
    | ret u => exact I.after hq
    | next => exact False.elim hq
    | brk => exact False.elim hq
    | cont => exact False.elim hq

theorem pe_call (F : FnOk X.prog X.w X.K X.mg X.base CX k f fd ps sp) (hr : Room k X.A) (hg : Gl X x) (hm : X.mg x = some (.ref f)) (hk : PySem.W.keepIn X.K (.ref f) = true) (hb : Binds X.K fd ps ds) (hd : Vals dvs ds) (hx : Passes CX X E)
    (ha : PA X (e :: es) t) (hdb : (x == ("__debug__" : Str)) = false := by decide) (he : starEach (e :: es) X.env = (false, eval e X.env) :: starEach es X.env := by rfl) (hpl : (backTo pos (starEach es X.env)).any (·.1) = false := by rfl) :
    PE X (.Call (.Name x p) (e :: es) [] pos) (tCall sp dvs E t) := by
  intro pins s σ H Q I h
  refine wpAny_Call_Name_kw (ld_glob I hg hm ?_ hdb)
  refine PySem.W.callWith_K (h₀ := X.base) I.ok.mod.kin hk (thn (ha pos pins s σ H _ I h) fun us s1 ⟨vs, H1, I1, r, q⟩ => ⟨I1.kIn, ?_⟩) he hpl
  exact run_fn F hr hb hd hx I1 r q
theorem pe_call0 (F : FnOk X.prog X.w X.K X.mg X.base CX k f fd ps sp) (hr : Room k X.A) (hg : Gl X x) (hm : X.mg x = some (.ref f)) (hk : PySem.W.keepIn X.K (.ref f) = true) (hb : Binds X.K fd ps ds) (hd : Vals dvs ds) (hx : Passes CX X E)
    (hdb : (x == ("__debug__" : Str)) = false := by decide) : PE X (.Call (.Name x p) [] [] pos) (tCall sp dvs E tNil) := by
  intro pins s σ H Q I h
  refine wpAny_Call_Name_kw (ld_glob I hg hm ?_ hdb)
  exact PySem.W.callWith_K0 I.kIn hk (run_fn (us := []) F hr hb hd hx I .nil h)

/-- o.m(e, ..) -/
theorem pe_meth {pl : Sem Bool} (he : PE X o ta) (c : Cls X.K C) (hm : Meth X.K C m f) (F : FnOk X.prog X.w X.K X.mg X.base CX k f fd ps sp) (hr : Room k X.A) (hb : Binds X.K fd ps ds) (hd : Vals dvs ds) (hx : Passes CX X E) (ha : PA X (e :: es) t)
    (hst : starEach (e :: es) X.env = (false, eval e X.env) :: starEach es X.env := by rfl) (hpl : (backTo pos (starEach es X.env)).any (·.1) = false := by rfl)
    (ht : eval (.Call (.Attribute o m apos) (e :: es) [] pos) X.env = (do
      let ov ← eval o X.env
      standAt apos.atName
      let (f, first) ← holding [ov] (getMethod ov m pl)
      callWith pos f first (backTo pos (starEach (e :: es) X.env)) (backToKw pos (keywordEach [] X.env))) := by rfl) :
    PE X (.Call (.Attribute o m apos) (e :: es) [] pos) (tMeth C m sp dvs E ta t) := by
  intro pins s σ H Q I h
  refine PySem.W.methodCall_KW (pl := pl) (thn (he pins s σ H _ I h) fun u s1 ⟨x, H1, I1, rx, a, dx, fs, ex, ea, l, q⟩ => ?_) ht
  subst ex
  obtain rfl : u = Value.ref a := rx
  refine getmeth_ok I1 ea c hm l ?_
  refine PySem.W.callWith_K (first := [.ref a]) (h₀ := X.base) I.ok.mod.kin hm.kp (thn (ha pos pins s1 σ H1 _ I1 q) fun us s2 ⟨vs, H2, I2, r, q2⟩ => ⟨I2.kIn, ?_⟩) hst hpl
  exact run_fn (us := .ref a :: us) (vs := .ref a :: vs) F hr hb hd hx I2 (.cons rfl r) q2
/-- o.m() -/
theorem pe_meth0 {pl : Sem Bool} (he : PE X o ta) (c : Cls X.K C) (hm : Meth X.K C m f) (F : FnOk X.prog X.w X.K X.mg X.base CX k f fd ps sp) (hr : Room k X.A) (hb : Binds X.K fd ps ds) (hd : Vals dvs ds) (hx : Passes CX X E)
    (ht : eval (.Call (.Attribute o m apos) [] [] pos) X.env = (do
      let ov ← eval o X.env
      standAt apos.atName
      let (f, first) ← holding [ov] (getMethod ov m pl)
      callWith pos f first (backTo pos (starEach [] X.env)) (backToKw pos (keywordEach [] X.env))) := by rfl) :
    PE X (.Call (.Attribute o m apos) [] [] pos) (tMeth C m sp dvs E ta tNil) := by
  intro pins s σ H Q I h
  refine PySem.W.methodCall_KW (pl := pl) (thn (he pins s σ H _ I h) fun u s1 ⟨x, H1, I1, rx, a, dx, fs, ex, ea, l, q⟩ => ?_) ht
  subst ex
  obtain rfl : u = Value.ref a := rx
  refine getmeth_ok I1 ea c hm l ?_
  exact PySem.W.callWith_K0 (first := [.ref a]) I1.kIn hm.kp (run_fn (us := [.ref a]) (vs := [.ref a]) F hr hb hd hx I1 (.cons rfl .nil) q)

/-- what a class must have to be made -/
structure Mk (K : PySem.W.Frag) (C f : Addr) : Prop where
  makes : PySem.W.makesIn K C = true
  init : PySem.W.findIn K (.ref C) "__init__" = some (some (.ref f))
  fn : PySem.W.isFn K (.ref f) = true
  kp : PySem.W.keepIn K (.ref C) = true

theorem run_make {pins : List (Addr × Obj)} {σ : St} {H : Hp} {s : Shared} {Q : VK} {us : List Value} {vs : List V} (M : Mk X.K C f) (F : FnOk X.prog X.w X.K X.mg X.base CX k f fd ps sp) (hr : Room (k + 1) X.A) (hb : Binds X.K fd ps ds) (hd : Vals dvs ds)
    (hx : Passes CX X E) (I : Inv X pins σ H s) (r : Vals vs us)
    (h : ∀ x dx, H x = none → H dx = none → dx ≠ x → sp (.ref x :: (vs ++ dvs)) (upd (upd H dx (.own x)) x (.ins C dx [])) (fun v H2 => v = .non ∧ Q (.ref x) H2) E) :
    wpAny (model X.prog X.w) X.A (call (.ref C) us) (EP X pins σ Q) X.xe s := by
  have hq := h (s.heap.objs.size + 1) s.heap.objs.size (I.hok.fresh (Nat.le_succ _)) (I.hok.fresh (Nat.le_refl _)) (Nat.ne_of_lt (Nat.lt_succ_self _))
  have I2 := Inv.made (C := C) I
  have r2 : Vals (V.ref (s.heap.objs.size + 1) :: (vs ++ dvs)) (Value.ref (s.heap.objs.size + 1) :: (us ++ ds)) := .cons rfl (r.append hd)
  have hl : (Value.ref (s.heap.objs.size + 1) :: us ++ ds).length = ps.length := by
    have e := r2.length
    rw [F.len _ _ _ _ hq] at e
    exact e.symm
  refine wpAny_call (make_map (f := f) I.kIn M.makes M.init (beq_iff_eq.mp M.fn) (codeAny_mono (F.run _ X.stack _ _ ⟨Value.ref (s.heap.objs.size + 1) :: us, []⟩ (Value.ref (s.heap.objs.size + 1) :: (us ++ ds)) _ _ E (hr.make C us [])
    (I2.env0.make C us []) (hb _ (Value.ref (s.heap.objs.size + 1) :: us) I2.kIn hl) r2 hq) fun r s' hq' => ?_))
  cases r with
  | error e => exact hx pins σ _ _ e s' I2 hq'
  | ok fl =>
    cases fl with
    | ret u =>
      obtain ⟨v, H', I3, rv, ev, q3⟩ := I2.after hq'
      subst ev
      exact ⟨rv, ⟨V.ref (s.heap.objs.size + 1), H', I3, rfl, q3⟩⟩
    | next => exact False.elim hq'
    | brk => exact False.elim hq'
    | cont => exact False.elim hq'
theorem pe_make (M : Mk X.K C f) (F : FnOk X.prog X.w X.K X.mg X.base CX k f fd ps sp) (hr : Room (k + 1) X.A) (hg : Gl X x) (hm : X.mg x = some (.ref C)) (hb : Binds X.K fd ps ds) (hd : Vals dvs ds) (hx : Passes CX X E)
    (ha : PA X (e :: es) t) (hdb : (x == ("__debug__" : Str)) = false := by decide) (he : starEach (e :: es) X.env = (false, eval e X.env) :: starEach es X.env := by rfl) (hpl : (backTo pos (starEach es X.env)).any (·.1) = false := by rfl) :
    PE X (.Call (.Name x p) (e :: es) [] pos) (tMake C sp dvs E t) := by
  intro pins s σ H Q I h
  refine wpAny_Call_Name_kw (ld_glob I hg hm ?_ hdb)
  refine PySem.W.callWith_K (h₀ := X.base) I.ok.mod.kin M.kp (thn (ha pos pins s σ H _ I h) fun us s1 ⟨vs, H1, I1, r, q⟩ => ⟨I1.kIn, ?_⟩) he hpl
  exact run_make M F hr hb hd hx I1 r q
theorem pe_make0 (M : Mk X.K C f) (F : FnOk X.prog X.w X.K X.mg X.base CX k f fd ps sp) (hr : Room (k + 1) X.A) (hg : Gl X x) (hm : X.mg x = some (.ref C)) (hb : Binds X.K fd ps ds) (hd : Vals dvs ds) (hx : Passes CX X E)
    (hdb : (x == ("__debug__" : Str)) = false := by decide) : PE X (.Call (.Name x p) [] [] pos) (tMake C sp dvs E tNil) := by
  intro pins s σ H Q I h
  refine wpAny_Call_Name_kw (ld_glob I hg hm ?_ hdb)
  exact PySem.W.callWith_K0 I.kIn M.kp (run_make (us := []) M F hr hb hd hx I .nil h)
end

/-! ### keywords -/
/-- the values of the keywords, from the left -/
def PK (X : Cx) (kws : List Keyword) (t : TA) : Prop :=
  ∀ (pos : Pos) (pins : List (Addr × Obj)) (s : Shared) (σ : St) (H : Hp) (Q : List V → Hp → Prop), Inv X pins σ H s → t σ H Q → wpAny (model X.prog X.w) X.A (evalAll ((backToKw pos (keywordEach kws X.env)).map (·.2))) (AP X pins σ Q) X.xe s
section
variable {X : Cx} {CX : CXT} {k : Nat} {f C : Addr} {fd : FuncData} {ps ks : List Str} {sp : Sp} {E : XK} {x m : Str} {p pos apos kpos : Pos} {e o : Expr} {es : List Expr} {kws : List Keyword} {te ta : TE} {t tk : TA} {nm : Option Str}
theorem pk_nil : PK X [] tNil := fun _ _ _ _ H Q I h => wpAny_evalAll_nil ⟨[], H, I, .nil, h⟩
theorem pk_cons (ha : PE X e te) (hr : PK X kws t) : PK X (⟨nm, e, kpos⟩ :: kws) (tCons te t) := by
  intro pos pins s σ H Q I h
  show wpAny _ _ (evalAll ((do let v ← eval e X.env; standAt pos; pure v) :: (backToKw pos (keywordEach kws X.env)).map (·.2))) _ _ s
  refine wpAny_evalAll_cons (wpAny_bind (thn (ha pins s σ H _ I h) fun u s1 ⟨x, H1, I1, r1, q1⟩ => wpAny_bind (wpAny_standAt (wpAny_pure ?_))))
  exact thn (hr pos pins s1 σ H1 _ I1 q1) fun us s2 ⟨xs, H2, I2, r2, q2⟩ => ⟨x :: xs, H2, I2, .cons r1 r2, q2⟩

/-- how a call with keywords binds: g puts the positional values us and the keywords' values ws (names ks) in the parameters' order, defaults among them -/
structure KBinds (K : PySem.W.Frag) (fd : FuncData) (ps ks : List Str) (g : List Value → List Value → List Value) (gV : List V → List V → List V) : Prop where
  to : ∀ (s : Shared) (us ws : List Value), K.In s.heap → (g us ws).length = ps.length → BindsTo s fd ⟨us, ks.zip ws⟩ (ps.zip (g us ws))
  rel : ∀ {vs : List V} {us : List Value} {zs : List V} {ws : List Value}, Vals vs us → Vals zs ws → Vals (gV vs zs) (g us ws)
def tCallK (sp : Sp) (gV : List V → List V → List V) (E : XK) (t tk : TA) : TE := fun σ H Q => t σ H fun vs H1 => tk σ H1 fun zs H2 => sp (gV vs zs) H2 Q E
variable {g : List Value → List Value → List Value} {gV : List V → List V → List V}
theorem run_fnk {pins : List (Addr × Obj)} {σ : St} {H : Hp} {s : Shared} {Q : VK} {us ws : List Value} {vs zs : List V} (F : FnOk X.prog X.w X.K X.mg X.base CX k f fd ps sp) (hr : Room k X.A) (hb : KBinds X.K fd ps ks g gV) (hx : Passes CX X E)
    (I : Inv X pins σ H s) (r : Vals vs us) (rz : Vals zs ws) (h : sp (gV vs zs) H Q E) : wpAny (model X.prog X.w) X.A (call (.ref f) us (ks.zip ws)) (EP X pins σ Q) X.xe s := by
  have r2 := hb.rel r rz
  have hl : (g us ws).length = ps.length := by rw [← r2.length]; exact F.len _ _ _ _ h
  refine wpAny_call (codeAny_mono (F.run X.A X.stack s H ⟨us, ks.zip ws⟩ (g us ws) (gV vs zs) Q E hr I.env0 (hb.to s us ws I.kIn hl) r2 h) fun r s' hq => ?_)
  cases r with
  | error e => exact hx pins σ H s e s' I hq
  | ok fl =>
    cases fl with
    | ret u => exact I.after hq
    | next => exact False.elim hq
    | brk => exact False.elim hq
    | cont => exact False.elim hq
/-- f(e, .., k = v, ..) -/
theorem pe_callK (F : FnOk X.prog X.w X.K X.mg X.base CX k f fd ps sp) (hr : Room k X.A) (hg : Gl X x) (hm : X.mg x = some (.ref f)) (hk : PySem.W.keepIn X.K (.ref f) = true) (hb : KBinds X.K fd ps ks g gV) (hx : Passes CX X E)
    (ha : PA X (e :: es) t) (hkw : PK X kws tk) (hall : (backToKw pos (keywordEach kws X.env)).all (·.1.isSome) = true := by rfl) (hks : (backToKw pos (keywordEach kws X.env)).filterMap (·.1) = ks := by rfl)
    (hdb : (x == ("__debug__" : Str)) = false := by decide) (he : starEach (e :: es) X.env = (false, eval e X.env) :: starEach es X.env := by rfl)
    (hpl : ((backTo pos (starEach (e :: es) X.env)).any (·.1) || (backToKw pos (keywordEach kws X.env)).any (·.1.isNone)) = false := by rfl) :
    PE X (.Call (.Name x p) (e :: es) kws pos) (tCallK sp gV E t tk) := by
  intro pins s σ H Q I h
  refine wpAny_Call_Name_kw (ld_glob I hg hm ?_ hdb)
  refine PySem.W.callWith_KW (h₀ := X.base) I.ok.mod.kin hk hall (thn (ha pos pins s σ H _ I h) fun us s1 ⟨vs, H1, I1, r, q⟩ => ?_) hpl he
  refine thn (hkw pos pins s1 σ H1 _ I1 q) fun ws s2 ⟨zs, H2, I2, rz, q2⟩ => ⟨I2.kIn, ?_⟩
  rw [hks]
  exact run_fnk F hr hb hx I2 r rz q2
end

/-! ### a def's body keeps its promise -/
/-- names: the parameters first -/
structure FnScope (N P : List Str) (sc : Scope) : Prop where
  kind : sc.kind = .function
  co : sc.isCoroutine = false
  gen : sc.isGenerator = false
  nd : N.Nodup
  pre : N.take P.length = P
  par : ∀ x ∈ P, sc.names.lookup x = some .local ∨ sc.names.lookup x = some .cell
  nofree : ∀ y ∈ sc.names, y.2 ≠ .free

theorem bindL_out {kindOf : Str → Option NameKind} {x : Str} : ∀ {binds : List (Str × Value)} {m : Str → Option Value}, (∀ v, (x, v) ∉ binds) → bindL kindOf binds m x = m x
  | [], _, _ => rfl
  | (n, v) :: r, m, h => by
    unfold bindL
    rw [bindL_out fun w hw => h w (List.mem_cons_of_mem _ hw)]
    split
    · have : x ≠ n := by rintro rfl; exact h v List.mem_cons_self
      simp [this]
    · rfl
theorem bindC_out {kindOf : Str → Option NameKind} {x : Str} : ∀ {binds : List (Str × Value)} {m : Str → Option Value}, (∀ v, (x, v) ∉ binds) → bindC kindOf binds m x = m x
  | [], _, _ => rfl
  | (n, v) :: r, m, h => by
    unfold bindC
    rw [bindC_out fun w hw => h w (List.mem_cons_of_mem _ hw)]
    split
    · rfl
    · have : x ≠ n := by rintro rfl; exact h v List.mem_cons_self
      simp [this]
theorem bindL_get {kindOf : Str → Option NameKind} {x : Str} {v : Value} : ∀ {P : List Str} {vs : List Value} {i : Nat} {m : Str → Option Value}, P.Nodup → P[i]? = some x → vs[i]? = some v → kindOf x = some .local →
    bindL kindOf (P.zip vs) m x = some v
  | [], _, _, _, _, h, _, _ => by simp at h
  | _ :: _, [], _, _, _, _, h, _ => by simp at h
  | p :: P, w :: vs, 0, m, nd, h1, h2, hk => by
    simp at h1 h2; subst h1; subst h2
    show bindL kindOf ((p, w) :: P.zip vs) m p = _
    unfold bindL
    rw [bindL_out fun v hv => (List.nodup_cons.mp nd).1 (List.of_mem_zip hv).1, if_pos hk]
    simp
  | p :: P, w :: vs, i + 1, m, nd, h1, h2, hk => by
    show bindL kindOf ((p, w) :: P.zip vs) m x = _
    unfold bindL
    exact bindL_get (i := i) (List.nodup_cons.mp nd).2 (by simpa using h1) (by simpa using h2) hk
theorem bindC_get {kindOf : Str → Option NameKind} {x : Str} {v : Value} : ∀ {P : List Str} {vs : List Value} {i : Nat} {m : Str → Option Value}, P.Nodup → P[i]? = some x → vs[i]? = some v → kindOf x ≠ some .local →
    bindC kindOf (P.zip vs) m x = some v
  | [], _, _, _, _, h, _, _ => by simp at h
  | _ :: _, [], _, _, _, _, h, _ => by simp at h
  | p :: P, w :: vs, 0, m, nd, h1, h2, hk => by
    simp at h1 h2; subst h1; subst h2
    show bindC kindOf ((p, w) :: P.zip vs) m p = _
    unfold bindC
    rw [bindC_out fun v hv => (List.nodup_cons.mp nd).1 (List.of_mem_zip hv).1, if_neg hk]
    simp
  | p :: P, w :: vs, i + 1, m, nd, h1, h2, hk => by
    show bindC kindOf ((p, w) :: P.zip vs) m x = _
    unfold bindC
    exact bindC_get (i := i) (List.nodup_cons.mp nd).2 (by simpa using h1) (by simpa using h2) hk

/-- the names' values at the entry -/
def start (N : List Str) (vs : List V) : St := vs.map some ++ List.replicate (N.length - vs.length) none

/-- the context of a def's body, at its entry; an exception leaves the frame, then lies as CX says -/
def cxOf (CX : CXT) (P : Program) (w : World) (K : PySem.W.Frag) (mg : Str → Option Value) (base : Heap) (N : List Str) (qual : Str) (scope : Scope) (f : Addr) (cd : Value) (A : Around) (outer : List Env) (s : Shared) (H : Hp) (E : XK) : Cx where
  prog := P
  w := w
  K := K
  mg := mg
  base := base
  A := A.deeper (envOfC qual scope s.heap.objs.size f cd)
  N := N
  s_0 := s
  H_0 := H
  env := envOfC qual scope s.heap.objs.size f cd
  outer := outer
  stack := envOfC qual scope s.heap.objs.size f cd :: outer
  ex := []
  calm := true
  fn := fun _ => true
  pn := []
  xe := fun e s' => wpAny (model P w) (A.deeper (envOfC qual scope s.heap.objs.size f cd)) (leaving (envOfC qual scope s.heap.objs.size f cd) e) (fun _ s'' => CX outer H s E e s'') (fun e' s'' => CX outer H s E e' s'') s'

theorem cell_has {sc : Scope} {n : Nat} {x : Str} (h : sc.names.lookup x = some .cell) : ∃ c, (cellsFrom n sc.names []).lookup x = some c := by
  have q := PySem.W.cellsFrom_some sc.names n [] (.inl h)
  exact Option.isSome_iff_exists.mp q

theorem inv_start {CX : CXT} {P : Program} {w : World} {K : PySem.W.Frag} {mg : Str → Option Value} {base : Heap} {N ps : List Str} {qual : Str} {scope : Scope} {f : Addr} {cd : Value} {A : Around} {outer : List Env} {s s1 : Shared} {H : Hp} {E : XK} {us : List Value} {vs : List V}
    (S : FnScope N ps scope) (hd : A.handled = none) (e0 : Env0 P w K mg base A outer s H) (hl : vs.length = ps.length) (r : Vals vs us)
    (x : InCallC s s.heap.objs.size (bindL (envOfC qual scope s.heap.objs.size f cd).kindOf (ps.zip us) fun _ => none) (cellsFrom (s.heap.objs.size + 1) scope.names []) (bindC (envOfC qual scope s.heap.objs.size f cd).kindOf (ps.zip us) fun _ => none) s1) :
    Inv (cxOf CX P w K mg base N qual scope f cd A outer s H E) [] (start N vs) H s1 := by
  have hpl : ps.length ≤ N.length := by have := congrArg List.length S.pre; rw [List.length_take] at this; omega
  obtain ⟨h1, tk, rfl, hk⟩ := x.done
  have noA : ∀ b : Addr, b ∉ (cxOf CX P w K mg base N qual scope f cd A outer s H E).ex := fun b z => absurd (show b ∈ ([] : List Addr) from z) (by simp)
  refine ⟨⟨e0.mod, S.kind, rfl, rfl, Nat.le_refl _, fun y z c h1 h2 => ?_, fun y hy => ?_, fun y c _ h => ?_, fun _ => hd, Around.frames_deeper e0.frames, .inr ⟨rfl, rfl⟩, fun b z => absurd z (noA b), e0.bs, e0.bsz, fun b _ _ => noA b, fun b z => absurd z (noA b), e0.funs, e0.frf⟩,
    rfl, e0.bare, Un.kept hk, ⟨_, x.toInCall.ns, fun i y v h1 h2 h3 => ?_⟩, fun y c h => ⟨_, x.cell y c h⟩, e0.hok.fresh (Nat.le_refl _), fun y c h => ?_, fun p hp => absurd (show p ∈ ([] : List (Addr × Obj)) from hp) (by simp), e0.hok.kept hk, ?_⟩
  · exact name_of_addr x.apart (PySem.mem_of_lookup h1) (PySem.mem_of_lookup h2)
  · have hy : scope.names.lookup y = some .cell ∨ scope.names.lookup y = some .free := hy
    rcases hy with hy | hy
    · exact cell_has hy
    · exact absurd rfl (S.nofree _ (PySem.mem_of_lookup hy))
  · exact Nat.le_of_lt (x.above y c (PySem.mem_of_lookup h))
  · have hi : i < vs.length := by
      unfold start at h2
      by_cases hi : i < vs.length
      · exact hi
      · rw [List.getElem?_append_right (by simpa using hi)] at h2
        rw [List.getElem?_replicate] at h2
        split at h2 <;> cases h2
    have ha : vs[i]? = some v := by
      unfold start at h2
      rw [List.getElem?_append_left (by simpa using hi), List.getElem?_map] at h2
      cases e : vs[i]? with
      | none => rw [e] at h2; cases h2
      | some a => rw [e] at h2; cases h2; rfl
    obtain ⟨u, hu, rv⟩ := r.get ha
    have hp : ps[i]? = some y := by
      rw [← S.pre, List.getElem?_take_of_lt (by omega)]; exact h1
    have ndP : ps.Nodup := by rw [← S.pre]; exact S.nd.sublist (List.take_sublist _ _)
    refine ⟨u, rv, ?_⟩
    rcases S.par y (List.mem_of_getElem? hp) with k | k
    · exact .inl ⟨k, bindL_get ndP hp hu k⟩
    · obtain ⟨c, e⟩ := cell_has (n := s.heap.objs.size + 1) k
      refine .inr ⟨.inl k, c, e, ?_⟩
      have q := x.cell y c e
      rw [bindC_get ndP hp hu (by show scope.names.lookup y ≠ _; rw [k]; decide)] at q
      exact q
  · exact e0.hok.fresh (Nat.le_of_lt (x.above y c (PySem.mem_of_lookup h)))
  · unfold start
    show _ = N.length
    rw [List.length_append, List.length_map, List.length_replicate]
    omega

/-- THE RULE: a def (or a method) of the text, by its body. The body's reading t is chosen for each entry; it is run at the parameters' values -/
theorem fn_of {CX : CXT} {P : Program} {w : World} {K : PySem.W.Frag} {mg : Str → Option Value} {base : Heap} {k : Nat} {f : Addr} {name qual : Str} {params : Arguments} {body : List Stmt} {scope : Scope} {dV kV doc pm cdv ct oc : Value} {an od : Option Addr}
    {osl : Array (Option Value)} {N ps : List Str} {sp : Sp} (lk : K.lookup f = some ⟨oc, od, .func (PySem.W.fnOf name qual params body scope dV kV doc pm an cdv ct), osl⟩) (hcd : PySem.W.codeIn K cdv qual = true) (S : FnScope N ps scope)
    (len : ∀ vs H Q E, sp vs H Q E → vs.length = ps.length)
    (hbody : ∀ (A : Around) (outer : List Env) (s : Shared) (H : Hp) (vs : List V) (Q : VK) (E : XK), Room k (A.deeper (envOfC qual scope s.heap.objs.size f cdv)) → sp vs H Q E →
      ∃ t, PSs (cxOf CX P w K mg base N qual scope f cdv A outer s H E) body t ∧ t { nx := fun _ H' => Q .non H', rt := Q } (start N vs) H) :
    FnOk P w K mg base CX (k + 1) f (PySem.W.fnOf name qual params body scope dV kV doc pm an cdv ct) ps sp := by
  refine ⟨len, fun A outer s H args us vs Q E hr e0 hb r hsp => ?_⟩
  have hl := len _ _ _ _ hsp
  have KX : K.In s.heap := e0.mod.kin.keeps fun b o e => (e0.bs b o e).1
  have lim : s.heap.NoLimit := e0.mod.nolimit.keeps fun b o e => (e0.bs b o e).1
  have hkind : ∀ y ∈ ps.zip us, scope.names.lookup y.1 = some .local ∨ (scope.names.lookup y.1 = some .cell ∧ ((cellsFrom (s.heap.objs.size + 1) scope.names []).lookup y.1).isSome = true) := fun ⟨n, v⟩ hy => by
    rcases S.par n (List.of_mem_zip hy).1 with q | q
    · exact .inl q
    · exact .inr ⟨q, PySem.W.cellsFrom_some _ _ _ (.inl q)⟩
  refine codeAny_call_function hr.depth (KX _ _ lk) rfl S.co S.gen rfl (PySem.W.codeRec_of KX hcd) (hb _ _ _ _ ?_)
  refine wpAny_newFunctionEnv_cells S.kind hkind fun env he s1 x => ?_
  subst he
  refine ⟨lim.keeps x.toInCall.keep, codeAny_func ?_⟩
  obtain ⟨t, ht, hq⟩ := hbody A outer s H vs Q E (hr.deeper _) hsp
  have I : Inv (cxOf CX P w K mg base N qual scope f cdv A outer s H E) [] (start N vs) H s1 := inv_start S hr.hd e0 hl r x
  refine wpAny_mono (ht [] s1 (start N vs) H _ I hq) (fun fl s' hs => ?_) fun e s' hs => hs
  have fin : ∀ {σ' : St} {H' : Hp} {v : V} {u : Value}, Inv (cxOf CX P w K mg base N qual scope f cdv A outer s H E) [] σ' H' s' → RelV v u → Q v H' → CE outer P w H s Q u s' :=
    fun {σ' H' v u} J rv q => ⟨v, H', J.os, J.bare, J.base, J.hok, rv, q⟩
  cases fl with
  | ret u =>
    obtain ⟨v, σ', H', J, rv, q⟩ := hs
    exact fin J rv q
  | next =>
    obtain ⟨σ', H', J, q⟩ := hs
    exact fin (v := V.non) (u := Value.none) J rfl q
  | brk =>
    obtain ⟨_, _, _, q⟩ := hs
    exact False.elim q
  | cont =>
    obtain ⟨_, _, _, q⟩ := hs
    exact False.elim q
end L2

namespace L2
open PySem PySem.Spec PyProof.Rows
section
variable {X : Cx} {x : Str} {p pos : Pos} {e : Expr} {es : List Expr} {t : TA} {id T : String} {r : List V → Hp → VK → Prop}

def tCB (r : List V → Hp → VK → Prop) (t : TA) : TE := fun σ H Q => t σ H fun vs H1 => r vs H1 Q
/-- f(e, ..), f a built-in function -/
theorem pe_callB (hc : CallR X (.builtin id) r) (hg : Gl X x) (hm : X.mg x = none) (hv : bootBuiltins x = some (.builtin id)) (ha : PA X (e :: es) t) (hn : x ≠ "__name__" := by decide) (hdb : (x == ("__debug__" : Str)) = false := by decide)
    (he : starEach (e :: es) X.env = (false, eval e X.env) :: starEach es X.env := by rfl) (hpl : (backTo pos (starEach es X.env)).any (·.1) = false := by rfl) : PE X (.Call (.Name x p) (e :: es) [] pos) (tCB r t) := by
  intro pins s σ H Q I h
  refine wpAny_Call_Name_kw (ld_blt I hg hm hv ?_ hn hdb)
  exact PyProof.Rows.callWith_builtin1 (thn (ha pos pins s σ H _ I h) fun us s1 ⟨vs, H1, I1, r1, q1⟩ => hc pins s1 σ H1 vs us Q I1 r1 q1) he hpl
/-- T(e, ..), T a built-in type -/
theorem pe_callTy (hc : CallR X (.type T) r) (hg : Gl X x) (hm : X.mg x = none) (hv : bootBuiltins x = some (.type T)) (ha : PA X (e :: es) t) (hn : x ≠ "__name__" := by decide) (hdb : (x == ("__debug__" : Str)) = false := by decide)
    (he : starEach (e :: es) X.env = (false, eval e X.env) :: starEach es X.env := by rfl) (hpl : (backTo pos (starEach es X.env)).any (·.1) = false := by rfl) : PE X (.Call (.Name x p) (e :: es) [] pos) (tCB r t) := by
  intro pins s σ H Q I h
  refine wpAny_Call_Name_kw (ld_blt I hg hm hv ?_ hn hdb)
  exact PyProof.Rows.callWith_type1 (thn (ha pos pins s σ H _ I h) fun us s1 ⟨vs, H1, I1, r1, q1⟩ => hc pins s1 σ H1 vs us Q I1 r1 q1) he hpl
/-- T() -/
theorem pe_callTy0 (hc : CallR X (.type T) r) (hg : Gl X x) (hm : X.mg x = none) (hv : bootBuiltins x = some (.type T)) (hn : x ≠ "__name__" := by decide) (hdb : (x == ("__debug__" : Str)) = false := by decide) :
    PE X (.Call (.Name x p) [] [] pos) (tCB r tNil) := by
  intro pins s σ H Q I h
  refine wpAny_Call_Name_kw (ld_blt I hg hm hv ?_ hn hdb)
  exact PyProof.Rows.callWith_type0 (hc pins s σ H [] [] Q I .nil h)
end
end L2

namespace HT
open PySem PyProof.Rows

/-- t < u of tuples of ints -/
def lexLt : List Int → List Int → Bool
  | [], [] => false
  | [], _ :: _ => true
  | _ :: _, [] => false
  | x :: xs, y :: ys => if x = y then lexLt xs ys else decide (x < y)
theorem lexLt_cons (x y : Int) (xs ys : List Int) : lexLt (x :: xs) (y :: ys) = if x = y then lexLt xs ys else decide (x < y) := rfl
theorem lexLt_nil_nil : lexLt [] [] = false := rfl
theorem lexLt_nil_cons (y : Int) (ys : List Int) : lexLt [] (y :: ys) = true := rfl
theorem lexLt_cons_nil (x : Int) (xs : List Int) : lexLt (x :: xs) [] = false := rfl

theorem eqAt_int (A : Around) (s : Shared) (a : Int) (t : Tok) (c : Int) (u : Tok) : ∃ e, SeqAt.EqAt A s (.int a t) (.int c u) e ∧ (e = true ↔ a = c) :=
  ⟨(a == c), SeqAt.EqAt.int_int a t c u, by simp⟩
theorem rcLt_int (A : Around) (s : Shared) (a : Int) (t : Tok) (c : Int) (u : Tok) (prog : Program) (w : World) (E : Value → Shared → Prop) (Q : Value → Shared → Prop) (h : Q (.bool (decide (a < c))) s) :
    wpAny (model prog w) A (richCompare .Lt (.int a t) (.int c u)) Q E s :=
  (PyProof.Rows.lt_int h : wpAny (model prog w) A (compareOp .Lt (.int a t) (.int c u)) Q E s)

section
open PySem.SeqAt
open PySem.AutoSeq1 (wpAny_loadPart')
open PySem.MeetsSeq PySem.MeetsSeq2 PySem.MeetsSeq3

theorem tuple_lt_ints (l b : Addr) (items items2 : Array Value) (n n2 : Nat) (dd dd2 : Option Addr) (sl sl2 : Array (Option Value)) (ns ms : List Int) (hi : IntsAre items.toList ns) (hj : IntsAre items2.toList ms) :
    Meets (Builtin.«tuple.__lt__» ⟨[.ref l, .ref b], []⟩)
      (fun _ R s => s.heap.get? l = some { cls := .type "tuple", dict := dd, data := .seq items n, slots := sl } ∧ s.heap.get? b = some { cls := .type "tuple", dict := dd2, data := .seq items2 n2, slots := sl2 } ∧
        R (.ok (.ret (.bool (lexLt ns ms)))) s) :=
  .of_wp fun prog w A R s h => by
    obtain ⟨hp, g, d, tk, os⟩ := s; obtain ⟨hl, hb, h⟩ := h
    have f2 := AutoSeq1.sub_tuple_tuple
    have z1 : items.size = ns.length := by rw [← hi.length]; simp
    have z2 : items2.size = ms.length := by rw [← hj.length]; simp
    wp_walk using wpAny_loadPart' hl, wpAny_loadPart' hb, wpAny_forIn_list _ (fun rest b s' => b.1 = none ∧ s' = ⟨hp, g, d, tk, os⟩ ∧ ∃ (vs ws : List Value) (ns' ms' : List Int), rest = vs.zip ws ∧
      IntsAre vs ns' ∧ IntsAre ws ms' ∧ ns'.length + items2.size = ms'.length + items.size ∧ R (.ok (.ret (.bool (lexLt ns' ms')))) ⟨hp, g, d, tk, os⟩) _
    case turn =>
      rintro ⟨y, x⟩ rest b s' ⟨hb', rfl, vs, ws, ns', ms', hz, hvi, hwi, hlen, hR⟩
      cases hvi with
      | nil => rw [List.zip_nil_left] at hz; cases hz
      | cons a t hvi' =>
        cases hwi with
        | nil => rw [List.zip_nil_right] at hz; cases hz
        | cons c u hwi' =>
          rw [List.zip_cons_cons] at hz
          injection hz with hyx hrest
          injection hyx with hy hx
          subst hy hx
          rw [lexLt_cons] at hR
          simp only [List.length_cons] at hlen
          obtain ⟨e, he, hiff⟩ := eqAt_int A.in1 ⟨hp, g, d, tk, os⟩ a t c u
          refine wpAny_bind (he prog w _ _ ?_)
          cases e with
          | true =>
            rw [if_pos (hiff.mp rfl)] at hR
            wp_walk
            exact ⟨rfl, rfl, _, _, _, _, hrest, hvi', hwi', by omega, hR⟩
          | false =>
            rw [if_neg (fun q => absurd (hiff.mpr q) Bool.false_ne_true)] at hR
            have hri := rcLt_int A.in1 ⟨hp, g, d, tk, os⟩ a t c u prog w
            wp_walk using hri
            exact ⟨_, rfl, by simpa using hR⟩
    case fin =>
      rintro ⟨b1, b2⟩ s' ⟨hb', rfl, vs, ws, ns', ms', hz, hvi, hwi, hlen, hR⟩
      simp only at hb'
      subst hb'
      have hv : lexLt ns' ms' = decide (items.size < items2.size) := by
        cases hvi with
        | nil =>
          cases hwi with
          | nil =>
            simp only [List.length_nil] at hlen
            rw [lexLt_nil_nil]
            exact (decide_eq_false (by omega)).symm
          | cons c u hw =>
            simp only [List.length_nil, List.length_cons] at hlen
            rw [lexLt_nil_cons]
            exact (decide_eq_true (by omega)).symm
        | cons a t hv =>
          cases hwi with
          | nil =>
            simp only [List.length_nil, List.length_cons] at hlen
            rw [lexLt_cons_nil]
            exact (decide_eq_false (by omega)).symm
          | cons c u hw =>
            rw [List.zip_cons_cons] at hz
            cases hz
      rw [hv] at hR
      wp_walk
      exact ⟨_, rfl, by simpa [Builtin.Tuple.tupleCompareSizes] using hR⟩
    case h =>
      exact ⟨rfl, rfl, items.toList, items2.toList, ns, ms, rfl, hi, hj, by omega, h⟩
end

section
variable {prog : Program} {w : World} {A : Around} {E : Value → Shared → Prop} {s : Shared}

theorem lt_tupInts {l b : Addr} {items items2 : Array Value} {ns ms : List Int} {Q : Value → Shared → Prop} (hl : IsTup s.heap l items) (hb : IsTup s.heap b items2) (hi : IntsAre items.toList ns) (hj : IntsAre items2.toList ms)
    (hu : A.units < cLine) (h : Q (.bool (lexLt ns ms)) s) : wpAny (model prog w) A (compareOp .Lt (.ref l) (.ref b)) Q E s := by
  obtain ⟨⟨cls, dd, data, sl⟩, ho, hc, n, hd⟩ := id hl
  obtain ⟨⟨cls2, dd2, data2, sl2⟩, ho2, hc2, n2, hd2⟩ := id hb
  simp only at hc hd hc2 hd2
  subst hc hd hc2 hd2
  exact richCompare_meets_room (op := .Lt) ⟨_, ho, rfl⟩ ⟨_, ho2, rfl⟩ PySem.F.slot_tuple_lt PySem.F.entry_tuple_lt (PySem.F.args_tuple_lt_2 _ _) (tuple_lt_ints l b items items2 n n2 dd dd2 sl sl2 ns ms hi hj)
    ⟨ho, ho2, show Value.bool (lexLt ns ms) ≠ Value.notImplemented ∧ Q (.bool (lexLt ns ms)) s from ⟨(fun x => nomatch x), h⟩⟩ hu

/-- t + u, t not empty -/
theorem cat_tup {t b : Addr} {vs ws : List Value} {Q : Value → Shared → Prop} (ht : IsTup s.heap t vs.toArray) (hb : IsTup s.heap b ws.toArray) (hv : vs ≠ [])
    (h1 : ws = [] → Q (.ref t) s) (h2 : ws ≠ [] → Q (.ref s.heap.objs.size) { s with heap := s.heap.push { cls := .type "tuple", data := .seq (vs ++ ws).toArray } })
    (hsz : vs.length + ws.length ≤ sizeLine) : wpAny (model prog w) A (binaryOp .Add (.ref t) (.ref b)) Q E s := by
  obtain ⟨⟨cls, dd, data, sl⟩, ho, hc, n, hd⟩ := id ht
  obtain ⟨⟨cls2, dd2, data2, sl2⟩, ho2, hc2, n2, hd2⟩ := id hb
  simp only at hc hd hc2 hd2
  subst hc hd hc2 hd2
  have e : vs.toArray ++ ws.toArray = (vs ++ ws).toArray := by simp
  by_cases hw : ws = []
  · exact concat_meets ⟨_, ho, rfl⟩ ⟨_, ho2, rfl⟩ noFill_tuple_add seq_tuple_add PySem.F.slot_tuple_add PySem.F.entry_tuple_add (PySem.F.args_tuple_add_2 _ _)
      (tuple_addW1 t b vs.toArray ws.toArray n n2 dd dd2 sl sl2 (by simpa using hv) (by simp [hw])) ⟨ho, ho2, h1 hw⟩
  · refine concat_meets ⟨_, ho, rfl⟩ ⟨_, ho2, rfl⟩ noFill_tuple_add seq_tuple_add PySem.F.slot_tuple_add PySem.F.entry_tuple_add (PySem.F.args_tuple_add_2 _ _)
      (tuple_addW2 t b vs.toArray ws.toArray n n2 dd dd2 sl sl2 (by simpa using hv) (by simpa using hw) (by rw [List.size_toArray, List.size_toArray]; exact hsz)) ⟨ho, ho2, ?_⟩
    rw [e]
    exact h2 hw

/-! ### t[a:b], not the whole -/
/-- a slice's bound as a place among n (d where it is left out) -/
def sIx (n d : Nat) : Option Int → Nat
  | none => d
  | some v => if v < 0 then (v + (n : Int)).toNat else min v.toNat n
theorem sIx_none (n d : Nat) : sIx n d none = d := rfl
theorem sIx_nat (n d k : Nat) : sIx n d (some (k : Int)) = min k n := by
  show (if (k : Int) < 0 then ((k : Int) + (n : Int)).toNat else min (k : Int).toNat n) = min k n
  rw [if_neg (by omega), Int.toNat_natCast]
theorem sIx_le (n d : Nat) (hd : d ≤ n) (o : Option Int) : sIx n d o ≤ n := by
  cases o with
  | none => exact hd
  | some v =>
    show (if v < 0 then (v + (n : Int)).toNat else min v.toNat n) ≤ n
    by_cases hv : v < 0
    · rw [if_pos hv]; omega
    · rw [if_neg hv]; exact Nat.min_le_right _ _
theorem clip_eq (v : Int) (n d : Nat) : (if v < 0 then max (v + (n : Int)) 0 else min v (n : Int)) = ((sIx n d (some v) : Nat) : Int) := by
  show (if v < 0 then max (v + (n : Int)) 0 else min v (n : Int)) = (((if v < 0 then (v + (n : Int)).toNat else min v.toNat n) : Nat) : Int)
  by_cases hv : v < 0
  · simp only [if_pos hv]; omega
  · simp only [if_neg hv]; omega
theorem adjust_gen (lo hi : Option Int) (n : Nat) : Builtin.Slice.sliceAdjust lo hi 1 (n : Int) = (((sIx n 0 lo : Nat) : Int), ((sIx n n hi : Nat) : Int)) := by
  have h1 : ¬ ((1 : Int) < 0) := by omega
  unfold Builtin.Slice.sliceAdjust
  simp only [h1, if_false]
  refine Prod.ext ?_ ?_
  · cases lo with
    | none => rfl
    | some v => exact clip_eq v n 0
  · cases hi with
    | none => rfl
    | some v => exact clip_eq v n n
theorem places_gen (i j : Nat) : Builtin.Slice.slicePlaces (i : Int) (j : Int) 1 = j - i := by
  unfold Builtin.Slice.slicePlaces
  have h1 : (1 : Int) > 0 := by omega
  simp only [h1, if_true, Int.ediv_one]
  split <;> omega
theorem slicePart_ {v : Value} {o : Option Int} {Q : Option Int → Shared → Prop} (p : IsPart v o) (h : Q o s) : wpAny (model prog w) A (Builtin.Slice.slicePartIndex v) Q E s := by
  cases p with
  | none => exact slicePart_none h
  | int i t => exact slicePart_int h
theorem sliceApplied_gen {sl : Addr} {vl vu : Value} {lo hi : Option Int} {n : Nat} {Q : Int × Int × Nat → Shared → Prop} (hs : s.heap.IsSliceOf sl vl vu .none) (pl : IsPart vl lo) (pu : IsPart vu hi)
    (h : Q (((sIx n 0 lo : Nat) : Int), 1, sIx n n hi - sIx n 0 lo) s) : wpAny (model prog w) A (Builtin.Slice.sliceApplied (.ref sl) (pure (n : Int))) Q E s := by
  obtain ⟨os, hos, hcs, hds⟩ := id hs
  unfold Builtin.Slice.sliceApplied Builtin.Slice.sliceFields
  refine wpAny_bind (wpAny_bind (wpAny_field hos hds (x := vl) rfl (wpAny_bind (wpAny_field hos hds (x := vu) rfl (wpAny_bind (wpAny_field hos hds (x := .none) rfl (wpAny_pure ?_)))))))
  refine wpAny_bind (slicePart_none ?_)
  show wpAny _ _ (if ((1 : Int) == 0) = true then _ else _) _ _ s
  rw [if_neg (by decide)]
  refine wpAny_bind (slicePart_ pl (wpAny_bind (slicePart_ pu (wpAny_bind (wpAny_pure ?_)))))
  show wpAny _ _ (match Builtin.Slice.sliceAdjust lo hi 1 (n : Int) with | (lo, hi) => pure (lo, (1 : Int), Builtin.Slice.slicePlaces lo hi 1)) _ _ s
  rw [adjust_gen lo hi n]
  show wpAny _ _ (pure (((sIx n 0 lo : Nat) : Int), (1 : Int), Builtin.Slice.slicePlaces ((sIx n 0 lo : Nat) : Int) ((sIx n n hi : Nat) : Int) 1)) _ _ s
  rw [places_gen]
  exact wpAny_pure h
theorem pick_gen (xs : Array Value) (i k : Nat) : ((List.range k).filterMap fun (m : Nat) => xs[((i : Int) + (m : Int) * 1).toNat]?).toArray = ((xs.toList.drop i).take k).toArray := by
  have e : (fun (m : Nat) => xs[((i : Int) + (m : Int) * 1).toNat]?) = fun m => xs[i + m]? := by
    funext m
    have : ((i : Int) + (m : Int) * 1).toNat = i + m := by omega
    rw [this]
  rw [e]
  have := pick_run xs i k
  rw [List.filterMap_map] at this
  have e2 : ((fun x => xs[x]?) ∘ fun x => i + x) = fun m => xs[i + m]? := rfl
  rw [e2] at this
  rw [this]

theorem getItem_tuple_cut {t sl : Addr} {items : Array Value} {vl vu : Value} {lo hi : Option Int} {Q : Value → Shared → Prop} (ht : IsTup s.heap t items) (hs : s.heap.IsSliceOf sl vl vu .none) (pl : IsPart vl lo) (pu : IsPart vu hi)
    (hw : ¬ (sIx items.size 0 lo = 0 ∧ sIx items.size items.size hi = items.size))
    (h : Q (.ref s.heap.objs.size) { s with heap := s.heap.push { cls := .type "tuple", data := .seq ((items.toList.drop (sIx items.size 0 lo)).take (sIx items.size items.size hi - sIx items.size 0 lo)).toArray } })
    (hsz : items.size ≤ sizeLine) : wpAny (model prog w) A (getItem (.ref t) (.ref sl)) Q E s := by
  have htake : sizeOk (.seq ((items.toList.drop (sIx items.size 0 lo)).take (sIx items.size items.size hi - sIx items.size 0 lo)).toArray) := by
    show ((items.toList.drop (sIx items.size 0 lo)).take (sIx items.size items.size hi - sIx items.size 0 lo)).toArray.size ≤ sizeLine
    rw [List.size_toArray, List.length_take, List.length_drop, Array.length_toList]
    omega
  have hj : sIx items.size items.size hi ≤ items.size := sIx_le _ _ (Nat.le_refl _) hi
  obtain ⟨os, hos, hcs, hds⟩ := id hs
  have hTs : s.TypeIs (.ref sl) "slice" := ⟨os, hos, hcs⟩
  unfold getItem
  try with_reducible refine wpAny_holding ?_
  first | refine wpAny_bind (wpAny_pure ?_) | skip
  refine wpAny_bind (wpAny_sequenceKey ht.typeIs (by decide) ?_)
  refine wpAny_bind (wpAny_callSpecial?_slot (name := Str.ofString "__getitem__") ht.typeIs PyProof.Rows.slot_tuple_getitem
    (wpAny_call_entry PyProof.Rows.slot_tuple_getitem ht.typeIs entry_tuple_getitem ?_ (args_tuple_getitem _ _)))
  show wpAny _ _ (Builtin.Tuple.tupleItemsOf (.ref t) >>= _) _ _ s
  refine wpAny_bind (tupleItemsOf_ ht ?_)
  refine wpAny_bind (wpAny_typeOf hTs ?_)
  rw [if_pos (by decide)]
  refine wpAny_bind (sliceApplied_gen hs pl pu ?_)
  have hno : ¬ ((((sIx items.size 0 lo : Nat) : Int) == 0 && (1 : Int) == 1 && (sIx items.size items.size hi - sIx items.size 0 lo) == items.size) = true) := by
    intro q
    rw [Bool.and_eq_true, Bool.and_eq_true] at q
    have q1 : ((sIx items.size 0 lo : Nat) : Int) = 0 := eq_of_beq q.1.1
    have q2 : sIx items.size items.size hi - sIx items.size 0 lo = items.size := eq_of_beq q.2
    exact hw ⟨by omega, by omega⟩
  show wpAny _ _ (if (((sIx items.size 0 lo : Nat) : Int) == 0 && (1 : Int) == 1 && (sIx items.size items.size hi - sIx items.size 0 lo) == items.size) = true then _ else _) _ _ s
  rw [if_neg hno, pick_gen]
  first
    | exact wpAny_bind (m := Builtin.Tuple.tupleExact _) (wpAny_newObj_type (wpAny_pure ⟨_, rfl, wpAny_pure h⟩) htake)
    | exact wpAny_bind (m := Builtin.Tuple.tupleExact _) (wpAny_newObj_type (wpAny_bind (wpAny_pure (wpAny_pure ⟨_, rfl, wpAny_pure h⟩))) htake)
    | exact wpAny_bind (wpAny_bind (m := Builtin.Tuple.tupleExact _) (wpAny_newObj_type (wpAny_pure (wpAny_pure ⟨_, rfl, wpAny_pure h⟩)) htake))
    | exact wpAny_bind (wpAny_bind (m := Builtin.Tuple.tupleExact _) (wpAny_newObj_type (wpAny_pure ⟨_, rfl, wpAny_pure h⟩) htake))
end
end HT

namespace L2
open PySem PySem.Spec PyProof.Rows

/-! ### the parts of a slice -/
abbrev TO := St → Hp → (Option Int → Hp → Prop) → Prop
/-- a slice's part (left out, or an int) -/
def PO (X : Cx) (e : Option Expr) (t : TO) : Prop :=
  ∀ (pins : List (Addr × Obj)) (s : Shared) (σ : St) (H : Hp) (Q : Option Int → Hp → Prop), Inv X pins σ H s → t σ H Q →
    wpAny (model X.prog X.w) X.A (evalPart e X.env) (fun u s' => ∃ o H', Inv X pins σ H' s' ∧ IsPart u o ∧ Q o H') X.xe s
def tNoPart : TO := fun _ H Q => Q none H
def tPart (t : TE) : TO := fun σ H Q => t σ H fun x H1 => ∃ i, x = .int i ∧ Q (some i) H1

theorem intsAre_of {ns : List Int} : ∀ {us : List Value}, Vals (ns.map V.int) us → IntsAre us ns := by
  induction ns with
  | nil => intro us r; rw [List.map_nil] at r; cases r; exact .nil
  | cons n ns ih =>
    intro us r
    rw [List.map_cons] at r
    cases r with
    | cons r1 r2 =>
      obtain ⟨t, e⟩ := r1
      subst e
      exact .cons n t (ih r2)

section
variable {X : Cx} {e : Expr} {te : TE} {lo hi : Option Expr} {tl th : TO} {pos p2 : Pos}

theorem po_none : PO X none tNoPart := by
  intro pins s σ H Q I h
  rw [evalPart_none]
  exact wpAny_pure ⟨none, H, I, .none, h⟩
theorem po_some (h : PE X e te) : PO X (some e) (tPart te) := by
  intro pins s σ H Q I hw
  rw [evalPart_some]
  refine thn (h pins s σ H _ I hw) fun u s1 ⟨x, H1, I1, r1, q1⟩ => ?_
  obtain ⟨i, rfl, q⟩ := q1
  obtain ⟨t, rfl⟩ := r1
  exact ⟨some i, H1, I1, .int i t, q⟩

/-- what a slice of a value is, by values: the slice object stands at sl -/
def SlR (X : Cx) (r : V → Option Int → Option Int → Hp → VK → Prop) : Prop :=
  ∀ (pins : List (Addr × Obj)) (s : Shared) (σ : St) (H : Hp) (x : V) (v vl vu : Value) (lo hi : Option Int) (sl : Addr) (Q : VK), Inv X pins σ H s → RelV x v → s.heap.IsSliceOf sl vl vu .none → IsPart vl lo → IsPart vu hi → r x lo hi H Q →
    ∃ T id, typeLookup (.type T) "__getitem__" = pure (some (.builtin id)) ∧ s.TypeIs v T ∧ wpAny (model X.prog X.w) X.A (getItem v (.ref sl)) (EP X pins σ Q) X.xe s
theorem SlR.or {r r' : V → Option Int → Option Int → Hp → VK → Prop} (h : SlR X r) (h' : SlR X r') : SlR X (fun x lo hi H Q => r x lo hi H Q ∨ r' x lo hi H Q) := by
  intro pins s σ H x v vl vu lo hi sl Q I rx hs pl pu q
  rcases q with q | q
  · exact h pins s σ H x v vl vu lo hi sl Q I rx hs pl pu q
  · exact h' pins s σ H x v vl vu lo hi sl Q I rx hs pl pu q
def tSl (r : V → Option Int → Option Int → Hp → VK → Prop) (te : TE) (tl th : TO) : TE := fun σ H Q => te σ H fun x H1 => tl σ H1 fun l H2 => th σ H2 fun u H3 => r x l u H3 Q
/-- a[lo:hi], any a -/
theorem pe_slice {r : V → Option Int → Option Int → Hp → VK → Prop} (hr : SlR X r) (he : PE X e te) (hl : PO X lo tl) (hu : PO X hi th) : PE X (.Subscript e (.Slice lo hi none p2) pos) (tSl r te tl th) := by
  intro pins s σ H Q I h
  refine Subscript_ (thn (he pins s σ H _ I h) fun v s1 ⟨x, H1, I1, r1, q1⟩ => ?_)
  refine wpAny_Slice (thn (hl pins s1 σ H1 _ I1 q1) fun vl s2 ⟨l, H2, I2, pl, q2⟩ => thn (hu pins s2 σ H2 _ I2 q2) fun vu s3 ⟨u, H3, I3, pu, q3⟩ => ?_)
  rw [evalPart_none]
  refine wpAny_pure ?_
  have I4 : Inv X pins σ H3 { s3 with heap := s3.heap.push { cls := .type "slice", data := .fields #[vl, vu, .none] } } := I3.kept (t' := s3.toks) fun b ob q => Heap.get?_push_of_some _ q
  obtain ⟨T, id, hT, ht, hg⟩ := hr pins { s3 with heap := s3.heap.push { cls := .type "slice", data := .fields #[vl, vu, .none] } } σ H3 x v vl vu l u s3.heap.objs.size Q I4 r1 (Heap.IsSliceOf.new ..) pl pu q3
  show wpAny (model X.prog X.w) X.A (subscriptTail e (.Slice lo hi none p2) v (.ref s3.heap.objs.size)) (EP X pins σ Q) X.xe { s3 with heap := s3.heap.push { cls := .type "slice", data := .fields #[vl, vu, .none] } }
  exact tail_any (ops := [.ref s3.heap.objs.size, v]) ht hT hg (by with_unfolding_all rfl)

/-- the items of xs[lo:hi] -/
def cutV (xs : List V) (lo hi : Option Int) : List V := (xs.drop (HT.sIx xs.length 0 lo)).take (HT.sIx xs.length xs.length hi - HT.sIx xs.length 0 lo)
theorem cutV_length (xs : List V) (lo hi : Option Int) : (cutV xs lo hi).length ≤ xs.length := by
  unfold cutV
  rw [List.length_take, List.length_drop]
  omega
/-- t[lo:hi], not the whole of it (the whole would be t itself) -/
def rSlT (K : PySem.W.Frag) : V → Option Int → Option Int → Hp → VK → Prop := fun x lo hi H Q => ∃ a xs, x = .ref a ∧ SqT K H a xs ∧
  ¬ (HT.sIx xs.length 0 lo = 0 ∧ HT.sIx xs.length xs.length hi = xs.length) ∧ ∀ p, H p = none → Q (.ref p) (upd H p (.tup (cutV xs lo hi)))
theorem sl_tup : SlR X (rSlT X.K) := by
  intro pins s σ H x v vl vu lo hi sl Q I rx hs pl pu h
  obtain ⟨a, xs, rfl, hx, hw, q⟩ := h
  cases rx
  obtain ⟨its, r, ht, hz⟩ := I.tuple hx
  have hlen : its.toArray.size = xs.length := by rw [List.size_toArray]; exact r.length.symm
  refine ⟨"tuple", _, PyProof.Rows.slot_tuple_getitem.lookup, ht.typeIs, ?_⟩
  refine HT.getItem_tuple_cut ht hs pl pu (by rw [hlen]; exact hw) ?_ (by rw [hlen]; exact hz)
  rw [hlen]
  refine ⟨.ref s.heap.objs.size, _, I.laid (t' := s.toks) (o := .tup (cutV xs lo hi)) (fun b ob q => Heap.get?_push_of_some _ q) (Nat.le_refl _) ?_, rfl, q _ (I.hok.fresh (Nat.le_refl _))⟩
  exact ⟨Nat.le_trans (cutV_length xs lo hi) hz, _, (r.drop (HT.sIx xs.length 0 lo)).take (HT.sIx xs.length xs.length hi - HT.sIx xs.length 0 lo), IsTup.new _ _⟩

/-! ### t < u, t + u -/
def rLtT (K : PySem.W.Frag) : R2 := fun x y H Q => ∃ a b ns ms, x = .ref a ∧ y = .ref b ∧ SqT K H a (ns.map V.int) ∧ SqT K H b (ms.map V.int) ∧ Q (.bl (HT.lexLt ns ms)) H
theorem op_ltT (hu : X.A.units < cLine) : OpR X (compareOp .Lt) (rLtT X.K) := by
  intro pins s σ H x y v u Q I rx ry h
  obtain ⟨a, b, ns, ms, rfl, rfl, ha, hb, q⟩ := h
  cases rx
  cases ry
  obtain ⟨its, r1, p1, _⟩ := I.tuple ha
  obtain ⟨its2, r2, p2, _⟩ := I.tuple hb
  have i1 : IntsAre its.toArray.toList ns := intsAre_of r1
  have i2 : IntsAre its2.toArray.toList ms := intsAre_of r2
  exact HT.lt_tupInts p1 p2 i1 i2 hu ⟨.bl (HT.lexLt ns ms), H, I, rfl, q⟩
/-- t + u, t not empty: u empty gives t itself -/
def rCatT (K : PySem.W.Frag) : R2 := fun x y H Q => ∃ a b xs ys, x = .ref a ∧ y = .ref b ∧ SqT K H a xs ∧ SqT K H b ys ∧ xs ≠ [] ∧ xs.length + ys.length ≤ sizeLine ∧
  (ys = [] → Q (.ref a) H) ∧ (ys ≠ [] → ∀ p, H p = none → Q (.ref p) (upd H p (.tup (xs ++ ys))))
theorem Vals.nil_iff {xs : List V} {us : List Value} (r : Vals xs us) : us = [] ↔ xs = [] := by
  cases r with
  | nil => simp
  | cons _ _ => simp
theorem op_catT : OpR X (binaryOp .Add) (rCatT X.K) := by
  intro pins s σ H x y v u Q I rx ry h
  obtain ⟨a, b, xs, ys, rfl, rfl, ha, hb, hx, hz, q1, q2⟩ := h
  cases rx
  cases ry
  obtain ⟨its, r1, p1, _⟩ := I.tuple ha
  obtain ⟨its2, r2, p2, _⟩ := I.tuple hb
  refine HT.cat_tup p1 p2 (fun z => hx (r1.nil_iff.mp z)) (fun z => ⟨.ref a, H, I, rfl, q1 (r2.nil_iff.mp z)⟩) (fun z => ?_) (by rw [← r1.length, ← r2.length]; exact hz)
  refine ⟨.ref s.heap.objs.size, _, I.laid (t' := s.toks) (o := .tup (xs ++ ys)) (fun b ob q => Heap.get?_push_of_some _ q) (Nat.le_refl _) ?_, rfl, q2 (fun w => z (r2.nil_iff.mpr w)) _ (I.hok.fresh (Nat.le_refl _))⟩
  exact ⟨by rw [List.length_append]; exact hz, _, r1.append r2, IsTup.new _ _⟩
/-- tuple(t) -/
theorem call_tupleT : CallR X (.type "tuple") (fun xs H Q => ∃ a ys, xs = [.ref a] ∧ SqT X.K H a ys ∧ Q (.ref a) H) := by
  intro pins s σ H xs us Q I r h
  obtain ⟨a, ys, rfl, ha, q⟩ := h
  obtain ⟨u, rfl, ru⟩ := vals1 r
  cases ru
  obtain ⟨its, _, p1, _⟩ := I.tuple ha
  exact call_tuple_same (items := its.toArray) p1 ⟨.ref a, H, I, rfl, q⟩
end
end L2

namespace L2
open PySem PySem.Spec PyProof.Rows

/-! ### places -/
/-- the place that an index of any sign means -/
def ixN (n : Nat) (i : Int) : Option Nat := if 0 ≤ i then (if i < n then some i.toNat else none) else if -(n : Int) ≤ i then some (i + n).toNat else none
def atI {α : Type} (xs : List α) (i : Int) : Option α := (ixN xs.length i).bind fun j => xs[j]?
theorem ixN_seq {n : Nat} {i : Int} {j : Nat} (h : ixN n i = some j) : seqIndex? i n = some j ∧ j < n ∧ -(n : Int) ≤ i ∧ i < n := by
  unfold ixN at h
  by_cases h0 : 0 ≤ i
  · rw [if_pos h0] at h
    by_cases h1 : i < n
    · rw [if_pos h1] at h
      have e : i.toNat = j := Option.some.inj h
      exact ⟨by rw [seqIndex_of h0 h1, e], by omega, by omega, h1⟩
    · rw [if_neg h1] at h; cases h
  · rw [if_neg h0] at h
    by_cases h1 : -(n : Int) ≤ i
    · rw [if_pos h1] at h
      have e : (i + n).toNat = j := Option.some.inj h
      exact ⟨by rw [seqIndex_neg (by omega) h1, e], by omega, h1, by omega⟩
    · rw [if_neg h1] at h; cases h
theorem atI_get {α : Type} {xs : List α} {i : Int} {v : α} (h : atI xs i = some v) : ∃ j, seqIndex? i xs.length = some j ∧ xs[j]? = some v ∧ j < xs.length ∧ -(xs.length : Int) ≤ i ∧ i < xs.length := by
  unfold atI at h
  cases e : ixN xs.length i with
  | none => rw [e] at h; cases h
  | some j =>
    rw [e] at h
    obtain ⟨h1, h2, h3, h4⟩ := ixN_seq e
    exact ⟨j, h1, h, h2, h3, h4⟩
theorem atI_nat {α : Type} {xs : List α} {j : Nat} {v : α} (h : xs[j]? = some v) : atI xs (j : Int) = some v := by
  have hj : j < xs.length := (List.getElem?_eq_some_iff.mp h).1
  have e : ixN xs.length (j : Int) = some j := by
    unfold ixN
    rw [if_pos (by omega), if_pos (by omega)]; simp
  unfold atI; rw [e]; exact h
theorem atI_last {α : Type} (xs : List α) (v : α) : atI (xs ++ [v]) (-1) = some v := by
  have hl : (xs ++ [v]).length = xs.length + 1 := by simp
  have e : ixN (xs ++ [v]).length (-1) = some xs.length := by
    unfold ixN
    rw [hl, if_neg (by decide), if_pos (by omega)]
    congr 1
    omega
  unfold atI
  rw [e]
  show (xs ++ [v])[xs.length]? = some v
  simp

/-! ### what may be subscripted -/
/-- what stands as an index of a plain subscript -/
def PlainIx (b : Expr) : Prop := ∀ o i, subscripted b false o i = operate [o, i] (getItem o i)
/-- a subscript by values -/
def IxR (X : Cx) (r : R2) : Prop :=
  ∀ (value slice : Expr) (pins : List (Addr × Obj)) (s : Shared) (σ : St) (H : Hp) (x y : V) (v u : Value) (Q : VK), Inv X pins σ H s → RelV x v → RelV y u → r x y H Q →
    subscripted slice false v u = operate [v, u] (getItem v u) → wpAny (model X.prog X.w) X.A (subscriptTail value slice v u) (EP X pins σ Q) X.xe s
/-- a call of a builtin's method by values: the receiver, the arguments -/
def MtR (X : Cx) (id : String) (r : V → List V → Hp → VK → Prop) : Prop :=
  ∀ (pins : List (Addr × Obj)) (s : Shared) (σ : St) (H : Hp) (x : V) (xs : List V) (v : Value) (us : List Value) (Q : VK), Inv X pins σ H s → RelV x v → Vals xs us → r x xs H Q →
    wpAny (model X.prog X.w) X.A (call (.builtin id) (v :: us)) (EP X pins σ Q) X.xe s
section
variable {X : Cx} {a b : Expr} {ta tb : TE} {pos : Pos}
theorem IxR.or {r r' : R2} (h : IxR X r) (h' : IxR X r') : IxR X (fun x y H Q => r x y H Q ∨ r' x y H Q) := by
  intro value slice pins s σ H x y v u Q I rx ry q hs
  rcases q with q | q
  · exact h value slice pins s σ H x y v u Q I rx ry q hs
  · exact h' value slice pins s σ H x y v u Q I rx ry q hs
theorem MtR.or {id : String} {r r' : V → List V → Hp → VK → Prop} (h : MtR X id r) (h' : MtR X id r') : MtR X id (fun x xs H Q => r x xs H Q ∨ r' x xs H Q) := by
  intro pins s σ H x xs v us Q I rx rs q
  rcases q with q | q
  · exact h pins s σ H x xs v us Q I rx rs q
  · exact h' pins s σ H x xs v us Q I rx rs q
/-- a[b] -/
theorem pe_ix {r : R2} (hr : IxR X r) (ha : PE X a ta) (hb : PE X b tb) (hs : PlainIx b) : PE X (.Subscript a b pos) (tOp r ta tb) := by
  intro pins s σ H Q I h
  exact Subscript_ (binT ha hb I h fun v u s2 x y H2 I2 rx ry q => hr a b pins s2 σ H2 x y v u Q I2 rx ry q (hs _ _))

def rIxL (K : PySem.W.Frag) : R2 := fun x y H Q => ∃ p xs i v, x = .ref p ∧ y = .int i ∧ SqL K H p xs ∧ atI xs i = some v ∧ Q v H
def rIxT (K : PySem.W.Frag) : R2 := fun x y H Q => ∃ p xs i v, x = .ref p ∧ y = .int i ∧ SqT K H p xs ∧ atI xs i = some v ∧ Q v H
def rIxS : R2 := fun x y H Q => ∃ z i c, x = .str z ∧ y = .int i ∧ z.length ≤ sizeLine ∧ atI z.cps.toList i = some c ∧ Q (.str ⟨#[c]⟩) H
theorem ix_list : IxR X (rIxL X.K) := by
  intro value slice pins s σ H x y v u Q I rx ry h hs
  obtain ⟨p, xs, i, z, rfl, rfl, hq, he, q⟩ := h
  cases rx
  obtain ⟨t, rfl⟩ := ry
  obtain ⟨its, r, pl, hz⟩ := I.list hq
  obtain ⟨j, h1, h2, h3, h4, h5⟩ := atI_get he
  obtain ⟨w, ew, rw'⟩ := r.get h2
  have hl := r.length
  have hn := line63
  have fin : EP X pins σ Q w s := ⟨z, H, I, rw', q⟩
  by_cases h0 : 0 ≤ i
  · have hj : i.toNat = j := by
      rw [seqIndex_of h0 h5] at h1
      exact Option.some.inj h1
    exact item_listR pl.isList h0 (by omega) (by rw [hj]; simpa using ew) fin hs
  · have hj : (i + (its.toArray.size : Int)).toNat = j := by
      rw [seqIndex_neg (by omega) h4] at h1
      rw [List.size_toArray, ← hl]
      exact Option.some.inj h1
    exact subscriptTail_builtinR (x := w) pl.isList.typeIs slot_list_getitem.lookup
      (wpAny_getItem_list_neg (Q := fun r s' => r = w ∧ EP X pins σ Q r s') pl.isList (by omega) (by rw [List.size_toArray] <;> omega) (by omega) (by rw [hj]; simpa using ew) ⟨rfl, fin⟩) hs
theorem ix_tup : IxR X (rIxT X.K) := by
  intro value slice pins s σ H x y v u Q I rx ry h hs
  obtain ⟨p, xs, i, z, rfl, rfl, hq, he, q⟩ := h
  cases rx
  obtain ⟨t, rfl⟩ := ry
  obtain ⟨its, r, pl, hz⟩ := I.tuple hq
  obtain ⟨j, h1, h2, h3, h4, h5⟩ := atI_get he
  obtain ⟨w, ew, rw'⟩ := r.get h2
  have hl := r.length
  have hn := line63
  have fin : EP X pins σ Q w s := ⟨z, H, I, rw', q⟩
  exact subscriptTail_builtinR (x := w) pl.typeIs slot_tuple_getitem.lookup
    (getItem_tuple (j := j) (Q := fun r s' => r = w ∧ EP X pins σ Q r s') pl (by omega) (by omega) (by rw [List.size_toArray, ← hl]; exact h1) (by simpa using ew) ⟨rfl, fin⟩) hs
theorem ix_str : IxR X rIxS := by
  intro value slice pins s σ H x y v u Q I rx ry h hs
  obtain ⟨z, i, c, rfl, rfl, hz, he, q⟩ := h
  obtain ⟨t, rfl⟩ := rx
  obtain ⟨t', rfl⟩ := ry
  obtain ⟨j, h1, h2, h3, h4, h5⟩ := atI_get he
  have hl : z.cps.toList.length = z.length := by simp [Str.length]
  rw [hl] at h1 h4 h5
  have hn := line63
  exact tail_any (typeIs_str s z t) slot_str_getitem.lookup (getItem_str (c := c) (by
    have e1 : decide (i < -(2 ^ 63 : Int)) = false := decide_eq_false (by omega)
    have e2 : decide (i ≥ 2 ^ 63) = false := decide_eq_false (by omega)
    rw [e1, e2, Bool.or_false]) (by rw [h1]; simpa using h2) ⟨.str ⟨#[c]⟩, H, I.tok _, ⟨_, rfl⟩, q⟩) hs
/-- list, tuple or str -/
def rIx (K : PySem.W.Frag) : R2 := fun x y H Q => rIxL K x y H Q ∨ rIxT K x y H Q ∨ rIxS x y H Q
theorem ix_seq : IxR X (rIx X.K) := ix_list.or (ix_tup.or ix_str)

/-! ### xs[i] = v, any sign -/
/-- the list's object behind a store -/
theorem mapSeq_set (its : List Value) (n j : Nat) (u : Value) : Obj.mapSeq (·.setIfInBounds j u) { cls := .type "list", data := .seq its.toArray n } = { cls := .type "list", data := .seq (its.set j u).toArray n } := by
  simp [Obj.mapSeq]
theorem Inv.lst {pins : List (Addr × Obj)} {σ : St} {H : Hp} {s : Shared} {p : Addr} {xs : List V} (I : Inv X pins σ H s) (h : H p = some (.lst xs)) :
    ∃ (its : List Value) (n : Nat), Vals xs its ∧ s.heap.get? p = some { cls := .type "list", data := .seq its.toArray n } ∧ xs.length ≤ sizeLine := by
  obtain ⟨z, its, n, r, e⟩ := I.hok p _ h
  exact ⟨its, n, r, e, z⟩
/-- the list at p is written by an update of its object -/
theorem Inv.lstUpd {pins : List (Addr × Obj)} {σ : St} {H : Hp} {s : Shared} {p : Addr} {xs ys : List V} {its its' : List Value} {n n' : Nat} {f : Obj → Obj} (I : Inv X pins σ H s) (h : H p = some (.lst xs))
    (ho : s.heap.get? p = some { cls := .type "list", data := .seq its.toArray n }) (hf : f { cls := .type "list", data := .seq its.toArray n } = { cls := .type "list", data := .seq its'.toArray n' }) (r : Vals ys its') (hz : ys.length ≤ sizeLine) (t : Nat) :
    Inv X pins σ (upd H p (.lst ys)) { s with heap := s.heap.update p f, toks := t } := by
  have e : (s.heap.update p f).get? p = some { cls := .type "list", data := .seq its'.toArray n' } := by
    rw [Heap.get?_update_self f ho (by rw [hf] <;> rfl), hf]
  refine I.write (x := p) (e := p) (by rw [h]; trivial) (.inl rfl) (fun b u hb q => (Heap.get?_update_other _ _ (Ne.symm hb)).trans q) ⟨_, e⟩ ?_
  exact ⟨hz, its', n', r, e⟩
def rSetL : V → V → V → Hp → (Hp → Prop) → Prop := fun o i v H Q => ∃ p xs k j, o = .ref p ∧ i = .int k ∧ H p = some (.lst xs) ∧ ixN xs.length k = some j ∧ Q (upd H p (.lst (xs.set j v)))
theorem set_list : PSet X rSetL := by
  intro pins s σ H o i v ov iv u Q I ro ri rv h
  obtain ⟨p, xs, k, j, rfl, rfl, hp, hj, q⟩ := h
  cases ro
  obtain ⟨t, rfl⟩ := ri
  obtain ⟨its, n, r, ho, hz⟩ := I.lst hp
  obtain ⟨h1, h2, h3, h4⟩ := ixN_seq hj
  have hl := r.length
  have hn := line63
  have I' : Inv X pins σ (upd H p (.lst (xs.set j v))) { s with heap := s.heap.update p (Obj.mapSeq (·.setIfInBounds j u)) } :=
    I.lstUpd hp ho (mapSeq_set its n j u) (r.set rv j) (by rw [List.length_set]; exact hz) s.toks
  by_cases h0 : 0 ≤ k
  · have hk : k.toNat = j := by
      rw [seqIndex_of h0 h4] at h1
      exact Option.some.inj h1
    exact PySem.W.ki_setAt ho h0 (by omega) (by rw [List.size_toArray, ← hl]; exact h4) (by rw [hk]; exact ⟨_, I', q⟩)
  · have hk : (k + (its.toArray.size : Int)).toNat = j := by
      rw [seqIndex_neg (by omega) h3] at h1
      rw [List.size_toArray, ← hl]
      exact Option.some.inj h1
    exact PySem.W.ki_setBack ho (by omega) (by rw [List.size_toArray, ← hl]; exact h3) (by omega) (by rw [hk]; exact ⟨_, I', q⟩)

/-! ### slices -/
theorem slice_bounds (lo hi : Option Int) (n : Nat) : (sliceBounds lo hi none n).1 = ((HT.sIx n 0 lo : Nat) : Int) ∧ (sliceBounds lo hi none n).2.1 = ((HT.sIx n n hi : Nat) : Int) ∧ (sliceBounds lo hi none n).2.2 = 1 := by
  refine ⟨?_, ?_, rfl⟩
  · cases lo with
    | none => simp [sliceBounds, HT.sIx]
    | some i =>
      simp only [sliceBounds, HT.sIx, Option.getD_none, show (1 : Int) > 0 by decide, if_true]
      by_cases h : i < 0
      · simp only [h, if_true] <;> omega
      · simp only [h, if_false] <;> omega
  · cases hi with
    | none => simp [sliceBounds, HT.sIx]
    | some i =>
      simp only [sliceBounds, HT.sIx, Option.getD_none, show (1 : Int) > 0 by decide, if_true]
      by_cases h : i < 0
      · simp only [h, if_true] <;> omega
      · simp only [h, if_false] <;> omega
theorem slicePick_cut (its : List Value) (lo hi : Option Int) : slicePick its.toArray lo hi none = ((its.drop (HT.sIx its.length 0 lo)).take (HT.sIx its.length its.length hi - HT.sIx its.length 0 lo)).toArray := by
  obtain ⟨h1, h2, h3⟩ := slice_bounds lo hi its.toArray.size
  unfold slicePick
  rw [h1, h2, h3]
  simp only [sliceRange_one, pick_run, List.size_toArray] <;> rfl
/-- xs[lo:hi] of a list: a new list -/
def rSlL (K : PySem.W.Frag) : V → Option Int → Option Int → Hp → VK → Prop := fun x lo hi H Q => ∃ a xs, x = .ref a ∧ SqL K H a xs ∧ ∀ p, H p = none → Q (.ref p) (upd H p (.lst (cutV xs lo hi)))
theorem sl_list : SlR X (rSlL X.K) := by
  intro pins s σ H x v vl vu lo hi sl Q I rx hs pl pu h
  obtain ⟨a, xs, rfl, hx, q⟩ := h
  cases rx
  obtain ⟨its, r, ht, hz⟩ := I.list hx
  have hlen := r.length
  refine ⟨"list", _, slot_list_getitem.lookup, ht.isList.typeIs, ?_⟩
  refine wpAny_getItem_list_slice ht.isList hs pl pu .none (by simp) ?_ (by rw [List.size_toArray] <;> omega)
  rw [slicePick_cut, ← hlen]
  refine ⟨.ref s.heap.objs.size, _, I.laid (t' := s.toks) (o := .lst (cutV xs lo hi)) (fun b ob q => Heap.get?_push_of_some _ q) (Nat.le_refl _) ?_, rfl, q _ (I.hok.fresh (Nat.le_refl _))⟩
  exact ⟨Nat.le_trans (cutV_length xs lo hi) hz, _, 0, (r.drop (HT.sIx xs.length 0 lo)).take (HT.sIx xs.length xs.length hi - HT.sIx xs.length 0 lo), Heap.get?_push_size _ rfl⟩

/-! ### in, not in: flat items -/
def flatV : V → Bool
  | .non => true
  | .bl _ => true
  | .int _ => true
  | .str _ => true
  | _ => false
/-- == of flat values -/
def eqV : V → V → Bool
  | .non, .non => true
  | .bl a, .bl b => a == b
  | .bl a, .int b => (if a then 1 else 0) == b
  | .int a, .bl b => a == (if b then 1 else 0)
  | .int a, .int b => a == b
  | .str a, .str b => a == b
  | _, _ => false
theorem eqAt_V {A : Around} {s : Shared} {y x : V} {u v : Value} (ry : RelV y u) (rx : RelV x v) (fy : flatV y = true) (fx : flatV x = true) : SeqAt.EqAt A s u v (eqV y x) := by
  cases y with
  | non =>
    cases ry
    cases x with
    | non => cases rx; exact SeqAt.EqAt.same _
    | bl b => cases rx; exact SeqAt.EqAt.none_bool b
    | int b => obtain ⟨t, rfl⟩ := rx; exact SeqAt.EqAt.none_int b t
    | str b => obtain ⟨t, rfl⟩ := rx; exact SeqAt.EqAt.none_str b t
    | _ => exact absurd (show false = true from fx) Bool.false_ne_true
  | bl a =>
    cases ry
    cases x with
    | non => cases rx; exact SeqAt.EqAt.bool_none a
    | bl b => cases rx; exact SeqAt.EqAt.bool_bool a b
    | int b => obtain ⟨t, rfl⟩ := rx; exact SeqAt.EqAt.bool_int a b t
    | str b => obtain ⟨t, rfl⟩ := rx; exact SeqAt.EqAt.bool_str a b t
    | _ => exact absurd (show false = true from fx) Bool.false_ne_true
  | int a =>
    obtain ⟨t', rfl⟩ := ry
    cases x with
    | non => cases rx; exact SeqAt.EqAt.int_none a t'
    | bl b => cases rx; exact SeqAt.EqAt.int_bool a t' b
    | int b => obtain ⟨t, rfl⟩ := rx; exact SeqAt.EqAt.int_int a t' b t
    | str b => obtain ⟨t, rfl⟩ := rx; exact SeqAt.EqAt.int_str a t' b t
    | _ => exact absurd (show false = true from fx) Bool.false_ne_true
  | str a =>
    obtain ⟨t', rfl⟩ := ry
    cases x with
    | non => cases rx; exact SeqAt.EqAt.str_none a t'
    | bl b => cases rx; exact SeqAt.EqAt.str_bool a t' b
    | int b => obtain ⟨t, rfl⟩ := rx; exact SeqAt.EqAt.str_int a t' b t
    | str b => obtain ⟨t, rfl⟩ := rx; exact SeqAt.EqAt.str_str a t' b t
    | _ => exact absurd (show false = true from fx) Bool.false_ne_true
  | _ => exact absurd (show false = true from fy) Bool.false_ne_true
/-- the items' answers, read off the values (a value's own answer does not lean on its token) -/
def eqU (x : V) (u : Value) : Bool := match u with
  | .none => eqV .non x
  | .bool b => eqV (.bl b) x
  | .int i _ => eqV (.int i) x
  | .str z _ => eqV (.str z) x
  | _ => false
theorem eqU_of {x y : V} {u : Value} (r : RelV y u) (f : flatV y = true) : eqU x u = eqV y x := by
  cases y with
  | non => cases r; rfl
  | bl b => cases r; rfl
  | int i => obtain ⟨t, rfl⟩ := r; rfl
  | str z => obtain ⟨t, rfl⟩ := r; rfl
  | _ => exact absurd (show false = true from f) Bool.false_ne_true
theorem any_eqU {x : V} : ∀ {xs : List V} {us : List Value}, Vals xs us → xs.all flatV = true → us.any (eqU x) = xs.any fun y => eqV y x
  | _, _, .nil, _ => rfl
  | y :: xs, u :: us, .cons r t, f => by
    rw [List.all_cons, Bool.and_eq_true] at f
    rw [List.any_cons, List.any_cons, eqU_of r f.1, any_eqU t f.2]
theorem mem_eqAt {A : Around} {s : Shared} {x : V} {v : Value} (rx : RelV x v) (fx : flatV x = true) : ∀ {xs : List V} {us : List Value}, Vals xs us → xs.all flatV = true → ∀ u ∈ us, SeqAt.EqAt A s u v (eqU x u)
  | _, _, .nil, _ => fun u hu => by cases hu
  | y :: xs, u :: us, .cons r t, f => fun u' hu => by
    rw [List.all_cons, Bool.and_eq_true] at f
    rcases List.mem_cons.mp hu with rfl | hu
    · rw [eqU_of r f.1]; exact eqAt_V r rx f.1 fx
    · exact mem_eqAt rx fx t f.2 u' hu
def inV (x : V) (xs : List V) : Bool := xs.any fun y => eqV y x
/-- x in a list or tuple of flat items -/
def rIn (K : PySem.W.Frag) (neg : Bool) : R2 := fun x y H Q => ∃ p xs, y = .ref p ∧ (SqL K H p xs ∨ SqT K H p xs) ∧ flatV x = true ∧ xs.all flatV = true ∧ Q (.bl (if neg then !inV x xs else inV x xs)) H
theorem op_in_seq : OpR X (compareOp .In) (rIn X.K false) := by
  intro pins s σ H x y v u Q I rx ry h
  obtain ⟨p, xs, rfl, hq, fx, fs, q⟩ := h
  cases ry
  rcases hq with hq | hq
  · obtain ⟨its, r, pl, hz⟩ := I.list hq
    refine SeqAt.in_listAt (eqU x) pl.isList (fun w hw => mem_eqAt rx fx r fs w (by simpa using hw)) ⟨.bl _, H, I, rfl, ?_⟩
    rw [show its.toArray.any (eqU x) = its.any (eqU x) by simp, any_eqU r fs]
    exact q
  · obtain ⟨its, r, pl, hz⟩ := I.tuple hq
    refine SeqAt.in_tupleAt (eqU x) pl (fun w hw => mem_eqAt rx fx r fs w (by simpa using hw)) ⟨.bl _, H, I, rfl, ?_⟩
    rw [show its.toArray.any (eqU x) = its.any (eqU x) by simp, any_eqU r fs]
    exact q
theorem op_notIn_seq : OpR X (compareOp .NotIn) (rIn X.K true) := by
  intro pins s σ H x y v u Q I rx ry h
  obtain ⟨p, xs, rfl, hq, fx, fs, q⟩ := h
  cases ry
  rcases hq with hq | hq
  · obtain ⟨its, r, pl, hz⟩ := I.list hq
    refine SeqAt.notIn_listAt (eqU x) pl.isList (fun w hw => mem_eqAt rx fx r fs w (by simpa using hw)) ⟨.bl _, H, I, rfl, ?_⟩
    rw [show its.toArray.any (eqU x) = its.any (eqU x) by simp, any_eqU r fs]
    exact q
  · obtain ⟨its, r, pl, hz⟩ := I.tuple hq
    refine SeqAt.notIn_tupleAt (eqU x) pl (fun w hw => mem_eqAt rx fx r fs w (by simpa using hw)) ⟨.bl _, H, I, rfl, ?_⟩
    rw [show its.toArray.any (eqU x) = its.any (eqU x) by simp, any_eqU r fs]
    exact q
theorem op_notIn_str : OpR X (compareOp .NotIn) (fun x y H Q => ∃ i j, x = .str i ∧ y = .str j ∧ Q (.bl (!(!(Builtin.Str.occurrences j i 0 j.length 1).isEmpty))) H) := by
  intro pins s σ H x y v u Q I rx ry h
  obtain ⟨i, j, rfl, rfl, q⟩ := h
  obtain ⟨t, rfl⟩ := rx
  obtain ⟨t', rfl⟩ := ry
  exact notIn_str ⟨.bl _, H, I, rfl, q⟩

/-! ### len, list(x), tuple(x) of any list or tuple that is read -/
theorem call_len_seq : CallR X (.builtin "len") (fun xs H Q => ∃ p ys, xs = [.ref p] ∧ (SqL X.K H p ys ∨ SqT X.K H p ys) ∧ Q (.int ys.length) H) := by
  intro pins s σ H xs us Q I r h
  obtain ⟨p, ys, rfl, hq, q⟩ := h
  obtain ⟨u, rfl, rx⟩ := vals1 r
  cases rx
  have hn := line63
  rcases hq with hq | hq
  · obtain ⟨its, r', pl, hz⟩ := I.list hq
    have hlen := r'.length
    exact Calls.call_len_list pl.isList (by simp only [List.size_toArray] <;> omega) ⟨.int ys.length, H, I.tok _, ⟨s.toks + 1, by rw [List.size_toArray, hlen]⟩, q⟩
  · obtain ⟨its, r', pl, hz⟩ := I.tuple hq
    have hlen := r'.length
    exact len_tuple pl (by simp only [List.size_toArray] <;> omega) ⟨.int ys.length, H, I.tok _, ⟨s.toks + 1, by rw [List.size_toArray, hlen]⟩, q⟩
theorem call_len_str : CallR X (.builtin "len") (fun xs H Q => ∃ z, xs = [.str z] ∧ z.length ≤ sizeLine ∧ Q (.int z.length) H) := by
  intro pins s σ H xs us Q I r h
  obtain ⟨z, rfl, hz, q⟩ := h
  obtain ⟨u, rfl, t, rfl⟩ := vals1 r
  have hn := line63
  exact len_str (by omega) ⟨.int z.length, H, I.tok _, ⟨_, rfl⟩, q⟩
theorem CallR.or {f : Value} {r r' : List V → Hp → VK → Prop} (h : CallR X f r) (h' : CallR X f r') : CallR X f (fun xs H Q => r xs H Q ∨ r' xs H Q) := by
  intro pins s σ H xs us Q I rs q
  rcases q with q | q
  · exact h pins s σ H xs us Q I rs q
  · exact h' pins s σ H xs us Q I rs q
theorem call_list_of : CallR X (.type "list") (fun xs H Q => ∃ p ys, xs = [.ref p] ∧ (SqL X.K H p ys ∨ SqT X.K H p ys) ∧ ∀ l, H l = none → Q (.ref l) (upd H l (.lst ys))) := by
  intro pins s σ H xs us Q I r h
  obtain ⟨p, ys, rfl, hq, q⟩ := h
  obtain ⟨u, rfl, rx⟩ := vals1 r
  cases rx
  have fin : ∀ (its : List Value), Vals ys its → ys.length ≤ sizeLine → ∀ (h' : Heap) (c' : Nat), (∀ b o', s.heap.get? b = some o' → h'.get? b = some o') →
      h'.get? s.heap.objs.size = some { cls := .type "list", dict := none, data := .seq its.toArray c', slots := #[] } → EP X pins σ Q (.ref s.heap.objs.size) { s with heap := h' } := fun its r' hz h' c' kp e =>
    ⟨.ref s.heap.objs.size, _, I.laid (t' := s.toks) kp (Nat.le_refl _) (show ObjOk X.prog X.w _ h' _ (.lst ys) from ⟨hz, its, c', r', e⟩), rfl, q _ (I.hok.fresh (Nat.le_refl _))⟩
  rcases hq with hq | hq
  · obtain ⟨its, r', pl, hz⟩ := I.list hq
    have hlen := r'.length
    obtain ⟨o, ho, hc, n, hd⟩ := pl.isList
    exact call_list_seq p (.inl rfl) ho hc hd (fun h' c' kp e => fin its r' hz h' c' kp e) (by simp only [List.size_toArray] <;> omega)
  · obtain ⟨its, r', pl, hz⟩ := I.tuple hq
    have hlen := r'.length
    obtain ⟨o, ho, hc, n, hd⟩ := pl
    exact call_list_seq p (.inr rfl) ho hc hd (fun h' c' kp e => fin its r' hz h' c' kp e) (by simp only [List.size_toArray] <;> omega)
theorem call_tuple_of : CallR X (.type "tuple") (fun xs H Q => ∃ p ys, xs = [.ref p] ∧ ((SqL X.K H p ys ∧ ∀ l, H l = none → Q (.ref l) (upd H l (.tup ys))) ∨ (SqT X.K H p ys ∧ Q (.ref p) H))) := by
  intro pins s σ H xs us Q I r h
  obtain ⟨p, ys, rfl, h⟩ := h
  obtain ⟨u, rfl, rx⟩ := vals1 r
  cases rx
  rcases h with ⟨hq, q⟩ | ⟨hq, q⟩
  · obtain ⟨its, r', pl, hz⟩ := I.list hq
    have hlen := r'.length
    refine call_tuple_list pl.isList (fun h' kp => ?_) (by simp only [List.size_toArray] <;> omega)
    have I1 : Inv X pins σ H { s with heap := h' } := I.kept (t' := s.toks) kp
    have I2 : Inv X pins σ (upd H h'.objs.size (.tup ys)) { s with heap := h'.push { cls := .type "tuple", data := .seq its.toArray } } :=
      I1.laid (t' := s.toks) (fun b o e => Heap.get?_push_of_some _ e) (Nat.le_refl _) (show ObjOk X.prog X.w _ _ _ (.tup ys) from ⟨hz, its, r', IsTup.new _ _⟩)
    exact ⟨.ref h'.objs.size, _, I2, rfl, q _ (I1.hok.fresh (Nat.le_refl _))⟩
  · obtain ⟨its, r', pl, hz⟩ := I.tuple hq
    exact call_tuple_same pl ⟨.ref p, H, I, rfl, q⟩

/-! ### the call of a builtin's method: o.m(..) -/
/-- the value is of that builtin type -/
def tyV (K : PySem.W.Frag) (T : String) (x : V) (H : Hp) : Prop := match x with
  | .str _ => T = "str"
  | .int _ => T = "int"
  | .ref p => (T = "list" ∧ ∃ xs, SqL K H p xs) ∨ (T = "tuple" ∧ ∃ o, K.lookup p = some o ∧ o.cls = .type "tuple" ∧ o.dict = none) ∨
      (T = "dict" ∧ ((∃ kvs, H p = some (.dK kvs)) ∨ ∃ kvs, H p = some (.dT kvs))) ∨ (T = "set" ∧ ∃ S n, H p = some (.set S n))
  | _ => False
theorem tyV_is {pins : List (Addr × Obj)} {σ : St} {H : Hp} {s : Shared} {T : String} {x : V} {v : Value} (I : Inv X pins σ H s) (r : RelV x v) (ty : tyV X.K T x H) :
    s.TypeIs v T ∧ ∀ a, v = .ref a → ∃ ob, s.heap.get? a = some ob ∧ ob.dict = none := by
  cases x with
  | str z =>
    obtain ⟨t, rfl⟩ := r
    cases (show T = "str" from ty)
    exact ⟨typeIs_str s z t, fun _ e => nomatch e⟩
  | int i =>
    obtain ⟨t, rfl⟩ := r
    cases (show T = "int" from ty)
    exact ⟨typeIs_int s i t, fun _ e => nomatch e⟩
  | ref p =>
    cases r
    rcases ty with ⟨rfl, xs, hq⟩ | ⟨rfl, o, hk, hc, hd⟩ | ⟨rfl, hk⟩ | ⟨rfl, S, n, hk⟩
    · obtain ⟨its, _, pl, _⟩ := I.list hq
      refine ⟨pl.isList.typeIs, fun a e => ?_⟩
      cases e
      obtain ⟨o, n, e, c, hd, _⟩ := pl
      exact ⟨o, e, hd⟩
    · refine ⟨⟨o, I.kIn p o hk, hc⟩, fun a e => ?_⟩
      cases e
      exact ⟨o, I.kIn _ o hk, hd⟩
    · have z : ∃ o, s.heap.get? p = some o ∧ o.ExactDict := by
        rcases hk with ⟨kvs, hk⟩ | ⟨kvs, hk⟩
        · obtain ⟨_, _, _, _, o, _, _, e, ex, _⟩ := I.hok p _ hk
          exact ⟨o, e, ex⟩
        · obtain ⟨_, _, _, _, o, _, _, e, ex, _⟩ := I.hok p _ hk
          exact ⟨o, e, ex⟩
      obtain ⟨o, e, ex⟩ := z
      refine ⟨⟨o, e, ex.1⟩, fun a e2 => ?_⟩
      cases e2
      exact ⟨o, e, ex.2.1⟩
    · obtain ⟨o, _, _, _, e, ex, _⟩ := I.hok p _ hk
      refine ⟨⟨o, e, ex.1⟩, fun a e2 => ?_⟩
      cases e2
      exact ⟨o, e, ex.2.1⟩
  | _ => exact False.elim ty
def tBM0 (K : PySem.W.Frag) (T : String) (r : V → List V → Hp → VK → Prop) (to : TE) : TE := fun σ H Q => to σ H fun x H1 => tyV K T x H1 ∧ r x [] H1 Q
def tBM (K : PySem.W.Frag) (T : String) (r : V → List V → Hp → VK → Prop) (to : TE) (t : TA) : TE := fun σ H Q => to σ H fun x H1 => tyV K T x H1 ∧ t σ H1 fun xs H2 => r x xs H2 Q
variable {o e : Expr} {es : List Expr} {to : TE} {t : TA} {name : Str} {apos cpos : Pos} {T id : String} {r : V → List V → Hp → VK → Prop}
theorem pe_bm0 (pa : PlainAttrs T) (slot : Slot T name id) (hty : typeOf (.builtin id) = pure (.type "method_descriptor")) (hm : MtR X id r) (ho : PE X o to)
    (hbase : attributeBase o name X.env (eval o X.env) = eval o X.env := by rfl) (hline : (apos.endLine == cpos.line) = true := by rfl) : PE X (.Call (.Attribute o name apos) [] [] cpos) (tBM0 X.K T r to) := by
  intro pins s σ H Q I h
  refine wpAny_Call_method0_late hbase hline (thn (ho pins s σ H _ I h) fun v s1 ⟨x, H1, I1, r1, ty, q1⟩ => ?_)
  obtain ⟨h1, h2⟩ := tyV_is I1 r1 ty
  exact ⟨T, id, pa, slot, hty, h1, h2, Calls.callWith_builtin rfl (PySem.evalArgs_none (hm pins s1 σ H1 x [] v [] Q I1 r1 .nil q1))⟩
theorem pe_bm (pa : PlainAttrs T) (slot : Slot T name id) (hty : typeOf (.builtin id) = pure (.type "method_descriptor")) (hm : MtR X id r) (ho : PE X o to) (ha : PA X (e :: es) t)
    (hbase : attributeBase o name X.env (eval o X.env) = eval o X.env := by rfl)
    (hfew : ((backTo cpos (starEach (e :: es) X.env)).all (fun x => !x.1) && (backToKw cpos (keywordEach [] X.env)).all (fun x => x.1.isSome)
      && decide ((e :: es).length + ([] : List Keyword).length + (if ([] : List Keyword).isEmpty then 0 else 1) < 30)) = true := by rfl)
    (hline : (apos.endLine == cpos.line) = true := by rfl) (hs : starEach (e :: es) X.env = (false, eval e X.env) :: starEach es X.env := by rfl) (hplain : (backTo cpos (starEach es X.env)).any (·.1) = false := by rfl) :
    PE X (.Call (.Attribute o name apos) (e :: es) [] cpos) (tBM X.K T r to t) := by
  intro pins s σ H Q I h
  refine wpAny_Call_method_late hbase hfew hline rfl (thn (ho pins s σ H _ I h) fun v s1 ⟨x, H1, I1, r1, ty, q1⟩ => ?_)
  obtain ⟨h1, h2⟩ := tyV_is I1 r1 ty
  refine ⟨T, id, pa, slot, hty, h1, h2, ?_⟩
  have hA := ha cpos pins s1 σ H1 _ I1 q1
  rw [hs] at hA ⊢
  refine Calls.callWith_builtin (by show (false || (backTo cpos (starEach es X.env)).any (·.1)) = false; rw [hplain] <;> rfl) (Calls.evalArgs_plain ?_)
  exact thn hA fun us s2 ⟨vs, H2, I2, r2, q2⟩ => hm pins s2 σ H2 x vs v us Q I2 r1 r2 q2
/- xs.append(e), list.index on a module's tuple .. are MtR facts of 06m -/
end
end L2

namespace L2
open PySem PySem.Spec PyProof.Rows

def MtM (X : Cx) (id : String) (r : V → List V → Hp → VK → Prop) : Prop :=
  ∀ (pins : List (Addr × Obj)) (s : Shared) (σ : St) (H : Hp) (x : V) (xs : List V) (v : Value) (us : List Value) (Q : VK), Inv X pins σ H s → RelV x v → Vals xs us → r x xs H Q →
    wpAny (model X.prog X.w) X.A (call (.builtin id) (v :: us)) (EP X pins σ Q) X.xe s

/-! ### lists of values -/
theorem Vals.one : ∀ {x : V} {us : List Value}, Vals [x] us → ∃ u, us = [u] ∧ RelV x u
  | _, _, .cons r .nil => ⟨_, rfl, r⟩
theorem Vals.two : ∀ {x y : V} {us : List Value}, Vals [x, y] us → ∃ u v, us = [u, v] ∧ RelV x u ∧ RelV y v
  | _, _, _, .cons r (.cons q .nil) => ⟨_, _, rfl, r, q⟩
theorem Vals.zero : ∀ {us : List Value}, Vals [] us → us = []
  | _, .nil => rfl
theorem Vals.dropLast {xs : List V} {us : List Value} (h : Vals xs us) : Vals xs.dropLast us.dropLast := by
  induction h with
  | nil => exact .nil
  | cons r t ih =>
    cases t with
    | nil => exact .nil
    | cons q t' => exact .cons r ih
theorem Vals.eraseIdx : ∀ {xs : List V} {us : List Value} (i : Nat), Vals xs us → Vals (xs.eraseIdx i) (us.eraseIdx i)
  | _, _, _, .nil => .nil
  | _, _, 0, .cons _ t => t
  | _, _, i + 1, .cons r t => .cons r (Vals.eraseIdx i t)
theorem Vals.reverse {xs : List V} {us : List Value} (h : Vals xs us) : Vals xs.reverse us.reverse := by
  induction h with
  | nil => exact .nil
  | cons r t ih => rw [List.reverse_cons, List.reverse_cons]; exact Vals.append ih (.cons r .nil)
theorem Vals.rep {xs : List V} {us : List Value} (h : Vals xs us) : ∀ k : Nat, Vals (List.replicate k xs).flatten (List.replicate k us).flatten
  | 0 => .nil
  | k + 1 => by
    rw [List.replicate_succ, List.replicate_succ, List.flatten_cons, List.flatten_cons]
    exact Vals.append h (Vals.rep h k)
theorem erase_last {α : Type} (l : List α) : l.eraseIdx (l.length - 1) = l.dropLast := by
  induction l with
  | nil => rfl
  | cons a r ih =>
    cases r with
    | nil => rfl
    | cons b r =>
      have e : (a :: b :: r).length - 1 = ((b :: r).length - 1) + 1 := by
        have h1 : (a :: b :: r).length = r.length + 2 := rfl
        have h2 : (b :: r).length = r.length + 1 := rfl
        omega
      rw [e, List.eraseIdx_cons_succ, ih]
      all_goals rfl
theorem len_erase {α : Type} : ∀ (l : List α) (i : Nat), (l.eraseIdx i).length ≤ l.length
  | [], _ => Nat.le_refl _
  | _ :: _, 0 => Nat.le_succ _
  | _ :: r, i + 1 => Nat.succ_le_succ (len_erase r i)
theorem foldl_rep (its : List Value) : ∀ (k : Nat) (acc : List Value),
    List.foldl (fun x1 x2 => x1 ++ x2) acc.toArray (List.replicate k its.toArray) = (acc ++ (List.replicate k its).flatten).toArray
  | 0, acc => by simp
  | k + 1, acc => by
    have e : acc.toArray ++ its.toArray = (acc ++ its).toArray := by simp
    have e2 : (acc ++ its) ++ (List.replicate k its).flatten = acc ++ (List.replicate (k + 1) its).flatten := by
      rw [List.replicate_succ, List.flatten_cons, List.append_assoc]
    rw [← e2, ← foldl_rep its k (acc ++ its), ← e, List.replicate_succ, List.foldl_cons]

section
variable {X : Cx} {pins : List (Addr × Obj)} {σ : St} {H : Hp} {s : Shared} {l b : Addr} {xs ys zs : List V}

/-! ### the two steps: a tracked list is rewritten, a new list is laid -/
theorem Inv.lset {its its' : List Value} {n : Nat} {f : Array Value → Array Value} {t' : Nat} (I : Inv X pins σ H s) (hH : H l = some (.lst xs))
    (e : s.heap.get? l = some { cls := .type "list", data := .seq its.toArray n }) (hf : f its.toArray = its'.toArray) (hv : Vals ys its') (hz : ys.length ≤ sizeLine) :
    Inv X pins σ (upd H l (.lst ys)) { s with heap := s.heap.update l (Obj.mapSeq f), toks := t' } := by
  have q := PySem.IsL.update e f
  rw [hf] at q
  refine I.write (x := l) (e := l) (by rw [hH]; exact trivial) (.inl rfl) (fun b' u hb hu => (Heap.get?_update_other s.heap (Obj.mapSeq f) (Ne.symm hb)).trans hu) ⟨_, q⟩ ?_
  exact ⟨hz, its', _, hv, q⟩
theorem Inv.lnew {its : List Value} {t' : Nat} (I : Inv X pins σ H s) (hv : Vals ys its) (hz : ys.length ≤ sizeLine) :
    Inv X pins σ (upd H s.heap.objs.size (.lst ys)) { s with heap := s.heap.push { cls := .type "list", data := .seq its.toArray }, toks := t' } :=
  I.laid (fun _ _ q => Heap.get?_push_of_some _ q) (Nat.le_refl _) ⟨hz, its, 0, hv, Heap.get?_push_size _ rfl⟩
theorem Inv.fresh (I : Inv X pins σ H s) : H s.heap.objs.size = none := I.hok.fresh (Nat.le_refl _)
theorem Inv.lstM (I : Inv X pins σ H s) (hH : H l = some (.lst xs)) : xs.length ≤ sizeLine ∧ ∃ (its : List Value) (n : Nat), Vals xs its ∧ xs.length = its.length ∧ s.heap.get? l = some { cls := .type "list", data := .seq its.toArray n } := by
  obtain ⟨z, its, n, r, e⟩ := I.hok l _ hH
  exact ⟨z, its, n, r, r.length, e⟩

theorem notLongL {n : Nat} (h : n ≤ sizeLine) : Builtin.List.listTooLong n = false := by
  unfold Builtin.List.listTooLong
  exact decide_eq_false (by omega)
end

section
variable {X : Cx}

/-! ### methods -/
def rAppend : V → List V → Hp → VK → Prop := fun x vs H Q => ∃ l xs y, x = .ref l ∧ vs = [y] ∧ H l = some (.lst xs) ∧ xs.length < sizeLine ∧ Q .non (upd H l (.lst (xs ++ [y])))
theorem mt_append : MtM X "list.append" rAppend := by
  intro pins s σ H x vs v us Q I rx rv h
  obtain ⟨l, xs, y, rfl, rfl, hH, hz, q⟩ := h
  cases rx
  obtain ⟨u, rfl, ru⟩ := rv.one
  obtain ⟨z, its, n, r, hl, e⟩ := I.lstM hH
  refine call_meets F.slot_list_append ⟨_, e, rfl⟩ F.entry_list_append (F.args_list_append_2 _ _) (PySem.list_append l its.toArray n u (by rw [List.size_toArray]; omega)) ⟨e, ?_⟩
  refine ⟨.non, _, I.lset (its' := its ++ [u]) hH e (by simp) (r.append (.cons ru .nil)) ?_, rfl, q⟩
  rw [List.length_append, List.length_singleton]
  omega

def rExtend : V → List V → Hp → VK → Prop := fun x vs H Q => ∃ l b xs zs, x = .ref l ∧ vs = [.ref b] ∧ H l = some (.lst xs) ∧ H b = some (.lst zs) ∧ xs.length + zs.length ≤ sizeLine ∧ Q .non (upd H l (.lst (xs ++ zs)))
theorem mt_extend : MtM X "list.extend" rExtend := by
  intro pins s σ H x vs v us Q I rx rv h
  obtain ⟨l, b, xs, zs, rfl, rfl, hH, hB, hz, q⟩ := h
  cases rx
  obtain ⟨u, rfl, ru⟩ := rv.one
  cases ru
  obtain ⟨z, its, n, r, hl, e⟩ := I.lstM hH
  obtain ⟨z2, its2, n2, r2, hl2, e2⟩ := I.lstM hB
  have hsz : its.toArray.size + its2.toArray.size ≤ sizeLine := by rw [List.size_toArray, List.size_toArray]; omega
  have hlong : ¬ (!its.toArray.isEmpty && Builtin.List.listTooLong (its.toArray.size + its2.toArray.size)) = true := by
    rw [notLongL hsz, Bool.and_false]
    exact Bool.false_ne_true
  refine call_meets F.slot_list_extend ⟨_, e, rfl⟩ F.entry_list_extend (F.args_list_extend_2 _ _)
    (AutoSeq1.list_extend_list_list_0 l its.toArray n b its2.toArray n2 hlong (by rw [List.size_toArray]; omega) (by omega)) ⟨e, e2, ?_⟩
  refine ⟨.non, _, I.lset (its' := its ++ its2) hH e (by simp) (r.append r2) ?_, rfl, q⟩
  rw [List.length_append]
  omega

def rPop : V → List V → Hp → VK → Prop := fun x vs H Q => ∃ l xs y, x = .ref l ∧ vs = [] ∧ H l = some (.lst xs) ∧ xs[xs.length - 1]? = some y ∧ Q y (upd H l (.lst xs.dropLast))
theorem mt_pop : MtM X "list.pop" rPop := by
  intro pins s σ H x vs v us Q I rx rv h
  obtain ⟨l, xs, y, rfl, rfl, hH, hy, q⟩ := h
  cases rx
  have hus := rv.zero
  subst hus
  obtain ⟨z, its, n, r, hl, e⟩ := I.lstM hH
  obtain ⟨u, hu, ru⟩ := r.get hy
  have hy' : its.toArray[its.toArray.size - 1]? = some u := by
    show its.toArray[its.length - 1]? = some u
    rw [← Array.getElem?_toList, ← hl]
    exact hu
  refine call_meets F.slot_list_pop ⟨_, e, rfl⟩ F.entry_list_pop (F.args_list_pop_1 _) (MeetsSeq.list_pop_last l its.toArray n u hy' (by rw [List.size_toArray]; omega)) ⟨e, ?_⟩
  refine ⟨y, _, I.lset (its' := its.dropLast) hH e ?_ r.dropLast ?_, ru, q⟩
  · show its.toArray.eraseIdxIfInBounds (its.toArray.size - 1) = its.dropLast.toArray
    rw [List.size_toArray, List.eraseIdxIfInBounds_toArray, erase_last]
  · rw [List.length_dropLast]
    omega

def rPopAt : V → List V → Hp → VK → Prop := fun x vs H Q => ∃ l xs i k y, x = .ref l ∧ vs = [.int i] ∧ H l = some (.lst xs) ∧ -(2 ^ 63) ≤ i ∧ i < 2 ^ 63 ∧ seqIndex? i xs.length = some k ∧ xs[k]? = some y ∧ Q y (upd H l (.lst (xs.eraseIdx k)))
theorem mt_popAt : MtM X "list.pop" rPopAt := by
  intro pins s σ H x vs v us Q I rx rv h
  obtain ⟨l, xs, i, k, y, rfl, rfl, hH, h1, h2, hk, hy, q⟩ := h
  cases rx
  obtain ⟨u, rfl, ru⟩ := rv.one
  obtain ⟨t, rfl⟩ := ru
  obtain ⟨z, its, n, r, hl, e⟩ := I.lstM hH
  obtain ⟨w, hw, rw'⟩ := r.get hy
  refine call_meets F.slot_list_pop ⟨_, e, rfl⟩ F.entry_list_pop (F.args_list_pop_2 _ _)
    (MeetsSeq.list_pop_at l its.toArray n i t k w (fitsIndex_both h1 h2) (by rw [List.size_toArray, ← hl]; exact hk) (by rw [← Array.getElem?_toList]; exact hw) (by rw [List.size_toArray]; omega)) ⟨e, ?_⟩
  refine ⟨y, _, I.lset (its' := its.eraseIdx k) hH e ?_ (r.eraseIdx k) ?_, rw', q⟩
  · show its.toArray.eraseIdxIfInBounds k = (its.eraseIdx k).toArray
    rw [List.eraseIdxIfInBounds_toArray]
  · have := len_erase xs k
    omega

def rReverse : V → List V → Hp → VK → Prop := fun x vs H Q => ∃ l xs, x = .ref l ∧ vs = [] ∧ H l = some (.lst xs) ∧ Q .non (upd H l (.lst xs.reverse))
theorem mt_reverse : MtM X "list.reverse" rReverse := by
  intro pins s σ H x vs v us Q I rx rv h
  obtain ⟨l, xs, rfl, rfl, hH, q⟩ := h
  cases rx
  have hus := rv.zero
  subst hus
  obtain ⟨z, its, n, r, hl, e⟩ := I.lstM hH
  refine call_meets F.slot_list_reverse ⟨_, e, rfl⟩ F.entry_list_reverse (F.args_list_reverse_1 _) (AutoSeq1.list_reverse_list_0 l its.toArray n (by rw [List.size_toArray]; omega)) ⟨e, ?_⟩
  refine ⟨.non, _, I.lset (its' := its.reverse) hH e (by simp) r.reverse ?_, rfl, q⟩
  rw [List.length_reverse]
  omega

def rClear : V → List V → Hp → VK → Prop := fun x vs H Q => ∃ l xs, x = .ref l ∧ vs = [] ∧ H l = some (.lst xs) ∧ Q .non (upd H l (.lst []))
theorem mt_clear : MtM X "list.clear" rClear := by
  intro pins s σ H x vs v us Q I rx rv h
  obtain ⟨l, xs, rfl, rfl, hH, q⟩ := h
  cases rx
  have hus := rv.zero
  subst hus
  obtain ⟨z, its, n, r, hl, e⟩ := I.lstM hH
  refine call_meets F.slot_list_clear ⟨_, e, rfl⟩ F.entry_list_clear (F.args_list_clear_1 _) (AutoSeq1.list_clear_list_0 l its.toArray n (by rw [List.size_toArray]; omega)) ⟨e, ?_⟩
  exact ⟨.non, _, I.lset (its' := []) (ys := []) hH e rfl .nil (Nat.zero_le _), rfl, q⟩

/-! ### list + list, list += list, list * int -/
def rCat : R2 := fun x y H Q => ∃ l b xs zs, x = .ref l ∧ y = .ref b ∧ H l = some (.lst xs) ∧ H b = some (.lst zs) ∧ xs.length + zs.length ≤ sizeLine ∧ ∀ p, H p = none → Q (.ref p) (upd H p (.lst (xs ++ zs)))
theorem op_cat : OpR X (binaryOp .Add) rCat := by
  intro pins s σ H x y v u Q I rx ry h
  obtain ⟨l, b, xs, zs, rfl, rfl, hH, hB, hz, q⟩ := h
  cases rx
  cases ry
  obtain ⟨z, its, n, r, hl, e⟩ := I.lstM hH
  obtain ⟨z2, its2, n2, r2, hl2, e2⟩ := I.lstM hB
  refine PySem.P.add_list e e2 ?_ (by rw [List.size_toArray, List.size_toArray]; omega)
  have ea : its.toArray ++ its2.toArray = (its ++ its2).toArray := by simp
  rw [ea]
  exact ⟨.ref _, _, I.lnew (t' := s.toks) (r.append r2) (by rw [List.length_append]; omega), rfl, q _ I.fresh⟩
/-- a list times an int (a negative one is nothing) -/
def rRep : R2 := fun x y H Q => ∃ l k xs, x = .ref l ∧ y = .int k ∧ H l = some (.lst xs) ∧ -(2 ^ 63) ≤ k ∧ k < 2 ^ 63 ∧ xs.length * k.toNat ≤ sizeLine ∧
  ∀ p, H p = none → Q (.ref p) (upd H p (.lst (List.replicate k.toNat xs).flatten))
theorem len_rep {α : Type} (xs : List α) (k : Nat) : (List.replicate k xs).flatten.length = k * xs.length := by
  induction k with
  | zero => simp
  | succ k ih => rw [List.replicate_succ, List.flatten_cons, List.length_append, ih, Nat.succ_mul, Nat.add_comm]
theorem op_rep : OpR X (binaryOp .Mult) rRep := by
  intro pins s σ H x y v u Q I rx ry h
  obtain ⟨l, k, xs, rfl, rfl, hH, h1, h2, hz, q⟩ := h
  cases rx
  obtain ⟨t, rfl⟩ := ry
  obtain ⟨z, its, n, r, hl, e⟩ := I.lstM hH
  have hlen : its.toArray.size * k.toNat ≤ sizeLine := by rw [List.size_toArray, ← hl]; exact hz
  have hcap : ¬ its.toArray.size * k.toNat > (2 ^ 63 - 1) / 8 := by
    have : (sizeLine : Nat) ≤ (2 ^ 63 - 1) / 8 := by decide
    omega
  have hfit : ¬ (!Builtin.List.listFitsIndex k) = true := by
    rw [fitsIndex_both h1 h2]
    exact Bool.false_ne_true
  have hlong : ¬ Builtin.List.listTooLong (its.toArray.size * k.toNat) = true := by
    rw [notLongL hlen]
    exact Bool.false_ne_true
  have hnew : List.foldl (fun x1 x2 => x1 ++ x2) #[] (List.replicate (if its.toArray.isEmpty = true then 0 else k.toNat) its.toArray) = (List.replicate k.toNat its).flatten.toArray := by
    have f0 : ∀ m : Nat, List.foldl (fun x1 x2 => x1 ++ x2) #[] (List.replicate m its.toArray) = (List.replicate m its).flatten.toArray := fun m => by
      have := foldl_rep its m []
      rw [List.nil_append] at this
      exact this
    rw [f0]
    cases its with
    | nil => simp
    | cons a r' => rw [if_neg (by simp)]
  refine wpAny_binaryOp_repeat_ref (T := "list") (U := "int") (by decide) ⟨_, e, rfl⟩ (fun s' => typeIs_int s' k t) noFill_list_mul F.fills_int_mul F.slot_int_rmul repeat_list F.slot_int_index.lookup
    (call_meets F.slot_int_rmul (typeIs_int s k t) F.entry_int_rmul (F.args_int_rmul_2 _ _) (int___rmul___int_list k t l its.toArray n)
      ⟨e, rfl, ⟨_, e, rfl⟩, call_meets F.slot_list_mul ⟨_, e, rfl⟩ F.entry_list_mul (F.args_list_mul_2 _ _) (AutoListH.list___mul___list_int_3 l its.toArray n k t hfit hcap hlong) ⟨e, ?_⟩⟩)
  rw [hnew]
  exact ⟨.ref _, _, I.lnew (t' := s.toks) (r.rep k.toNat) (by rw [len_rep, Nat.mul_comm]; exact hz), rfl, q _ I.fresh⟩

/-! ### del xs[i] -/
theorem del_list {pins : List (Addr × Obj)} {s : Shared} {σ : St} {H : Hp} {l : Addr} {xs : List V} {i : Int} {t : Tok} {k : Nat} {Q : Unit → Shared → Prop} (I : Inv X pins σ H s) (hH : H l = some (.lst xs))
    (h1 : -(2 ^ 63) ≤ i) (h2 : i < 2 ^ 63) (hk : seqIndex? i xs.length = some k) (h : ∀ s', Inv X pins σ (upd H l (.lst (xs.eraseIdx k))) s' → Q () s') :
    wpAny (model X.prog X.w) X.A (delItem (.ref l) (.int i t)) Q X.xe s := by
  obtain ⟨z, its, n, r, hl, e⟩ := I.lstM hH
  refine PySem.P.delItem_list (k := k) e (fitsIndex_both h1 h2) (by rw [List.size_toArray, ← hl]; exact hk) (h _ ?_) (by rw [List.size_toArray]; omega)
  refine I.lset (its' := its.eraseIdx k) (t' := s.toks) hH e ?_ (r.eraseIdx k) ?_
  · show its.toArray.eraseIdxIfInBounds k = (its.eraseIdx k).toArray
    rw [List.eraseIdxIfInBounds_toArray]
  · have := len_erase xs k
    omega
end

/-! ### xs[a:b] = ys -/
section
variable {prog : Program} {w : World} {A : Around} {E : Value → Shared → Prop} {s : Shared}
theorem splice_eq (its its2 : List Value) (a c : Nat) : its.toArray.extract 0 a ++ its2.toArray ++ its.toArray.extract c its.toArray.size = (its.take a ++ its2 ++ its.drop c).toArray := by
  apply Array.toList_inj.mp
  first
    | (simp
       exact List.take_of_length_le (by simp))
    | simp [List.take_of_length_le]
    | simp
theorem bounds_run {a c n : Nat} (hac : a ≤ c) (hc : c ≤ n) : sliceBounds (some (a : Int)) (some (c : Int)) none n = ((a : Int), (c : Int), 1) := by
  simp only [sliceBounds, Option.getD_none]
  have h1 : ¬ ((a : Int) < 0) := by omega
  have h2 : ¬ ((c : Int) < 0) := by omega
  simp only [h1, h2, if_false, show (1 : Int) > 0 by decide, if_true]
  congr 1
  · omega
  · congr 1; omega
set_option maxRecDepth 100000 in
/-- list.__setitem__ with a slice of step one and another list -/
theorem setItem_slice {l b sl : Addr} {items new : Array Value} {n n2 : Nat} {vl vu : Value} {a c : Nat} {Q : Unit → Shared → Prop}
    (e : s.heap.get? l = some { cls := .type "list", data := .seq items n }) (e2 : s.heap.get? b = some { cls := .type "list", data := .seq new n2 }) (hne : l ≠ b)
    (hs : s.heap.IsSliceOf sl vl vu .none) (pl : IsPart vl (some (a : Int))) (pu : IsPart vu (some (c : Int))) (hac : a ≤ c) (hc : c ≤ items.size)
    (hsz : items.size + new.size ≤ sizeLine) (h : Q () { s with heap := s.heap.update l (Obj.mapSeq fun xs => xs.extract 0 a ++ new ++ xs.extract c xs.size) }) :
    wpAny (model prog w) A (setItem (.ref l) (.ref sl) (.ref b)) Q E s := by
  have hl : s.heap.IsList l items := PySem.IsL.isList e
  have hb : s.heap.IsList b new := PySem.IsL.isList e2
  obtain ⟨os, hos, hcs, hds⟩ := id hs
  have hTs : s.TypeIs (.ref sl) "slice" := ⟨os, hos, hcs⟩
  have hstep : ¬ ((rawPart none == rawInt 0) = true) := Bool.false_ne_true
  have hsame : Builtin.List.listSameRef (.ref l) (.ref b) = false := by
    unfold Builtin.List.listSameRef
    exact beq_eq_false_iff_ne.mpr hne
  have hmax : (max (a : Int) (c : Int)).toNat = c := by omega
  have hz' : ((fun xs : Array Value => xs.extract 0 a ++ new ++ xs.extract c xs.size) items).size ≤ sizeLine + 1 := by
    simp only [Array.size_append, Array.size_extract]
    omega
  unfold setItem
  try with_reducible refine wpAny_holding ?_
  first | refine wpAny_bind (wpAny_pure ?_) | skip
  refine wpAny_bind (wpAny_sequenceKey hl.typeIs (by decide) ?_)
  refine wpAny_bind (wpAny_callSpecial?_slot (name := Str.ofString "__setitem__") hl.typeIs slot_list_setitem
    (wpAny_call_entry slot_list_setitem hl.typeIs entry_list_setitem ?_ (args_list_setitem _ _ _)))
  show wpAny _ _ (Builtin.List.listSubscript? (.ref sl) >>= _) _ _ s
  refine wpAny_bind ?_
  unfold Builtin.List.listSubscript?
  refine wpAny_bind (wpAny_specialOf hTs slice_no_index ?_)
  simp only [Option.isNone_none, if_true]
  refine wpAny_pure ?_
  show wpAny _ _ (typeOf (.ref sl) >>= _) _ _ s
  refine wpAny_bind (wpAny_typeOf hTs ?_)
  first
    | rw [if_neg (by decide)]
    | refine PySem.W.KFB.if_not (by decide) ?_
  rw [listSliceParts_eq]
  refine wpAny_bind (wpAny_bind (wpAny_field hos hds (x := .none) rfl (wpAny_bind (wpAny_listPart .none ?_))))
  rw [if_neg hstep]
  refine wpAny_bind (wpAny_field hos hds (x := vl) rfl (wpAny_bind (wpAny_listPart pl ?_)))
  refine wpAny_bind (wpAny_field hos hds (x := vu) rfl (wpAny_bind (wpAny_listPart pu (wpAny_pure ?_))))
  first
    | simp only [hsame, Bool.false_eq_true, if_false]
    | refine PySem.W.KFB.if_not hsame ?_
    | (dsimp only
       rw [if_neg (by rw [hsame]; exact Bool.false_ne_true)])
  refine wpAny_bind (m := Builtin.List.listAllItems (.ref b) "must assign iterable to extended slice") ?_
  unfold Builtin.List.listAllItems
  refine wpAny_bind (wpAny_typeOf hb.typeIs ?_)
  first
    | refine PySem.W.KFB.if_so (by decide) ?_
    | rw [if_pos (by decide)]
    | simp only [beq_self_eq_true, Bool.true_or, if_true]
  unfold Builtin.List.listItems
  refine wpAny_bind (wpAny_seqItems e2 rfl (wpAny_pure ?_))
  refine wpAny_bind (wpAny_bind (wpAny_seqItems e rfl (wpAny_pure ?_)))
  refine wpAny_bind (wpAny_of_eq ((sliceIndices_raw (some (a : Int)) (some (c : Int)) none items.size (by simp)).trans (congrArg (pure : Int × Int × Int → Sem (Int × Int × Int)) (bounds_run hac hc))) ?_)
  show wpAny _ _ (if ((1 : Int) == 1) = true then _ else _) _ _ s
  rw [if_pos (by decide)]
  refine wpAny_bind (wpAny_rule ?_)
  first
    | simp only [notLongL hsz, Bool.false_eq_true, if_false]
    | refine PySem.W.KFB.if_not (notLongL hsz) ?_
  first | refine wpAny_bind (wpAny_pure ?_) | skip
  show wpAny _ _ (updateSeq l (fun xs => xs.extract 0 ((a : Int)).toNat ++ new ++ xs.extract (max (a : Int) (c : Int)).toNat xs.size) >>= _) _ _ s
  rw [hmax, Int.toNat_natCast]
  refine wpAny_bind (wpAny_updateSeq (hz := Nat.le_trans (Nat.le_add_right _ _) hsz) (_hz' := hz') e rfl ?_)
  refine wpAny_bind (wpAny_letGo ?_)
  first
    | exact wpAny_bind (wpAny_pure (wpAny_pure ⟨.none, rfl, wpAny_pure h⟩))
    | exact wpAny_pure ⟨.none, rfl, wpAny_pure h⟩
end

section
variable {X : Cx}
/-- xs[a:c] = ys of another list, at the value level: sl is the slice object that was just made -/
theorem set_slice {pins : List (Addr × Obj)} {s : Shared} {σ : St} {H : Hp} {l b sl : Addr} {xs ys : List V} {a c : Int} {vl vu : Value} {Q : Unit → Shared → Prop} (I : Inv X pins σ H s)
    (hH : H l = some (.lst xs)) (hB : H b = some (.lst ys)) (hne : l ≠ b) (hs : s.heap.IsSliceOf sl vl vu .none) (ra : RelV (.int a) vl) (rc : RelV (.int c) vu) (h0 : 0 ≤ a) (hac : a ≤ c) (hc : c ≤ xs.length)
    (hz : xs.length + ys.length ≤ sizeLine) (h : ∀ s', Inv X pins σ (upd H l (.lst (xs.take a.toNat ++ ys ++ xs.drop c.toNat))) s' → Q () s') :
    wpAny (model X.prog X.w) X.A (setItem (.ref l) (.ref sl) (.ref b)) Q X.xe s := by
  obtain ⟨ta, rfl⟩ := ra
  obtain ⟨tc, rfl⟩ := rc
  obtain ⟨z, its, n, r, hl, e⟩ := I.lstM hH
  obtain ⟨z2, its2, n2, r2, hl2, e2⟩ := I.lstM hB
  obtain ⟨a', rfl⟩ := Int.eq_ofNat_of_zero_le h0
  obtain ⟨c', rfl⟩ := Int.eq_ofNat_of_zero_le (Int.le_trans h0 hac)
  simp only [Int.toNat_natCast] at h
  refine setItem_slice (a := a') (c := c') e e2 hne hs (.int _ _) (.int _ _) (by omega) (by rw [List.size_toArray]; omega) (by rw [List.size_toArray, List.size_toArray]; omega) (h _ ?_)
  refine I.lset (its' := its.take a' ++ its2 ++ its.drop c') (t' := s.toks) hH e ?_ (Vals.append (Vals.append (r.take _) r2) (r.drop _)) ?_
  · exact splice_eq its its2 a' c'
  · rw [List.length_append, List.length_append, List.length_take, List.length_drop]
    omega
end
end L2

namespace L2
open PySem PySem.Spec PyProof.Rows

theorem Vals.ints : ∀ {ns : List Int} {us : List Value}, Vals (ns.map V.int) us → IntsAre us ns
  | [], us, h => by
    rw [List.map_nil] at h
    cases h
    exact IntsAre.nil
  | n :: ns, us, h => by
    rw [List.map_cons] at h
    cases h with
    | cons r t =>
      obtain ⟨k, rfl⟩ := r
      exact IntsAre.cons n k (Vals.ints t)
theorem vals_of_ints : ∀ {us : List Value} {ns : List Int}, IntsAre us ns → Vals (ns.map V.int) us
  | _, _, .nil => by rw [List.map_nil]; exact Paired.nil
  | _, _, .cons n t h => by rw [List.map_cons]; exact Paired.cons (show RelV (V.int n) (Value.int n t) from ⟨t, rfl⟩) (vals_of_ints h)
theorem Vals.strs : ∀ {xs : List Str} {us : List Value}, Vals (xs.map V.str) us → StrsAre us xs
  | [], us, h => by
    rw [List.map_nil] at h
    cases h
    exact StrsAre.nil
  | x :: xs, us, h => by
    rw [List.map_cons] at h
    cases h with
    | cons r t =>
      obtain ⟨k, rfl⟩ := r
      exact StrsAre.cons x k (Vals.strs t)
theorem vals_of_strs : ∀ {us : List Value} {xs : List Str}, StrsAre us xs → Vals (xs.map V.str) us
  | _, _, .nil => by rw [List.map_nil]; exact Paired.nil
  | _, _, .cons x t h => by rw [List.map_cons]; exact Paired.cons (show RelV (V.str x) (Value.str x t) from ⟨t, rfl⟩) (vals_of_strs h)
theorem Vals.bls : ∀ {bs : List Bool} {us : List Value}, Vals (bs.map V.bl) us → us = bs.map Value.bool
  | [], us, h => by
    rw [List.map_nil] at h
    cases h
    rfl
  | b :: bs, us, h => by
    rw [List.map_cons] at h
    cases h with
    | cons r t =>
      cases r
      rw [Vals.bls t, List.map_cons]
theorem Vals.ref1 {a : Addr} {us : List Value} (r : Vals [V.ref a] us) : us = [Value.ref a] := by
  cases r with
  | cons r t =>
    cases t
    cases r
    rfl
theorem Vals.int2 {i j : Int} {us : List Value} (r : Vals [V.int i, V.int j] us) : ∃ t u, us = [Value.int i t, Value.int j u] := by
  cases r with
  | cons r t =>
    cases t with
    | cons r2 t2 =>
      cases t2
      obtain ⟨t, rfl⟩ := r
      obtain ⟨u, rfl⟩ := r2
      exact ⟨t, u, rfl⟩

/-! ### the library's walks over a list of ints, kept objects alone -/
section
variable {prog : Program} {w : World} {A : Around} {E : Value → Shared → Prop} {s : Shared} {l : Addr} {its : List Value} {ns : List Int} {Q : Value → Shared → Prop}
theorem sum_raw (hh : A.handled = none) (hl : s.heap.IsList l its.toArray) (hi : IntsAre its ns)
    (h : ∀ h' tk t', (∀ b o, s.heap.get? b = some o → h'.get? b = some o) → Q (.int ns.sum t') { s with heap := h', toks := tk }) : wpAny (model prog w) A (call (.builtin "sum") [.ref l]) Q E s := by
  obtain ⟨xs, e⟩ := hi.allInts.items
  have hn : numsOf (intItems xs).toList = ns := by rw [← e]; exact hi.numsOf
  rw [nums_intItems] at hn
  rw [e] at hl
  refine PySem.sum_intListG hh hl fun h' tk t' hk => ?_
  have := h h' tk t' hk
  rw [preSum_eq, List.take_of_length_le (by simp), hn]; exact this
theorem max_raw (hh : A.handled = none) (hl : s.heap.IsList l its.toArray) (hi : IntsAre its ns) (hne : 0 < ns.length)
    (h : ∀ h' tk M t', (∀ b o, s.heap.get? b = some o → h'.get? b = some o) → M ∈ ns → (∀ a, a ∈ ns → a ≤ M) → Q (.int M t') { s with heap := h', toks := tk }) : wpAny (model prog w) A (call (.builtin "max") [.ref l]) Q E s := by
  obtain ⟨xs, e⟩ := hi.allInts.items
  have hn : numsOf (intItems xs).toList = ns := by rw [← e]; exact hi.numsOf
  rw [nums_intItems] at hn
  subst hn
  rw [e] at hl
  have hsz : 0 < xs.size := by simpa using hne
  refine PySem.max_intList hh hl hsz fun v h' tk hv hk => ?_
  obtain ⟨t, rfl⟩ := intItems_at hv
  obtain ⟨h1, h2⟩ := argBest_gt (numAt xs) (xs.size - 1)
  refine h h' tk _ t hk ?_ fun a ha => ?_
  · rw [numAt_eq]; exact PySem.getD_mem (by rw [List.length_map, Array.length_toList]; omega)
  · obtain ⟨j, hj, rfl⟩ := mem_getD ha
    rw [List.length_map, Array.length_toList] at hj
    rw [← numAt_eq]; exact h2 j (by omega)
theorem min_raw (hh : A.handled = none) (hl : s.heap.IsList l its.toArray) (hi : IntsAre its ns) (hne : 0 < ns.length)
    (h : ∀ h' tk M t', (∀ b o, s.heap.get? b = some o → h'.get? b = some o) → M ∈ ns → (∀ a, a ∈ ns → M ≤ a) → Q (.int M t') { s with heap := h', toks := tk }) : wpAny (model prog w) A (call (.builtin "min") [.ref l]) Q E s := by
  obtain ⟨xs, e⟩ := hi.allInts.items
  have hn : numsOf (intItems xs).toList = ns := by rw [← e]; exact hi.numsOf
  rw [nums_intItems] at hn
  subst hn
  rw [e] at hl
  have hsz : 0 < xs.size := by simpa using hne
  refine PySem.min_intList hh hl hsz fun v h' tk hv hk => ?_
  obtain ⟨t, rfl⟩ := intItems_at hv
  obtain ⟨h1, h2⟩ := argBest_lt (numAt xs) (xs.size - 1)
  refine h h' tk _ t hk ?_ fun a ha => ?_
  · rw [numAt_eq]; exact PySem.getD_mem (by rw [List.length_map, Array.length_toList]; omega)
  · obtain ⟨j, hj, rfl⟩ := mem_getD ha
    rw [List.length_map, Array.length_toList] at hj
    rw [← numAt_eq]; exact h2 j (by omega)
end

/-! ### the calls, by values (CallR of 03t; MtR of 06l) -/
section
variable {X : Cx}
/-- sum(xs) of a list of ints -/
def rSum (K : PySem.W.Frag) : List V → Hp → VK → Prop := fun vs H Q => ∃ (a : Addr) (ns : List Int), vs = [V.ref a] ∧ SqL K H a (ns.map V.int) ∧ Q (.int ns.sum) H
/-- max(xs), min(xs) of a list of ints -/
def rMax (K : PySem.W.Frag) : List V → Hp → VK → Prop := fun vs H Q => ∃ (a : Addr) (ns : List Int), vs = [V.ref a] ∧ SqL K H a (ns.map V.int) ∧ 0 < ns.length ∧ ∀ m, m ∈ ns → (∀ y, y ∈ ns → y ≤ m) → Q (.int m) H
def rMin (K : PySem.W.Frag) : List V → Hp → VK → Prop := fun vs H Q => ∃ (a : Addr) (ns : List Int), vs = [V.ref a] ∧ SqL K H a (ns.map V.int) ∧ 0 < ns.length ∧ ∀ m, m ∈ ns → (∀ y, y ∈ ns → m ≤ y) → Q (.int m) H
theorem cr_sum (hc : X.calm = true) : CallR X (.builtin "sum") (rSum X.K) := by
  intro pins s σ H vs us Q I r h
  obtain ⟨a, ns, rfl, hs, q⟩ := h
  obtain ⟨its, rv, hl, _⟩ := I.list hs
  rw [Vals.ref1 r]
  exact sum_raw (I.ok.hd hc) hl.isList rv.ints fun h' tk t' hk => ⟨.int _, H, I.kept hk, ⟨_, rfl⟩, q⟩
theorem cr_max (hc : X.calm = true) : CallR X (.builtin "max") (rMax X.K) := by
  intro pins s σ H vs us Q I r h
  obtain ⟨a, ns, rfl, hs, hne, q⟩ := h
  obtain ⟨its, rv, hl, _⟩ := I.list hs
  rw [Vals.ref1 r]
  exact max_raw (I.ok.hd hc) hl.isList rv.ints hne fun h' tk m t' hk h1 h2 => ⟨.int _, H, I.kept hk, ⟨_, rfl⟩, q m h1 h2⟩
theorem cr_min (hc : X.calm = true) : CallR X (.builtin "min") (rMin X.K) := by
  intro pins s σ H vs us Q I r h
  obtain ⟨a, ns, rfl, hs, hne, q⟩ := h
  obtain ⟨its, rv, hl, _⟩ := I.list hs
  rw [Vals.ref1 r]
  exact min_raw (I.ok.hd hc) hl.isList rv.ints hne fun h' tk m t' hk h1 h2 => ⟨.int _, H, I.kept hk, ⟨_, rfl⟩, q m h1 h2⟩

/-! sorted, sort (fewer than 64 items: the library's own bound) -/
def rSorted (K : PySem.W.Frag) : List V → Hp → VK → Prop := fun vs H Q => ∃ (a : Addr) (ns : List Int), vs = [V.ref a] ∧ SqL K H a (ns.map V.int) ∧ ns.length < 64 ∧
  ∀ (ns' : List Int) (p : Addr), ns'.Perm ns → ns'.Pairwise (· ≤ ·) → H p = none → Q (.ref p) (upd H p (.lst (ns'.map V.int)))
def rSortedS (K : PySem.W.Frag) : List V → Hp → VK → Prop := fun vs H Q => ∃ (a : Addr) (xs : List Str), vs = [V.ref a] ∧ SqL K H a (xs.map V.str) ∧ xs.length < 64 ∧
  ∀ (ys : List Str) (p : Addr), ys.Perm xs → sortedS ys = true → H p = none → Q (.ref p) (upd H p (.lst (ys.map V.str)))
theorem small64 {n : Nat} (h : n < 64) : n ≤ sizeLine := by rw [sizeLine_eq]; omega
theorem cr_sorted : CallR X (.builtin "sorted") (rSorted X.K) := by
  intro pins s σ H vs us Q I r h
  obtain ⟨a, ns, rfl, hs, h64, q⟩ := h
  obtain ⟨its, rv, hl, _⟩ := I.list hs
  rw [Vals.ref1 r]
  have hi := rv.ints
  refine PyProof.Rows.sorted_ints hl.isList hi (by rw [hi.length]; exact h64) fun out ns' h1 h2 h3 => ?_
  obtain ⟨ep, he'⟩ := PyProof.Rows.sortedAll_at s.heap its out
  have hlen : (ns'.map V.int).length ≤ sizeLine := by rw [List.length_map, h2.length_eq]; exact small64 h64
  exact ⟨.ref _, upd H (s.heap.objs.size + 1) (.lst (ns'.map V.int)), I.laid (t' := s.toks) (fun _ _ => PyProof.Rows.sortedAll_old) (Nat.le_succ _) ⟨hlen, out.toList, ep, vals_of_ints h1, he'⟩, rfl, q ns' _ h2 h3 (I.hok.fresh (Nat.le_succ _))⟩
theorem cr_sortedS : CallR X (.builtin "sorted") (rSortedS X.K) := by
  intro pins s σ H vs us Q I r h
  obtain ⟨a, xs, rfl, hs, h64, q⟩ := h
  obtain ⟨its, rv, hl, _⟩ := I.list hs
  rw [Vals.ref1 r]
  have hlen0 := rv.length
  rw [List.length_map] at hlen0
  refine PyProof.Rows.sorted_strs hl.isList rv.strs (by rw [← hlen0]; exact h64) fun out ys h1 h2 h3 => ?_
  obtain ⟨ep, he'⟩ := PyProof.Rows.sortedAll_at s.heap its out
  have hlen : (ys.map V.str).length ≤ sizeLine := by rw [List.length_map, h2.length_eq]; exact small64 h64
  exact ⟨.ref _, upd H (s.heap.objs.size + 1) (.lst (ys.map V.str)), I.laid (t' := s.toks) (fun _ _ => PyProof.Rows.sortedAll_old) (Nat.le_succ _) ⟨hlen, out.toList, ep, vals_of_strs h1, he'⟩, rfl, q ys _ h2 h3 (I.hok.fresh (Nat.le_succ _))⟩
/-- xs.sort(), ints -/
def rSort : V → List V → Hp → VK → Prop := fun x xs H Q => ∃ (a : Addr) (ns : List Int), x = V.ref a ∧ xs = [] ∧ H a = some (.lst (ns.map V.int)) ∧ ns.length < 64 ∧
  ∀ ns' : List Int, ns'.Perm ns → ns'.Pairwise (· ≤ ·) → Q .non (upd H a (.lst (ns'.map V.int)))
theorem mt_sort : MtR X "list.sort" rSort := by
  intro pins s σ H x xs v us Q I rx rxs h
  obtain ⟨a, ns, rfl, rfl, ha, h64, q⟩ := h
  cases rx
  cases rxs
  obtain ⟨hz, its, n, rv, hob⟩ := I.hok a _ ha
  have hi := rv.ints
  refine wpAny_call_entry PyProof.Rows.slot_list_sort ⟨_, hob, rfl⟩ PyProof.Rows.entry_list_sort
    (PyProof.Rows.list_sort_tree hob hi (by rw [hi.length]; exact h64) fun out ns' h1 h2 h3 => ⟨.none, rfl, ?_⟩) (PyProof.Rows.args_list_sort _)
  obtain ⟨ep, he'⟩ := PyProof.Rows.sortedHeap_at (vs := its) (out := out) hob
  have hlen : (ns'.map V.int).length ≤ sizeLine := by rw [List.length_map, h2.length_eq]; exact small64 h64
  refine ⟨.non, upd H a (.lst (ns'.map V.int)), I.write (e := a) (t' := s.toks) (by rw [ha]; trivial) (.inl rfl) (fun b u hb hu => ?_) ⟨_, he'⟩ ⟨hlen, out.toList, ep, vals_of_ints h1, he'⟩, rfl, q ns' h2 h3⟩
  rw [PyProof.Rows.sortedHeap_old hb (Heap.lt_size hu)]; exact hu
end

/-! ### list.index, flat items -/
section
variable {X : Cx}
def rIndex (K : PySem.W.Frag) : V → List V → Hp → VK → Prop := fun x xs H Q => ∃ (a : Addr) (ys : List V) (y : V) (j : Nat) (z : V), x = V.ref a ∧ xs = [y] ∧ SqL K H a ys ∧ flatV y = true ∧ ys.all flatV = true ∧ ys[j]? = some z ∧ eqV z y = true ∧
  (∀ (m : Nat) (z' : V), m < j → ys[m]? = some z' → eqV z' y = false) ∧ Q (.int (j : Nat)) H
theorem flat_at {ys : List V} (f : ys.all flatV = true) {j : Nat} {z : V} (h : ys[j]? = some z) : flatV z = true := List.all_eq_true.mp f z (List.mem_of_getElem? h)
theorem mt_index : MtR X "list.index" (rIndex X.K) := by
  intro pins s σ H x xs v us Q I rx rxs h
  obtain ⟨a, ys, y, j, z, rfl, rfl, hs, fy, fys, hz, hzj, hno, q⟩ := h
  cases rx
  cases rxs with
  | cons ry rt =>
    rename_i uy ut
    cases rt
    obtain ⟨its, rv, ⟨⟨cls, dd, data, sl⟩, n, ho, hc, hdn, hd⟩, hlen⟩ := I.list hs
    simp only at hc hd
    subst hc hd
    obtain ⟨u, hu, ru⟩ := rv.get hz
    obtain ⟨hjl, hje⟩ := List.getElem?_eq_some_iff.mp hu
    have hvl := rv.length
    have hj : j < its.toArray.size := by simpa using hjl
    have hsl := sizeLine_eq
    refine call_meets PySem.F.slot_list_index ⟨_, ho, rfl⟩ PySem.F.entry_list_index (PySem.F.args_list_index_2 _ _)
      (SeqAt.list_indexAt a its.toArray n dd sl uy (eqU y) j hj (by omega) ?_ ?_) ⟨ho, fun u' hu' => mem_eqAt ry fy rv fys u' (by simpa using hu'), ?_⟩
    · have e1 : its.toArray[j] = u := by simpa using hje
      rw [e1, eqU_of ru (flat_at fys hz)]
      exact hzj
    · intro m hm hmj
      have hml : m < its.length := by simpa using hm
      have hmy : m < ys.length := by omega
      have hy' : ys[m]? = some ys[m] := List.getElem?_eq_getElem hmy
      obtain ⟨u2, hu2, ru2⟩ := rv.get hy'
      obtain ⟨_, hme⟩ := List.getElem?_eq_some_iff.mp hu2
      have e1 : its.toArray[m] = u2 := by simpa using hme
      rw [e1, eqU_of ru2 (flat_at fys hy')]
      exact hno m _ hmj hy'
    · exact ⟨.int (j : Nat), H, I.tok _, ⟨_, rfl⟩, q⟩
end

/-! ### type(x) of an own instance; is, is not of a module's class -/
section
variable {X : Cx}
theorem cr_type : CallR X (.type "type") (fun xs H Q => ∃ a C dx fs, xs = [V.ref a] ∧ H a = some (.ins C dx fs) ∧ Q (.ref C) H) := by
  intro pins s σ H xs us Q I r h
  obtain ⟨a, C, dx, fs, rfl, ha, q⟩ := h
  rw [Vals.ref1 r]
  obtain ⟨mA, O, _⟩ := ins_get I.hok ha
  obtain ⟨od, J, _⟩ := O.look
  exact PySem.W.kto_own J ⟨.ref C, H, I, rfl, q⟩
/-- an object of the module whose class is no tuple: a class of the text (makesIn says that its type is a type's heir) -/
theorem cls_there {K : PySem.W.Frag} {C : Addr} (h : PySem.W.makesIn K C = true) : ∃ o, K.lookup C = some o ∧ o.cls ≠ .type "tuple" := by
  unfold PySem.W.makesIn at h
  split at h
  · rename_i oc od cd sl ho
    refine ⟨_, ho, fun e => ?_⟩
    rw [Bool.and_eq_true] at h
    have h2 : PySem.W.instIn K (.ref C) (.type "type") = some true := beq_iff_eq.mp h.2
    have e2 : oc = .type "tuple" := e
    have h3 : PySem.W.instIn K (.ref C) (.type "type") = PySem.W.subIn K oc (.type "type") := by
      show ((K.lookup C).map (fun o => o.cls)).bind (fun t => PySem.W.subIn K t (.type "type")) = _
      rw [ho]
      all_goals rfl
    rw [h3, e2] at h2
    have h4 : PySem.W.subIn K (.type "tuple") (.type "type") = some false := by
      show (fastBuiltinMro "tuple").map (·.contains (.type "type")) = some false
      decide +kernel
    rw [h4] at h2
    cases h2
  · cases h
theorem op_is_cls : OpR X (compareOp .Is) (fun x y H Q => ∃ a b, x = V.ref a ∧ y = V.ref b ∧ (a = b ∨ (PySem.W.makesIn X.K a = true ∧ PySem.W.makesIn X.K b = true)) ∧ Q (.bl (decide (a = b))) H) := by
  intro pins s σ H x y v u Q I rx ry h
  obtain ⟨a, b, rfl, rfl, hab, q⟩ := h
  cases rx
  cases ry
  by_cases z : a = b
  · subst z
    exact wpAny_is_ref_self ⟨.bl _, H, I, by simp [RelV], q⟩
  · rcases hab with e | ⟨h1, h2⟩
    · exact absurd e z
    · obtain ⟨o1, e1, n1⟩ := cls_there h1
      obtain ⟨o2, e2, _⟩ := cls_there h2
      exact wpAny_is_ref_other z (I.kIn _ _ e1) (I.kIn _ _ e2) n1 ⟨.bl _, H, I, by simp [RelV, z], q⟩
theorem op_isnot_cls : OpR X (compareOp .IsNot) (fun x y H Q => ∃ a b, x = V.ref a ∧ y = V.ref b ∧ (a = b ∨ (PySem.W.makesIn X.K a = true ∧ PySem.W.makesIn X.K b = true)) ∧ Q (.bl (!decide (a = b))) H) := by
  intro pins s σ H x y v u Q I rx ry h
  obtain ⟨a, b, rfl, rfl, hab, q⟩ := h
  cases rx
  cases ry
  by_cases z : a = b
  · subst z
    exact wpAny_isNot_ref_self ⟨.bl _, H, I, by simp [RelV], q⟩
  · rcases hab with e | ⟨h1, h2⟩
    · exact absurd e z
    · obtain ⟨o1, e1, n1⟩ := cls_there h1
      obtain ⟨o2, e2, _⟩ := cls_there h2
      exact wpAny_isNot_ref_other z (I.kIn _ _ e1) (I.kIn _ _ e2) n1 ⟨.bl _, H, I, by simp [RelV, z], q⟩
end

/-! ### any(xs), all(xs) of a list of bools -/
theorem iter_any {prog : Program} {w : World} {A : Around} {E : Value → Shared → Prop} {s : Shared} {l : Addr} {items : Array Value} {Q : Value → Shared → Prop} (hl : s.heap.IsList l items)
    (h : ∀ s₂ : Shared, s₂ = { s with heap := s.heap.push { cls := .type "list_iterator", data := .fields #[.ref l, .int 0 0] } } →
      (s₂.heap.IsListIter s.heap.objs.size l 0 ∧ s₂.heap.IsList l items) → l ≠ s.heap.objs.size → Q (.ref s.heap.objs.size) s₂) : wpAny (model prog w) A (pyIter (.ref l)) Q E s := by
  have hlt : l < s.heap.objs.size := by obtain ⟨_, e, _⟩ := hl; exact Heap.lt_size e
  exact wpAny_pyIter_list hl (h _ rfl ⟨⟨_, Heap.get?_push_size _ rfl, rfl, rfl⟩, hl.push _⟩ (Nat.ne_of_lt hlt))
theorem truth_bools {prog : Program} {w : World} {A : Around} {bs : List Bool} {its : List Value} (e : its = bs.map Value.bool) :
    TruthOf prog w A (fun i v => its.toArray[i]? = some v) (fun i => bs.getD i false) := fun i v s Q E hv hq => by
  have hv' : its[i]? = some v := by simpa using hv
  rw [e, List.getElem?_map] at hv'
  obtain ⟨b, hb, rfl⟩ := Option.map_eq_some_iff.mp hv'
  have hg : bs.getD i false = b := by rw [List.getD_eq_getElem?_getD, hb] <;> rfl
  have hq' : Q (bs.getD i false) s := hq
  rw [hg] at hq'
  exact wpAny_truthy_bool hq'
theorem any_range : ∀ bs : List Bool, (List.range bs.length).any (fun i => bs.getD i false) = bs.any id
  | [] => rfl
  | b :: bs => by
    rw [List.length_cons, List.range_succ_eq_map, List.any_cons, List.any_map, List.any_cons, ← any_range bs]
    all_goals rfl
theorem all_range : ∀ bs : List Bool, (List.range bs.length).all (fun i => bs.getD i false) = bs.all id
  | [] => rfl
  | b :: bs => by
    rw [List.length_cons, List.range_succ_eq_map, List.all_cons, List.all_map, List.all_cons, ← all_range bs]
    all_goals rfl
section
variable {X : Cx}
def rAny (K : PySem.W.Frag) : List V → Hp → VK → Prop := fun vs H Q => ∃ (a : Addr) (bs : List Bool), vs = [V.ref a] ∧ SqL K H a (bs.map V.bl) ∧ Q (.bl (bs.any id)) H
def rAll (K : PySem.W.Frag) : List V → Hp → VK → Prop := fun vs H Q => ∃ (a : Addr) (bs : List Bool), vs = [V.ref a] ∧ SqL K H a (bs.map V.bl) ∧ Q (.bl (bs.all id)) H
theorem cr_any (hc : X.calm = true) : CallR X (.builtin "any") (rAny X.K) := by
  intro pins s σ H vs us Q I r h
  obtain ⟨a, bs, rfl, hs, q⟩ := h
  obtain ⟨its, rv, hl, _⟩ := I.list hs
  rw [Vals.ref1 r]
  have hb := rv.bls
  refine call_any_walk (iter_any hl.isList fun s₂ e2 st hne => ?_)
  subst e2
  refine ⟨_, _, _, _, _, _, _, rfl, Walks.list (A := X.A.in1) (I.ok.hd hc) _ a hne its.toArray, st, truth_bools hb, fun h' tk hk => ?_⟩
  refine ⟨.bl _, H, I.kept fun b o eo => hk b o (fun hmem => ?_) (Heap.get?_push_of_some _ eo), ?_, q⟩
  · rcases List.mem_cons.mp hmem with e1 | hmem
    · exact absurd (e1 ▸ Heap.lt_size eo) (Nat.lt_irrefl _)
    · cases hmem
  · show Value.bool _ = Value.bool _
    rw [← any_range, hb, List.size_toArray, List.length_map]
theorem cr_all (hc : X.calm = true) : CallR X (.builtin "all") (rAll X.K) := by
  intro pins s σ H vs us Q I r h
  obtain ⟨a, bs, rfl, hs, q⟩ := h
  obtain ⟨its, rv, hl, _⟩ := I.list hs
  rw [Vals.ref1 r]
  have hb := rv.bls
  refine call_all_walk (iter_any hl.isList fun s₂ e2 st hne => ?_)
  subst e2
  refine ⟨_, _, _, _, _, _, _, rfl, Walks.list (A := X.A.in1) (I.ok.hd hc) _ a hne its.toArray, st, truth_bools hb, fun h' tk hk => ?_⟩
  refine ⟨.bl _, H, I.kept fun b o eo => hk b o (fun hmem => ?_) (Heap.get?_push_of_some _ eo), ?_, q⟩
  · rcases List.mem_cons.mp hmem with e1 | hmem
    · exact absurd (e1 ▸ Heap.lt_size eo) (Nat.lt_irrefl _)
    · cases hmem
  · show Value.bool _ = Value.bool _
    rw [← all_range, hb, List.size_toArray, List.length_map]
end

/-! ### == and != of data at any depth: none, bools, ints, texts, lists, tuples -/
mutual
inductive Dp (K : PySem.W.Frag) (H : Hp) : V → PyData → Prop
  | non : Dp K H .non .none
  | bl (b : Bool) : Dp K H (.bl b) (.bool b)
  | int (i : Int) : Dp K H (.int i) (.int i)
  | str (x : Str) : Dp K H (.str x) (.str x)
  | lst {a : Addr} {xs : List V} {ds : List PyData} : SqL K H a xs → DpAll K H xs ds → Dp K H (.ref a) (.list ds)
  | tup {a : Addr} {xs : List V} {ds : List PyData} : SqT K H a xs → DpAll K H xs ds → Dp K H (.ref a) (.tuple ds)
inductive DpAll (K : PySem.W.Frag) (H : Hp) : List V → List PyData → Prop
  | nil : DpAll K H [] []
  | cons {v : V} {vs : List V} {d : PyData} {ds : List PyData} : Dp K H v d → DpAll K H vs ds → DpAll K H (v :: vs) (d :: ds)
end
section
variable {X : Cx} {pins : List (Addr × Obj)} {σ : St} {H : Hp} {s : Shared}
mutual
theorem Dp.reads (I : Inv X pins σ H s) : ∀ (d : PyData) (v : V) (u : Value), Dp X.K H v d → RelV v u → ∃ as, Reads s.heap u d as
  | .none, _, _, h, r => by
    cases h
    cases r
    exact ⟨_, Reads.none⟩
  | .bool b, _, _, h, r => by
    cases h
    cases r
    exact ⟨_, Reads.bool b⟩
  | .int i, _, _, h, r => by
    cases h
    obtain ⟨t, rfl⟩ := r
    exact ⟨_, Reads.int i t⟩
  | .str x, _, _, h, r => by
    cases h
    obtain ⟨t, rfl⟩ := r
    exact ⟨_, Reads.str x t⟩
  | .list ds, _, _, h, r => by
    cases h with
    | lst hs ha =>
      cases r
      obtain ⟨its, rv, ⟨o, n, ho, hc, _, hd⟩, _⟩ := I.list hs
      obtain ⟨as, hr⟩ := Dp.readsAll I ds _ its ha rv
      exact ⟨_, Reads.list ho hc hd hr⟩
  | .tuple ds, _, _, h, r => by
    cases h with
    | tup hs ha =>
      cases r
      obtain ⟨its, rv, ⟨o, ho, hc, n, hd⟩, _⟩ := I.tuple hs
      obtain ⟨as, hr⟩ := Dp.readsAll I ds _ its ha rv
      exact ⟨_, Reads.tuple ho hc hd hr⟩
  | .dict _, _, _, h, _ => by cases h
theorem Dp.readsAll (I : Inv X pins σ H s) : ∀ (ds : List PyData) (vs : List V) (us : List Value), DpAll X.K H vs ds → Vals vs us → ∃ as, ReadsAll s.heap us ds as
  | [], _, _, h, r => by
    cases h
    cases r
    exact ⟨_, ReadsAll.nil⟩
  | d :: ds, _, _, h, r => by
    cases h with
    | cons h1 h2 =>
      cases r with
      | cons r1 r2 =>
        obtain ⟨as, q1⟩ := Dp.reads I d _ _ h1 r1
        obtain ⟨bs, q2⟩ := Dp.readsAll I ds _ _ h2 r2
        exact ⟨_, ReadsAll.cons q1 q2⟩
end
end
section
variable {X : Cx}
def rEqD (K : PySem.W.Frag) : R2 := fun x y H Q => ∃ d e, Dp K H x d ∧ Dp K H y e ∧ SeqAt.shaped d = true ∧ SeqAt.shaped e = true ∧ Q (.bl (PyData.eqv d e)) H
def rNeD (K : PySem.W.Frag) : R2 := fun x y H Q => ∃ d e, Dp K H x d ∧ Dp K H y e ∧ SeqAt.shaped d = true ∧ SeqAt.shaped e = true ∧ Q (.bl (!PyData.eqv d e)) H
theorem op_eqD (hu : X.A.units + 64 < cLine) : OpR X (compareOp .Eq) (rEqD X.K) := by
  intro pins s σ H x y v u Q I rx ry h
  obtain ⟨d, e, hd, he, sd, se, q⟩ := h
  obtain ⟨as, r1⟩ := Dp.reads I d x v hd rx
  obtain ⟨bs, r2⟩ := Dp.reads I e y u he ry
  exact SeqAt.compareEq_shaped r1 r2 sd se hu ⟨.bl _, H, I, rfl, q⟩
theorem op_neD (hu : X.A.units + 64 < cLine) : OpR X (compareOp .NotEq) (rNeD X.K) := by
  intro pins s σ H x y v u Q I rx ry h
  obtain ⟨d, e, hd, he, sd, se, q⟩ := h
  obtain ⟨as, r1⟩ := Dp.reads I d x v hd rx
  obtain ⟨bs, r2⟩ := Dp.reads I e y u he ry
  exact SeqAt.compareNe_shaped r1 r2 sd se hu ⟨.bl _, H, I, rfl, q⟩
end
end L2

namespace L2
open PySem PySem.Spec PyProof.Rows
abbrev CellAt (h : Heap) (c : Addr) (v : Option Value) : Prop := h.IsCell c v
def relS (scope sc : Scope) : Scope :=
  { scope with names := scope.names.map fun (n, k) => if (k == .free && sc.kind == .function && sc.names.lookup n == some .cell) then (n, .cell) else (n, k) }

def cloFrom (cells : List (Str × Addr)) : List (Str × NameKind) → List (Str × Addr) → List (Str × Addr)
  | [], acc => acc
  | (n, k) :: r, acc => if k == .free then cloFrom cells r ((n, (cells.lookup n).getD 0) :: acc) else cloFrom cells r acc

theorem closure_loop (env : Env) (f : Str × NameKind → List (Str × Addr) → Sem (ForInStep (List (Str × Addr))))
    (hf : ∀ n k c, f (n, k) c = if k == .free then (do let a ← cellOf env n; pure (.yield ((n, a) :: c))) else pure (.yield c)) :
    ∀ (names : List (Str × NameKind)) (acc : List (Str × Addr)), (∀ y ∈ names, y.2 = .free → ∃ c, env.cells.lookup y.1 = some c) → forIn names acc f = pure (cloFrom env.cells names acc)
  | [], acc, _ => by rw [List.forIn_nil]; rfl
  | (n, k) :: r, acc, h => by
    rw [List.forIn_cons, hf]
    have ih := fun acc => closure_loop env f hf r acc fun y hy => h y (List.mem_cons_of_mem _ hy)
    unfold cloFrom
    by_cases hk : (k == NameKind.free) = true
    · rw [if_pos hk, if_pos hk]
      obtain ⟨c, hc⟩ := h (n, k) List.mem_cons_self (by simpa using hk)
      have e : cellOf env n = pure c := by unfold cellOf; rw [hc]
      rw [e]
      have e2 : (env.cells.lookup n).getD 0 = c := by rw [hc]; rfl
      rw [e2]
      exact ih _
    · rw [if_neg hk, if_neg hk]
      exact ih _
theorem closure_ok {scope : Scope} {env : Env} (h : ∀ y ∈ scope.names, y.2 = .free → ∃ c, env.cells.lookup y.1 = some c) : closureFor scope env = pure (cloFrom env.cells scope.names []) := by
  simp only [closureFor]
  rw [closure_loop env _ (fun n k c => rfl) scope.names [] h]
  rfl

theorem mem_lookup {α : Type} : ∀ {l : List (Str × α)} {n : Str} {c : α}, (n, c) ∈ l → ∃ c', l.lookup n = some c'
  | (k, v) :: r, n, c, h => by
    rw [List.lookup_cons]
    cases hb : n == k with
    | true => exact ⟨_, rfl⟩
    | false =>
      rcases List.mem_cons.mp h with e | h
      · cases e; simp at hb
      · exact mem_lookup h

theorem cloFrom_mem {cells : List (Str × Addr)} : ∀ {names : List (Str × NameKind)} {acc : List (Str × Addr)} {n : Str} {c : Addr}, (n, c) ∈ cloFrom cells names acc → (n, c) ∈ acc ∨ ((n, .free) ∈ names ∧ c = (cells.lookup n).getD 0)
  | [], _, _, _, h => .inl h
  | (m, k) :: r, acc, n, c, h => by
    unfold cloFrom at h
    split at h
    · rename_i hk
      have hk : k = .free := by simpa using hk
      rcases cloFrom_mem h with h | ⟨h1, h2⟩
      · rcases List.mem_cons.mp h with e | h
        · cases e; exact .inr ⟨hk ▸ List.mem_cons_self, rfl⟩
        · exact .inl h
      · exact .inr ⟨List.mem_cons_of_mem _ h1, h2⟩
    · rcases cloFrom_mem h with h | ⟨h1, h2⟩
      · exact .inl h
      · exact .inr ⟨List.mem_cons_of_mem _ h1, h2⟩
theorem cloFrom_acc {cells : List (Str × Addr)} : ∀ {names : List (Str × NameKind)} {acc : List (Str × Addr)} {p : Str × Addr}, p ∈ acc → p ∈ cloFrom cells names acc
  | [], _, _, h => h
  | (m, k) :: r, acc, p, h => by
    unfold cloFrom
    split
    · exact cloFrom_acc (List.mem_cons_of_mem _ h)
    · exact cloFrom_acc h
theorem cloFrom_has {cells : List (Str × Addr)} : ∀ {names : List (Str × NameKind)} {acc : List (Str × Addr)} {n : Str}, (n, .free) ∈ names → (n, (cells.lookup n).getD 0) ∈ cloFrom cells names acc
  | (m, k) :: r, acc, n, h => by
    unfold cloFrom
    rcases List.mem_cons.mp h with e | h
    · cases e
      exact cloFrom_acc List.mem_cons_self
    · split
      · exact cloFrom_has h
      · exact cloFrom_has h

theorem cells_mem : ∀ {names : List (Str × NameKind)} {h : Heap} {acc : List (Str × Addr)} {x : Str} {c : Addr}, (x, c) ∈ cellsFrom h.objs.size names acc →
    (x, c) ∈ acc ∨ ((x, .cell) ∈ names ∧ h.objs.size ≤ c ∧ CellAt (pushCells h names) c none)
  | [], _, _, _, _, h => .inl h
  | (n, k) :: r, h, acc, x, c, hm => by
    unfold cellsFrom at hm
    unfold pushCells
    split at hm
    · rename_i hk
      rw [if_pos hk]
      have hk : k = .cell := by simpa using hk
      rw [← Heap.size_push h { cls := .type "cell", data := .cell none }] at hm
      rcases cells_mem hm with hm | ⟨h1, h2, h3⟩
      · rcases List.mem_cons.mp hm with e | hm
        · cases e
          exact .inr ⟨hk ▸ List.mem_cons_self, Nat.le_refl _, _, pushCells_keeps r _ _ _ (Heap.get?_push_size _ rfl), rfl⟩
        · exact .inl hm
      · rw [Heap.size_push] at h2
        exact .inr ⟨List.mem_cons_of_mem _ h1, Nat.le_of_succ_le h2, h3⟩
    · rename_i hk
      rw [if_neg hk]
      rcases cells_mem hm with hm | ⟨h1, h2, h3⟩
      · exact .inl hm
      · exact .inr ⟨List.mem_cons_of_mem _ h1, h2, h3⟩
theorem cells_acc : ∀ {names : List (Str × NameKind)} {n : Nat} {acc : List (Str × Addr)} {p : Str × Addr}, p ∈ acc → p ∈ cellsFrom n names acc
  | [], _, _, _, h => h
  | (m, k) :: r, n, acc, p, h => by
    unfold cellsFrom
    split
    · exact cells_acc (List.mem_cons_of_mem _ h)
    · exact cells_acc h
theorem cells_has : ∀ {names : List (Str × NameKind)} {n : Nat} {acc : List (Str × Addr)} {x : Str}, (x, .cell) ∈ names → ∃ c, (x, c) ∈ cellsFrom n names acc
  | (m, k) :: r, n, acc, x, h => by
    unfold cellsFrom
    rcases List.mem_cons.mp h with e | h
    · cases e
      exact ⟨n, cells_acc List.mem_cons_self⟩
    · split
      · exact cells_has h
      · exact cells_has h
theorem cells_inj : ∀ {names : List (Str × NameKind)} {h : Heap} {acc : List (Str × Addr)} {x y : Str} {c : Addr}, (∀ p ∈ acc, p.2 < h.objs.size) → (∀ x y c, (x, c) ∈ acc → (y, c) ∈ acc → x = y) →
    (x, c) ∈ cellsFrom h.objs.size names acc → (y, c) ∈ cellsFrom h.objs.size names acc → x = y
  | [], _, _, _, _, _, _, hi, h1, h2 => hi _ _ _ h1 h2
  | (n, k) :: r, h, acc, x, y, c, hl, hi, h1, h2 => by
    unfold cellsFrom at h1 h2
    split at h1
    · rename_i hk
      rw [if_pos hk] at h2
      rw [← Heap.size_push h { cls := .type "cell", data := .cell none }] at h1 h2
      refine cells_inj (h := h.push _) (fun p hp => ?_) (fun x y c a b => ?_) h1 h2
      · rw [Heap.size_push]
        rcases List.mem_cons.mp hp with rfl | hp
        · exact Nat.lt_succ_self _
        · exact Nat.lt_succ_of_lt (hl p hp)
      · rcases List.mem_cons.mp a with e | a <;> rcases List.mem_cons.mp b with e' | b
        · cases e; cases e'; rfl
        · cases e; exact absurd (hl _ b) (Nat.lt_irrefl _)
        · cases e'; exact absurd (hl _ a) (Nat.lt_irrefl _)
        · exact hi _ _ _ a b
    · rename_i hk
      rw [if_neg hk] at h2
      exact cells_inj hl hi h1 h2

theorem newEnv_comp {M : Model} {A : Around} {E : Value → Shared → Prop} {s : Shared} {scope : Scope} {globals : Addr} {closure : List (Str × Addr)} {qual : Str} {func : Option Addr} {code : Value} {around : Env} {builtins : Addr} {Q : Env → Shared → Prop}
    (h : Q (newEnv scope s.heap.objs.size globals (cellsFrom (s.heap.objs.size + 1) scope.names closure) qual func code (some around) builtins)
      { s with heap := pushCells (s.heap.push { cls := .type "dict", data := .dict #[] }) scope.names }) :
    wpAny M A (newFunctionEnv scope globals closure [] qual func code (some around) builtins) Q E s := by
  simp only [newFunctionEnv, Option.isSome_some, if_true]
  refine wpAny_bind (wpAny_alloc ?_)
  refine wpAny_bind (wpAny_layCells _ (fun n k c => rfl) scope.names closure _ _ ?_)
  rw [show ({ s with heap := s.heap.push { cls := .type "dict", data := .dict #[] } } : Shared).heap.objs.size = s.heap.objs.size + 1 from Heap.size_push ..]
  rw [List.forIn_nil]
  exact wpAny_bind (wpAny_pure (wpAny_pure h))

/-- every name of the written scope, in the scope that runs -/
theorem lookup_relS {sc : Scope} : ∀ {names : List (Str × NameKind)} {x : Str} {k : NameKind},
    (names.map fun (n, k) => if (k == NameKind.free && sc.kind == .function && sc.names.lookup n == some .cell) then (n, NameKind.cell) else (n, k)).lookup x = some k →
    ∃ k', names.lookup x = some k' ∧ (k = k' ∨ (k' = .free ∧ k = .cell))
  | [], _, _, h => by simp at h
  | (n, k₀) :: r, x, k, h => by
    have ih := @lookup_relS sc r x k
    have h' : List.lookup x ((if (k₀ == NameKind.free && sc.kind == .function && sc.names.lookup n == some .cell) = true then (n, NameKind.cell) else (n, k₀)) :: (r.map _)) = some k := h
    cases hx : x == n with
    | true =>
      simp only [List.lookup_cons, hx]
      by_cases hc : (k₀ == NameKind.free && sc.kind == .function && sc.names.lookup n == some .cell) = true
      · rw [if_pos hc] at h'
        simp only [List.lookup_cons, hx] at h'
        cases h'
        simp only [Bool.and_eq_true, beq_iff_eq] at hc
        exact ⟨k₀, rfl, .inr ⟨hc.1.1, rfl⟩⟩
      · rw [if_neg hc] at h'
        simp only [List.lookup_cons, hx] at h'
        cases h'
        exact ⟨_, rfl, .inl rfl⟩
    | false =>
      simp only [List.lookup_cons, hx]
      by_cases hc : (k₀ == NameKind.free && sc.kind == .function && sc.names.lookup n == some .cell) = true
      · rw [if_pos hc] at h'
        simp only [List.lookup_cons, hx] at h'
        exact ih h'
      · rw [if_neg hc] at h'
        simp only [List.lookup_cons, hx] at h'
        exact ih h'
theorem lookup_relS_keep {sc : Scope} : ∀ {names : List (Str × NameKind)} {x : Str} {k : NameKind}, k ≠ .free → names.lookup x = some k →
    (names.map fun (n, k) => if (k == NameKind.free && sc.kind == .function && sc.names.lookup n == some .cell) then (n, NameKind.cell) else (n, k)).lookup x = some k
  | [], _, _, _, h => by simp at h
  | (n, k₀) :: r, x, k, hk, h => by
    have ih := @lookup_relS_keep sc r x k hk
    show List.lookup x ((if (k₀ == NameKind.free && sc.kind == .function && sc.names.lookup n == some .cell) = true then (n, NameKind.cell) else (n, k₀)) :: (r.map _)) = some k
    cases hx : x == n with
    | true =>
      simp only [List.lookup_cons, hx] at h
      cases h
      have : ¬ (k₀ == NameKind.free && sc.kind == .function && sc.names.lookup n == some .cell) = true := by simp [hk]
      rw [if_neg this]
      simp only [List.lookup_cons, hx]
    | false =>
      simp only [List.lookup_cons, hx] at h
      by_cases hc : (k₀ == NameKind.free && sc.kind == .function && sc.names.lookup n == some .cell) = true
      · rw [if_pos hc]; simp only [List.lookup_cons, hx]; exact ih h
      · rw [if_neg hc]; simp only [List.lookup_cons, hx]; exact ih h

theorem pushCells_size : ∀ (names : List (Str × NameKind)) (h : Heap), h.objs.size ≤ (pushCells h names).objs.size
  | [], _ => Nat.le_refl _
  | (_, k) :: r, h => by
    unfold pushCells
    split
    · refine Nat.le_trans ?_ (pushCells_size r _)
      rw [Heap.size_push]; exact Nat.le_succ _
    · exact pushCells_size r h


/-- the names of a comprehension's block: its own (with their places in N), or captured -/
structure BlkOk (N : List Str) (sc scope : Scope) (own : List (Str × Nat)) : Prop where
  kind : scope.kind = .function
  uniq : ∀ y ∈ scope.names, scope.names.lookup y.1 = some y.2
  ix : ∀ p ∈ own, N[p.2]? = some p.1
  free : ∀ y ∈ scope.names, y.2 = .free → sc.names.lookup y.1 = some .cell ∨ sc.names.lookup y.1 = some .free
  own : ∀ y ∈ scope.names, y.2 = .local ∨ y.2 = .cell → y.1 ∈ own.map (·.1) ∨ y.1 ∉ N
/-- the slots of the block's own names forgotten -/
def wipe (σ : St) : List Nat → St
  | [] => σ
  | v :: vs => (wipe σ vs).set v none
theorem wipe_length (σ : St) : ∀ vs : List Nat, (wipe σ vs).length = σ.length
  | [] => rfl
  | v :: vs => by unfold wipe; rw [List.length_set, wipe_length σ vs]
theorem wipe_some {σ : St} {i : Nat} {x : V} : ∀ {vs : List Nat}, (wipe σ vs)[i]? = some (some x) → σ[i]? = some (some x) ∧ i ∉ vs
  | [], h => ⟨h, by simp⟩
  | v :: vs, h => by
    unfold wipe at h
    by_cases hi : v = i
    · subst hi
      by_cases hv : v < (wipe σ vs).length
      · rw [List.getElem?_set_self hv] at h; cases h
      · rw [List.getElem?_eq_none (by simpa using hv)] at h; cases h
    · rw [List.getElem?_set_ne hi] at h
      obtain ⟨h1, h2⟩ := wipe_some h
      exact ⟨h1, by simp only [List.mem_cons, not_or]; exact ⟨fun e => hi e.symm, h2⟩⟩

/-- the context of a block that starts at s, its iterator's objects at fp -/
abbrev Cx.blk (X : Cx) (s : Shared) (H : Hp) (scope : Scope) (cenv : Env) (fp : List Addr) : Cx := { X with s_0 := s, H_0 := H, env := cenv, outer := X.stack, ex := fp, fn := fun x => scope.names.lookup x == some .cell, pn := [], xe := fun _ _ => False }
section
variable {X : Cx} {pins : List (Addr × Obj)} {σ : St} {H : Hp} {s : Shared}
theorem block_start {scope : Scope} {own : List (Str × Nat)} {fp : List Addr} (I : Inv X pins σ H s) (ok : BlkOk X.N X.env.scope scope own) (hN : X.N.Nodup) (hfp : ∀ b ∈ fp, FpOk X pins H b ∧ b < s.heap.objs.size) :
    Inv (X.blk s H scope (compEnvC scope (cellsFrom (s.heap.objs.size + 1) scope.names (cloFrom X.env.cells scope.names [])) s.heap.objs.size X.env) fp) [] (wipe σ (own.map (·.2))) H { s with heap := pushCells (s.heap.push { cls := .type "dict", data := .dict #[] }) scope.names } := by
  have hfree : ∀ y ∈ scope.names, y.2 = .free → ∃ c, X.env.cells.lookup y.1 = some c := fun y hy e => by
    rcases ok.free y hy e with k | k
    · exact I.ok.has _ (.inl k)
    · exact I.ok.has _ (.inr k)
  generalize hcenv : compEnvC scope (cellsFrom (s.heap.objs.size + 1) scope.names (cloFrom X.env.cells scope.names [])) s.heap.objs.size X.env = cenv
  have kp : ∀ b o, s.heap.get? b = some o → (pushCells (s.heap.push { cls := .type "dict", data := .dict #[] }) scope.names).get? b = some o := fun b o e => pushCells_keeps _ _ _ _ (Heap.get?_push_of_some _ e)
  have hL : cenv.locals = s.heap.objs.size := by rw [← hcenv]; rfl
  have hcl : cenv.cells = cellsFrom (s.heap.objs.size + 1) scope.names (cloFrom X.env.cells scope.names []) := by rw [← hcenv]; rfl
  have hsc : cenv.scope = relS scope X.env.scope := by rw [← hcenv]; rfl
  rw [← Heap.size_push s.heap { cls := .type "dict", data := .dict #[] }] at hcl
  have cm : ∀ {y c}, (y, c) ∈ cloFrom X.env.cells scope.names [] → X.env.cells.lookup y = some c ∧ c < s.heap.objs.size := fun {y c} hm => by
    rcases cloFrom_mem hm with hm | ⟨h1, rfl⟩
    · cases hm
    · obtain ⟨c, hc⟩ := hfree _ h1 rfl
      rw [hc]
      obtain ⟨w, z⟩ := I.cell _ _ hc
      exact ⟨rfl, z.lt⟩
  have mem : ∀ {y c}, cenv.cells.lookup y = some c → (X.env.cells.lookup y = some c ∧ c < s.heap.objs.size) ∨ (s.heap.objs.size + 1 ≤ c ∧ CellAt (pushCells (s.heap.push { cls := .type "dict", data := .dict #[] }) scope.names) c none) := fun {y c} e => by
    rw [hcl] at e
    rcases cells_mem (PySem.mem_of_lookup e) with hm | ⟨_, h2, h3⟩
    · exact .inl (cm hm)
    · rw [Heap.size_push] at h2; exact .inr ⟨h2, h3⟩
  have look : ∀ {y}, scope.names.lookup y = some .free → ∃ c, cenv.cells.lookup y = some c ∧ X.env.cells.lookup y = some c := fun {y} hl => by
    have hy : (y, NameKind.free) ∈ scope.names := PySem.mem_of_lookup hl
    obtain ⟨c', e'⟩ := mem_lookup (cells_acc (names := scope.names) (n := (s.heap.push { cls := .type "dict", data := .dict #[] }).objs.size) (cloFrom_has (cells := X.env.cells) (acc := []) hy))
    rw [← hcl] at e'
    refine ⟨c', e', ?_⟩
    rw [hcl] at e'
    rcases cells_mem (PySem.mem_of_lookup e') with hm | ⟨h1, _, _⟩
    · exact (cm hm).1
    · have := ok.uniq _ h1
      rw [hl] at this; cases this
  have okB : (X.blk s H scope cenv fp).Ok := by
    refine ⟨I.ok.mod, by show cenv.scope.kind = _; rw [hsc]; exact ok.kind, by show cenv.globals = _; rw [← hcenv]; exact I.ok.glob, by show cenv.builtins = _; rw [← hcenv]; exact I.ok.blt, by show s.heap.objs.size ≤ cenv.locals; rw [hL]; exact Nat.le_refl _,
      fun y z c e1 e2 => ?_, fun y hy => ?_, fun y c z e => ?_, I.ok.hd, I.ok.frames, .inl rfl, fun b hb => ⟨?_, fun y c e z => ?_⟩, I.bs, Nat.le_trans I.ok.bsz I.sz, fun b o e hb => ?_, fun b hb z => ?_, I.stack, I.stkFree⟩
    · have e1 : cenv.cells.lookup y = some c := e1
      have e2 : cenv.cells.lookup z = some c := e2
      rw [hcl] at e1 e2
      refine cells_inj (fun p hp => ?_) (fun y z c a b => I.ok.inj y z c (cm a).1 (cm b).1) (PySem.mem_of_lookup e1) (PySem.mem_of_lookup e2)
      rw [Heap.size_push]
      exact Nat.lt_succ_of_lt (cm (y := p.1) (c := p.2) hp).2
    · show ∃ c, cenv.cells.lookup y = some c
      have key : ∀ k, cenv.kindOf y = some k → (k = .cell ∨ k = .free) → ∃ c, cenv.cells.lookup y = some c := fun k hk hk' => by
        unfold Env.kindOf at hk
        rw [hsc] at hk
        obtain ⟨k', e, r⟩ := lookup_relS hk
        have : k' = .cell ∨ k' = .free := by
          rcases r with rfl | ⟨rfl, _⟩
          · exact hk'
          · exact .inr rfl
        rcases this with rfl | rfl
        · obtain ⟨c, hm⟩ := cells_has (n := (s.heap.push { cls := .type "dict", data := .dict #[] }).objs.size) (acc := cloFrom X.env.cells scope.names []) (PySem.mem_of_lookup e)
          obtain ⟨c', e'⟩ := mem_lookup hm
          exact ⟨c', by rw [hcl]; exact e'⟩
        · obtain ⟨c, h1, _⟩ := look e
          exact ⟨c, h1⟩
      rcases hy with hy | hy
      · exact key _ hy (.inl rfl)
      · exact key _ hy (.inr rfl)
    · have z : (scope.names.lookup y == some NameKind.cell) = true := z
      have z : scope.names.lookup y = some .cell := by simpa using z
      have e : cenv.cells.lookup y = some c := e
      rw [hcl] at e
      rcases cells_mem (PySem.mem_of_lookup e) with hm | ⟨_, h2, _⟩
      · rcases cloFrom_mem hm with hm | ⟨h1, _⟩
        · cases hm
        · have q := ok.uniq _ h1
          rw [z] at q; cases q
      · rw [Heap.size_push] at h2
        exact Nat.le_of_succ_le h2
    · show b ≠ cenv.locals
      rw [hL]; exact Nat.ne_of_lt (hfp b hb).2
    · have e : cenv.cells.lookup y = some c := e
      rcases mem e with ⟨h1, _⟩ | ⟨h1, _⟩
      · exact (hfp b hb).1.2.2.2.2.1 y c h1 z
      · have h2 : s.heap.objs.size + 1 ≤ b := by rw [← z]; exact h1
        exact absurd (Nat.lt_of_lt_of_le (hfp b hb).2 (Nat.le_of_succ_le h2)) (Nat.lt_irrefl _)
    · rcases (hfp b hb).1.2.2.2.1 with z | z
      · exact I.ok.noex b o e z
      · exact absurd (Nat.lt_of_lt_of_le (Heap.lt_size e) (Nat.le_trans I.ok.bsz z)) (Nat.lt_irrefl _)
    · rcases List.mem_cons.mp (I.stkSub b z) with z | z
      · exact (hfp b hb).1.2.1 z
      · exact (hfp b hb).1.2.2.1 z
  refine ⟨okB, rfl, I.bare, Un.kept kp, ⟨fun _ => none, ?_, fun i y av e1 e2 e3 => ?_⟩, fun y c e => ?_, ?_, fun y c e => ?_, fun p hp => ?_, I.hok.kept kp, by rw [wipe_length]; exact I.len⟩
  · show Heap.Ns _ cenv.locals _
    rw [hL]
    exact Heap.Ns.keeps (Heap.Ns.new ..) fun b o e => pushCells_keeps _ _ _ _ e
  · obtain ⟨e2, hne⟩ := wipe_some e2
    have hfr : scope.names.lookup y = some .free ∧ (cenv.kindOf y = some .cell ∨ cenv.kindOf y = some .free) := by
      have key : ∀ k, cenv.scope.names.lookup y = some k → k = .local ∨ k = .cell ∨ k = .free → scope.names.lookup y = some .free ∧ (cenv.kindOf y = some .cell ∨ cenv.kindOf y = some .free) := fun k hk hk' => by
        have hk0 := hk
        rw [hsc] at hk
        obtain ⟨k', e, r⟩ := lookup_relS hk
        have no : ¬ (k' = .local ∨ k' = .cell) := fun hh => by
          rcases ok.own _ (PySem.mem_of_lookup e) hh with e' | e'
          · obtain ⟨p, hp, hpy⟩ := List.mem_map.mp e'
            have e3 := ok.ix p hp
            have : p.1 = y := hpy
            rw [this] at e3
            exact hne (List.mem_map.mpr ⟨p, hp, nodup_ix hN e3 e1⟩)
          · exact e' (List.mem_of_getElem? e1)
        rcases r with rfl | ⟨rfl, rfl⟩
        · rcases hk' with rfl | rfl | rfl
          · exact absurd (.inl rfl) no
          · exact absurd (.inr rfl) no
          · exact ⟨e, .inr hk0⟩
        · exact ⟨e, .inl hk0⟩
      have e3 : Vis cenv.scope y := e3
      rcases e3 with e3 | e3 | e3
      · exact key _ e3 (.inl rfl)
      · exact key _ e3 (.inr (.inl rfl))
      · exact key _ e3 (.inr (.inr rfl))
    obtain ⟨m, hn, hl⟩ := I.loc
    have hvis : Vis X.env.scope y := (ok.free _ (PySem.mem_of_lookup hfr.1) rfl).elim (fun k => .inr (.inl k)) (fun k => .inr (.inr k))
    obtain ⟨w, r, q⟩ := hl i y av e1 e2 hvis
    refine ⟨w, r, .inr ⟨hfr.2, ?_⟩⟩
    obtain ⟨c, h1, h2⟩ := look hfr.1
    rcases q with ⟨k, _⟩ | ⟨_, c', e', z⟩
    · have k : X.env.scope.names.lookup y = some .local := k
      rcases ok.free _ (PySem.mem_of_lookup hfr.1) rfl with k' | k' <;> rw [show X.env.scope.names.lookup y = _ from k'] at k <;> cases k
    · rw [h2] at e'; cases e'
      exact ⟨c, h1, z.keeps kp⟩
  · have e : cenv.cells.lookup y = some c := e
    rcases mem e with ⟨h1, _⟩ | ⟨_, z⟩
    · obtain ⟨w, z⟩ := I.cell y c h1
      exact ⟨w, z.keeps kp⟩
    · exact ⟨_, z⟩
  · show H cenv.locals = none
    rw [hL]; exact I.hok.fresh (Nat.le_refl _)
  · have e : cenv.cells.lookup y = some c := e
    rcases mem e with ⟨h1, _⟩ | ⟨h1, _⟩
    · exact I.freeC y c h1
    · exact I.hok.fresh (Nat.le_of_succ_le h1)
  · exact absurd (show p ∈ ([] : List (Addr × Obj)) ++ [] from hp) (by simp)

/-- an item appended to a tracked list -/
theorem app_ok {E : Value → Shared → Prop} {D : Addr} {xs : List V} {y : V} {v : Value} {Q : Value → Shared → Prop} (I : Inv X pins σ H s) (hD : H D = some (.lst xs)) (hz : xs.length < sizeLine) (r : RelV y v)
    (h : ∀ s', Inv X pins σ (upd H D (.lst (xs ++ [y]))) s' → Q .none s') : wpAny (model X.prog X.w) X.A (call (.builtin "list.append") [.ref D, v]) Q E s := by
  obtain ⟨hz', its, n, ri, e⟩ := I.hok D _ hD
  have hl := ri.length
  refine append_at (hsz := by rw [List.size_toArray]; omega) e fun h' sb ho' => ?_
  refine h { s with heap := h' } (I.write (t' := s.toks) (by rw [hD]; trivial) (.inl rfl) (fun b u hb q => (sb.2 b hb).trans q) ⟨_, ho'⟩ ⟨by rw [List.length_append]; exact hz, its ++ [v], n + 1, ri.append (.cons r .nil), ?_⟩)
  rw [ho']
  simp

/-- a clause's tests -/
def PTs (X : Cx) (ifs : List Expr) (t : TT) : Prop :=
  ∀ (pins : List (Addr × Obj)) (s : Shared) (σ : St) (H : Hp) (Q : Bool → Hp → Prop), Inv X pins σ H s → t σ H Q →
    wpAny (model X.prog X.w) X.A (forIn ifs true fun c r => if r = true then do let ok ← isTrue c X.env (eval c X.env); pure (ForInStep.yield ok) else pure (ForInStep.yield r)) (TP X pins σ Q) X.xe s
def tYes : TT := fun _ H Q => Q true H
theorem pts_nil : PTs X [] tYes := fun _ _ _ H _ I h => wpAny_tests_nil ⟨H, I, h⟩
theorem pts_one {c : Expr} {t : TT} (h : PT X c t) : PTs X [c] t := fun pins s σ H Q I hw => wpAny_tests_one (h pins s σ H Q I hw)
end

theorem thnF {α : Type} {t : Sem α} {Q Q' : α → Shared → Prop} {M : Model} {A : Around} {E : Value → Shared → Prop} {s : Shared} (h : wpAny M A t Q (fun _ _ => False) s) (hQ : ∀ a s, Q a s → Q' a s) : wpAny M A t Q' E s := wpAny_mono h hQ fun _ _ z => False.elim z

/-- the loop of a list comprehension's block, the target of any form (codeAny_compLoop_tests asks a target that no tuple goes to; statement and proof follow it, PyProof/CompMap.lean:41-61, with the step letOwnedTupleGo kept) -/
theorem compLoop_any {prog : Program} {w : World} {A : Around} {R : Result → Shared → Prop} {s : Shared} {elt target iter : Expr} {ifs : List Expr} {scope : Scope} {pos : Pos} {it acc : Value} {env : Env} (I : Nat → Shared → Prop)
    (turn : ∀ n s, I n s → wpAny (model prog w) A (pyNext it) (fun r s₁ => match r with
      | none => R (.ok .next) s₁
      | some v => wpAny (model prog w) A (letOwnedTupleGo target it v) (fun _ s₁' => wpAny (model prog w) A (assign target env v) (fun _ s₂ =>
          wpAny (model prog w) A (forIn ifs true fun c r => if r = true then do let ok ← isTrue c env (eval c env); pure (ForInStep.yield ok) else pure (ForInStep.yield r)) (fun ok s₃ =>
            if ok = true then wpAny (model prog w) A (eval elt env) (fun x s₄ =>
              wpAny (model prog w) A (call (.builtin "list.append") [acc, x]) (fun _ s₅ => ∃ m, m < n ∧ I m s₅) (notedBy (model prog w) A env fun e s' => R (.error e) s') s₄) (notedBy (model prog w) A env fun e s' => R (.error e) s') s₃
            else ∃ m, m < n ∧ I m s₃) (notedBy (model prog w) A env fun e s' => R (.error e) s') s₂) (notedBy (model prog w) A env fun e s' => R (.error e) s') s₁') (notedBy (model prog w) A env fun e s' => R (.error e) s') s₁) (notedBy (model prog w) A env fun e s' => R (.error e) s') s)
    (n : Nat) (h : I n s) :
    codeAny (model prog w) A (.compLoop (.ListComp elt [⟨target, iter, ifs, 0⟩] scope pos) 0 it acc env) R s := by
  refine codeAny_loop rfl I (fun n s hI => ?_) n h
  show wpAny _ A ((compTurn (.ListComp elt [⟨target, iter, ifs, 0⟩] scope pos) 0 it acc env).onRaise (fun x => do noteFrame x env; theTreesLotGoes x)) _ _ s
  refine wpAny_noted ?_
  rw [compTurn_list]
  refine wpAny_bind (wpAny_standAt (wpAny_bind (wpAny_mono (turn n s hI) (fun r s₁ h₁ => ?_) fun _ _ h' => h')))
  cases r with
  | none => exact wpAny_pure h₁
  | some v =>
    refine wpAny_bind (wpAny_mono h₁ (fun _ s₁' h₁' => ?_) fun _ _ h' => h')
    refine wpAny_bind (wpAny_mono h₁' (fun _ s₂ h₂ => wpAny_bind (wpAny_mono h₂ (fun ok s₃ h₃ => ?_) fun _ _ h' => h')) fun _ _ h' => h')
    cases ok with
    | false => exact wpAny_pure ⟨rfl, h₃⟩
    | true =>
      exact wpAny_bind (wpAny_bind (wpAny_mono h₃ (fun x s₄ h₄ => wpAny_bind (wpAny_mono h₄ (fun _ s₅ h₅ => wpAny_pure (wpAny_pure ⟨rfl, h₅⟩)) fun _ _ h' => h')) fun _ _ h' => h'))

section
variable {X : Cx}
/-- [elt for target in iter if ..]: D the new list; W by the turn and a measure, Nx what a turn is to reach -/
def tLc (wi : TI) (g : TG) (tt : TT) (te : TE) (vs : List Nat) : TE := fun σ H Q => wi σ H fun J H1 => ∀ D, H1 D = none → ∃ W : Nat → Nat → Hp → Prop, (∃ m, W 0 m (upd H1 D (.lst []))) ∧ ∀ i m H, W i m H →
  (J.stop i H ∧ Q (.ref D) H) ∨ (J.go i H ∧ ∃ Nx : Hp → Prop, (∀ H', Nx H' → ∃ m', m' < m ∧ W (i + 1) m' H') ∧ ∀ x H', J.yld i H x H' → g x (wipe σ vs) H' fun σ2 H2 => wipe σ2 vs = wipe σ vs ∧ tt σ2 H2 fun b H3 =>
    if b = true then te σ2 H3 fun y H4 => ∃ acc, H4 D = some (.lst acc) ∧ acc.length < sizeLine ∧ Nx (upd H4 D (.lst (acc ++ [y]))) else Nx H3)
theorem lc_core {pins : List (Addr × Obj)} {s : Shared} {σ : St} {H : Hp} {Q : VK} {elt tg iter : Expr} {ifs : List Expr} {scope : Scope} {own : List (Str × Nat)} {pos pos' : Pos} {wi : TI} {g : TG} {tt : TT} {te : TE} {use : Option (Value → Sem Unit)} {Qf : Value → Shared → Prop}
    (hc : X.calm = true) (hN : X.N.Nodup) (I : Inv X pins σ H s) (hi : PI X tg iter wi) (ok : BlkOk X.N X.env.scope scope own)
    (hg : ∀ (s : Shared) (H : Hp) (C : Addr) (cl : List (Str × Addr)) (fp : List Addr), PG (X.blk s H scope (compEnvC scope cl C X.env) fp) tg g) (ht : ∀ (s : Shared) (H : Hp) (C : Addr) (cl : List (Str × Addr)) (fp : List Addr), PTs (X.blk s H scope (compEnvC scope cl C X.env) fp) ifs tt)
    (he : ∀ (s : Shared) (H : Hp) (C : Addr) (cl : List (Str × Addr)) (fp : List Addr), PE (X.blk s H scope (compEnvC scope cl C X.env) fp) elt te) (hs : ∀ x, foldedSetIterable iter X.env x = pure x)
    (h : tLc wi g tt te (own.map (·.2)) σ H Q)
    (hRR : ∀ D C s' m H', Inv X pins σ H' s' → Q (.ref D) H' → s'.heap.Ns C m → FpOk X pins H' C → compPost (model X.prog X.w) X.A X.xe use Qf (.ref D) C (.ok .next) s') :
    wpAny (model X.prog X.w) X.A (comprehension (.ListComp elt [⟨tg, iter, ifs, 0⟩] scope pos) scope X.env pos' (newList []) false (eval iter X.env) use) Qf X.xe s := by
  have hfree : ∀ y ∈ scope.names, y.2 = .free → ∃ c, X.env.cells.lookup y.1 = some c := fun y hy e => by
    rcases ok.free y hy e with k | k
    · exact I.ok.has _ (.inl k)
    · exact I.ok.has _ (.inr k)
  refine wpAny_comprehension_free (use := use) rfl hs (closure_ok hfree) ok.kind (fun y hy e => by rw [ok.uniq y hy, e])
    (thn (hi pins s σ H _ I h) fun xv s1 hx => thn hx fun itv s2 h2 => ?_)
  obtain ⟨it, fp, tn, J, H2, e, I2, T, st2, f2, q⟩ := h2
  subst e
  refine wpAny_newObj_type (newEnv_comp ?_) (by show 0 ≤ sizeLine; decide)
  generalize hD : s2.heap.objs.size = D
  have hDn : H2 D = none := I2.hok.fresh (Nat.le_of_eq hD)
  obtain ⟨W, ⟨m0, w0⟩, turn⟩ := q D hDn
  -- the new list
  generalize hs3 : ({ s2 with heap := s2.heap.push { cls := .type "list", data := .seq ([] : List Value).toArray } } : Shared) = s3
  have I3 : Inv X pins σ (upd H2 D (.lst [])) s3 := by
    rw [← hs3]
    refine I2.laid (t' := s2.toks) (fun b o e => Heap.get?_push_of_some _ e) (Nat.le_of_eq hD) ⟨Nat.zero_le _, [], 0, .nil, ?_⟩
    rw [← hD]
    exact Heap.get?_push_size _ rfl
  have h3 : s3.heap = s2.heap.push { cls := .type "list", data := .seq ([] : List Value).toArray } := by rw [← hs3]
  have sz : ∀ b ∈ fp, b < s2.heap.objs.size := fun b hb => by
    obtain ⟨o, e, _⟩ := T.obj _ _ st2 b hb
    exact Heap.lt_size e
  have f3 : ∀ b ∈ fp, FpOk X pins (upd H2 D (.lst [])) b ∧ b < s3.heap.objs.size := fun b hb => by
    have hlt := sz b hb
    refine ⟨⟨?_, (f2 b hb).2⟩, by rw [h3, Heap.size_push]; exact Nat.lt_succ_of_lt hlt⟩
    rw [upd_ne (by rw [← hD]; exact Nat.ne_of_lt hlt)]
    exact (f2 b hb).1
  have st3 : tn 0 s3.heap := T.keep _ _ _ st2 fun b _ o e => by rw [h3]; exact Heap.get?_push_of_some _ e
  have I4 := block_start I3 ok hN f3
  have pg := hg s3 (upd H2 D (.lst [])) s3.heap.objs.size (cellsFrom (s3.heap.objs.size + 1) scope.names (cloFrom X.env.cells scope.names [])) fp
  have pt := ht s3 (upd H2 D (.lst [])) s3.heap.objs.size (cellsFrom (s3.heap.objs.size + 1) scope.names (cloFrom X.env.cells scope.names [])) fp
  have pe := he s3 (upd H2 D (.lst [])) s3.heap.objs.size (cellsFrom (s3.heap.objs.size + 1) scope.names (cloFrom X.env.cells scope.names [])) fp
  show codeAny _ _ (.compStart (.ListComp elt [⟨tg, iter, ifs, 0⟩] scope pos) 0 (.ref it) (.ref D) (compEnvC scope (cellsFrom (s3.heap.objs.size + 1) scope.names (cloFrom X.env.cells scope.names [])) s3.heap.objs.size X.env)) (compPost (model X.prog X.w) X.A X.xe use Qf (.ref D) s3.heap.objs.size) { s3 with heap := pushCells (s3.heap.push { cls := .type "dict", data := .dict #[] }) scope.names }
  have nfp : ∀ b ∈ fp, (upd H2 D (.lst [])) b = none := fun b hb => (f3 b hb).1.1
  generalize hce : compEnvC scope (cellsFrom (s3.heap.objs.size + 1) scope.names (cloFrom X.env.cells scope.names [])) s3.heap.objs.size X.env = ce at I4 pg pt pe ⊢
  have cL : ce.locals = s3.heap.objs.size := by subst hce; rfl
  generalize hH3 : upd H2 D (.lst []) = H3 at I3 I4 pg pt pe w0 nfp f3
  generalize hs4 : ({ s3 with heap := pushCells (s3.heap.push { cls := .type "dict", data := .dict #[] }) scope.names } : Shared) = s4 at I4 ⊢
  have st4 : tn 0 s4.heap := T.keep _ _ _ st3 fun b _ o e => by rw [← hs4]; exact pushCells_keeps _ _ _ _ (Heap.get?_push_of_some _ e)
  have stat : ∀ {σ' : St} {H' : Hp} {s' : Shared}, Inv (X.blk s3 H3 scope ce fp) [] σ' H' s' → (∀ b ∈ fp, H' b = none) → ∀ b ∈ fp, FpOk (X.blk s3 H3 scope ce fp) [] H' b := fun {σ' H' s'} I' hn b hb =>
    ⟨hn b hb, (I'.ok.exf b hb).1, I'.ok.exfs b hb, .inl hb, fun x c e => (I'.ok.exf b hb).2 x c e, fun p hp => absurd (show p ∈ ([] : List (Addr × Obj)) ++ [] from hp) (by simp)⟩
  have loop : codeAny (model X.prog X.w) X.A (.compLoop (.ListComp elt [⟨tg, iter, ifs, 0⟩] scope pos) 0 (.ref it) (.ref D) ce) (compPost (model X.prog X.w) X.A X.xe use Qf (.ref D) s3.heap.objs.size) s4 := by
    refine compLoop_any (fun n s' => ∃ i H', Inv (X.blk s3 H3 scope ce fp) [] (wipe σ (own.map (·.2))) H' s' ∧ tn i s'.heap ∧ (∀ b ∈ fp, H' b = none) ∧ W i n H') ?_ m0 ⟨0, H3, I4, st4, nfp, w0⟩
    rintro n s5 ⟨i, H5, I5, st5, n5, w5⟩
    rcases turn i n H5 w5 with ⟨stop, qq⟩ | ⟨go, Nx, hNx, step⟩
    · have td := T.done (X.blk s3 H3 scope ce fp) rfl rfl rfl hc i [] s5 _ H5 (fun _ _ => False) I5 (stat I5 n5) st5 stop
      refine thnF td fun r s6 ⟨hr, I6⟩ => ?_
      subst hr
      -- back in the def's context
      have I7 : Inv X pins σ H5 s6 := I3.call' (ch := fp) I6.os I6.base I6.hok I6.bare fun b hb => ⟨(f3 b hb).1.2.2.2.1, (f3 b hb).1.2.1, (f3 b hb).1.2.2.2.2.1, (f3 b hb).1.2.2.2.2.2⟩
      have nC : H5 s3.heap.objs.size = none := by
        have z : H5 ce.locals = none := I6.free
        rw [cL] at z
        exact z
      obtain ⟨m, hn, _⟩ := I6.loc
      have hn : s6.heap.Ns ce.locals m := hn
      rw [cL] at hn
      exact hRR D s3.heap.objs.size s6 m H5 I7 qq hn (I3.fpOk (Nat.le_refl _) nC)
    · have ti := T.item (X.blk s3 H3 scope ce fp) rfl rfl rfl hc i [] s5 _ H5 (fun _ _ => False) I5 (stat I5 n5) st5 go
      refine thnF ti fun r s6 ⟨u, hr, h6⟩ => ?_
      subst hr
      refine thnF h6 fun _ s7 ⟨x, H7, I7, r7, y7, st7, n7⟩ => ?_
      have I7' := I7.pinned (stat I7 n7) (T.obj _ _ st7)
      refine thnF (pg _ s7 _ H7 x u _ I7' r7 (step x H7 y7)) fun _ s8 ⟨σ8, H8, I8, hw8, q8⟩ => ?_
      refine thnF (pt _ s8 σ8 H8 _ I8 q8) fun b s9 ⟨H9, I9, q9⟩ => ?_
      -- the turn's end
      have fin : ∀ {s' : Shared} {H' : Hp}, Inv (X.blk s3 H3 scope ce fp) ([] ++ pinsAt fp s7.heap) σ8 H' s' → Nx H' → ∃ m, m < n ∧ ∃ i H', Inv (X.blk s3 H3 scope ce fp) [] (wipe σ (own.map (·.2))) H' s' ∧ tn i s'.heap ∧ (∀ b ∈ fp, H' b = none) ∧ W i m H' := fun {s' H'} I' nx => by
        obtain ⟨m', hm, w'⟩ := hNx H' nx
        have pin' : ∀ b ∈ fp, ∀ o, s7.heap.get? b = some o → s'.heap.get? b = some o ∧ H' b = none := fun b hb o e =>
          let z := I'.pin (b, o) (List.mem_append_right _ (List.mem_append_right _ (mem_pinsAt hb e)))
          ⟨z.1, z.2.1⟩
        have hl : (wipe σ (own.map (·.2))).length = σ8.length := by rw [← hw8, wipe_length]
        refine ⟨m', hm, i + 1, H', (I'.unpinned (pins := [])).weak hl (fun j v e => ?_), T.keep _ _ _ st7 fun b hb o e => (pin' b hb o e).1, fun b hb => ?_, w'⟩
        · rw [← hw8] at e
          exact (wipe_some e).1
        · obtain ⟨o, e, _⟩ := T.obj _ _ st7 b hb
          exact (pin' b hb o e).2
      cases b with
      | false =>
        simp only [Bool.false_eq_true, if_false] at q9 ⊢
        exact fin I9 q9
      | true =>
        simp only [if_true] at q9 ⊢
        refine thnF (pe _ s9 σ8 H9 _ I9 q9) fun z s10 ⟨yv, H10, I10, r10, acc, hD10, hz10, nx⟩ => ?_
        exact app_ok (X := X.blk s3 H3 scope ce fp) I10 hD10 hz10 r10 fun s11 I11 => fin I11 nx
  exact codeAny_compStart_list loop (T.self X.A 0 _ _ _ st4 loop)
/-- as a value -/
theorem pe_lc {elt tg iter : Expr} {ifs : List Expr} {scope : Scope} {own : List (Str × Nat)} {pos : Pos} {wi : TI} {g : TG} {tt : TT} {te : TE} (hc : X.calm = true) (hN : X.N.Nodup) (hi : PI X tg iter wi) (ok : BlkOk X.N X.env.scope scope own)
    (hg : ∀ (s : Shared) (H : Hp) (C : Addr) (cl : List (Str × Addr)) (fp : List Addr), PG (X.blk s H scope (compEnvC scope cl C X.env) fp) tg g) (ht : ∀ (s : Shared) (H : Hp) (C : Addr) (cl : List (Str × Addr)) (fp : List Addr), PTs (X.blk s H scope (compEnvC scope cl C X.env) fp) ifs tt)
    (he : ∀ (s : Shared) (H : Hp) (C : Addr) (cl : List (Str × Addr)) (fp : List Addr), PE (X.blk s H scope (compEnvC scope cl C X.env) fp) elt te) (hs : ∀ x, foldedSetIterable iter X.env x = pure x := by intro _; rfl) :
    PE X (.ListComp elt [⟨tg, iter, ifs, 0⟩] scope pos) (tLc wi g tt te (own.map (·.2))) := by
  intro pins s σ H Q I h
  rw [eval_ListComp]
  refine lc_core hc hN I hi ok hg ht he hs h fun D C s' m H' I' q hn f => ⟨m, hn, fun h'' sb => ?_⟩
  obtain ⟨f0, f1, f2, f3, f4, f5⟩ := f
  exact ⟨.ref D, H', I'.turned (t' := s'.toks) (fun b o hb e => (sb.2 b hb).trans e) f0 f1 f3 f4 f5, rfl, q⟩
/-- name = [..] on one line, the name a local -/
theorem ps_setLc {i : Nat} {y : Str} {py : Pos} {elt tg iter : Expr} {ifs : List Expr} {scope : Scope} {own : List (Str × Nat)} {pos spos : Pos} {wi : TI} {g : TG} {tt : TT} {te : TE} (hc : X.calm = true) (hN : X.N.Nodup) (hy : X.N[i]? = some y) (hyl : X.env.scope.names.lookup y = some .local)
    (hsw : swapsWith (.ListComp elt [⟨tg, iter, ifs, 0⟩] scope pos) (some (.Name y py)) spos.line X.env = pure true) (hi : PI X tg iter wi) (ok : BlkOk X.N X.env.scope scope own)
    (hg : ∀ (s : Shared) (H : Hp) (C : Addr) (cl : List (Str × Addr)) (fp : List Addr), PG (X.blk s H scope (compEnvC scope cl C X.env) fp) tg g) (ht : ∀ (s : Shared) (H : Hp) (C : Addr) (cl : List (Str × Addr)) (fp : List Addr), PTs (X.blk s H scope (compEnvC scope cl C X.env) fp) ifs tt)
    (he : ∀ (s : Shared) (H : Hp) (C : Addr) (cl : List (Str × Addr)) (fp : List Addr), PE (X.blk s H scope (compEnvC scope cl C X.env) fp) elt te) (hs : ∀ x, foldedSetIterable iter X.env x = pure x := by intro _; rfl) :
    PS X (.Assign [.Name y py] (.ListComp elt [⟨tg, iter, ifs, 0⟩] scope pos) spos) (tAsg (tLc wi g tt te (own.map (·.2))) (gName i)) := by
  intro pins s σ H D I h
  rw [exec_Assign_Name_used _ _ _ _ hsw]
  refine wpAny_bind (wpAny_standAt (wpAny_bind ?_))
  show wpAny _ X.A (do let _ ← comprehension (.ListComp elt [⟨tg, iter, ifs, 0⟩] scope pos) scope X.env (firstIterPos [⟨tg, iter, ifs, 0⟩] pos) (newList []) false (eval iter X.env) (some (assign (.Name y py) X.env))) _ _ s
  have h : tLc wi g tt te (own.map (·.2)) σ H (fun x H1 => gName i x σ H1 D.nx) := h
  refine wpAny_bind (thn (lc_core (Qf := fun _ s' => SP X pins D .next s') hc hN I hi ok hg ht he hs h fun L C s' m H' I' q hn f => ?_) fun _ s' hq => wpAny_pure (wpAny_pure hq))
  show wpAny _ _ (assign (.Name y py) X.env (.ref L)) _ _ _
  refine wpAny_assign_Name (store_ok2 (v := V.ref L) I' hN hy (.inl hyl) rfl (fun s2 I2 ⟨a, sb, ha⟩ => ?_) (.inr hyl))
  obtain ⟨f0, f1, f2, f3, f4, f5⟩ := f
  have haC : C ≠ a := by
    rcases ha with z | z
    · rw [z]; exact f1
    · exact fun e => f4 y a z e.symm
  refine ⟨m, hn.sameBut sb haC, fun h3 sb3 => ?_⟩
  exact ⟨_, H', I2.turned (t' := s2.toks) (fun b o hb e => (sb3.2 b hb).trans e) f0 f1 f3 f4 f5, q⟩
theorem sw_true {elt : Expr} {gs : List Comprehension} {scope : Scope} {pos py : Pos} {y : Str} {l : Nat} {env : Env} (hk : env.scope.kind = .function) (hy : env.scope.names.lookup y = some .local) (hl : (py.line == pos.line) = true)
    (ha : (scope.names.any fun (n, k) => n == y && (k == .local || k == .cell)) = false) : swapsWith (.ListComp elt gs scope pos) (some (.Name y py)) l env = pure true := by
  have ky : env.kindOf y = some .local := hy
  have hb : env.blockKind = .function := by unfold Env.blockKind; rw [hk]; rfl
  unfold swapsWith
  simp only [hb, ky, ha, Expr.pos, hl]
  rfl
end

/-! ### the forms one uses -/
/-- over a range: Pv by the turn and the heap (the new list at D within) -/
theorem lc_range {lo : Int} {n : Nat} {g : TG} {tt : TT} {te : TE} {vs : List Nat} {σ : St} {H1 : Hp} {D : Addr} {Qd : Hp → Prop} (Pv : Nat → Hp → Prop) (h0 : Pv 0 (upd H1 D (.lst [])))
    (hs : ∀ i H, i < n → Pv i H → g (.int (lo + i)) (wipe σ vs) H fun σ2 H2 => wipe σ2 vs = wipe σ vs ∧ tt σ2 H2 fun b H3 =>
      if b = true then te σ2 H3 fun y H4 => ∃ acc, H4 D = some (.lst acc) ∧ acc.length < sizeLine ∧ Pv (i + 1) (upd H4 D (.lst (acc ++ [y]))) else Pv (i + 1) H3) (hd : ∀ H, Pv n H → Qd H) :
    ∃ W : Nat → Nat → Hp → Prop, (∃ m, W 0 m (upd H1 D (.lst []))) ∧ ∀ i m H, W i m H →
      ((Itr lo n).stop i H ∧ Qd H) ∨ ((Itr lo n).go i H ∧ ∃ Nx : Hp → Prop, (∀ H', Nx H' → ∃ m', m' < m ∧ W (i + 1) m' H') ∧ ∀ x H', (Itr lo n).yld i H x H' → g x (wipe σ vs) H' fun σ2 H2 => wipe σ2 vs = wipe σ vs ∧ tt σ2 H2 fun b H3 =>
        if b = true then te σ2 H3 fun y H4 => ∃ acc, H4 D = some (.lst acc) ∧ acc.length < sizeLine ∧ Nx (upd H4 D (.lst (acc ++ [y]))) else Nx H3) := by
  refine ⟨fun i m H => m = n - i ∧ i ≤ n ∧ Pv i H, ⟨n, by simp, Nat.zero_le _, h0⟩, ?_⟩
  rintro i m H ⟨rfl, hi, p⟩
  by_cases hlt : i < n
  · refine .inr ⟨hlt, Pv (i + 1), fun H' p' => ⟨n - (i + 1), by omega, rfl, hlt, p'⟩, fun x H' y => ?_⟩
    obtain ⟨e, y⟩ := y
    subst e y
    exact hs i _ hlt p
  · have e : i = n := by omega
    subst e
    exact .inl ⟨Nat.le_refl _, hd H p⟩
/-- over a list that the block leaves as it is -/
theorem lc_list {K : PySem.W.Frag} {a : Addr} {xs : List V} {g : TG} {tt : TT} {te : TE} {vs : List Nat} {σ : St} {H1 : Hp} {D : Addr} {Qd : Hp → Prop} (Pv : Nat → Hp → Prop) (h0 : Pv 0 (upd H1 D (.lst []))) (hl : ∀ i H, i ≤ xs.length → Pv i H → SqL K H a xs)
    (hs : ∀ i x H, xs[i]? = some x → Pv i H → g x (wipe σ vs) H fun σ2 H2 => wipe σ2 vs = wipe σ vs ∧ tt σ2 H2 fun b H3 =>
      if b = true then te σ2 H3 fun y H4 => ∃ acc, H4 D = some (.lst acc) ∧ acc.length < sizeLine ∧ Pv (i + 1) (upd H4 D (.lst (acc ++ [y]))) else Pv (i + 1) H3) (hd : ∀ H, Pv xs.length H → Qd H) :
    ∃ W : Nat → Nat → Hp → Prop, (∃ m, W 0 m (upd H1 D (.lst []))) ∧ ∀ i m H, W i m H →
      ((Itl K a).stop i H ∧ Qd H) ∨ ((Itl K a).go i H ∧ ∃ Nx : Hp → Prop, (∀ H', Nx H' → ∃ m', m' < m ∧ W (i + 1) m' H') ∧ ∀ x H', (Itl K a).yld i H x H' → g x (wipe σ vs) H' fun σ2 H2 => wipe σ2 vs = wipe σ vs ∧ tt σ2 H2 fun b H3 =>
        if b = true then te σ2 H3 fun y H4 => ∃ acc, H4 D = some (.lst acc) ∧ acc.length < sizeLine ∧ Nx (upd H4 D (.lst (acc ++ [y]))) else Nx H3) := by
  refine ⟨fun i m H => m = xs.length - i ∧ i ≤ xs.length ∧ Pv i H, ⟨xs.length, by simp, Nat.zero_le _, h0⟩, ?_⟩
  rintro i m H ⟨rfl, hi, p⟩
  have q := hl i H hi p
  by_cases hlt : i < xs.length
  · refine .inr ⟨⟨xs, xs[i], q, by simp [hlt]⟩, Pv (i + 1), fun H' p' => ⟨xs.length - (i + 1), by omega, rfl, hlt, p'⟩, fun x H' y => ?_⟩
    obtain ⟨e, y⟩ := y
    subst e
    exact hs i x _ (y xs q) p
  · have e : i = xs.length := by omega
    subst e
    exact .inl ⟨⟨xs, q, Nat.le_refl _⟩, hd H p⟩
/-- over a tuple -/
theorem lc_tup {K : PySem.W.Frag} {a : Addr} {xs : List V} {g : TG} {tt : TT} {te : TE} {vs : List Nat} {σ : St} {H1 : Hp} {D : Addr} {Qd : Hp → Prop} (Pv : Nat → Hp → Prop) (h0 : Pv 0 (upd H1 D (.lst []))) (hl : ∀ i H, i ≤ xs.length → Pv i H → SqT K H a xs)
    (hs : ∀ i x H, xs[i]? = some x → Pv i H → g x (wipe σ vs) H fun σ2 H2 => wipe σ2 vs = wipe σ vs ∧ tt σ2 H2 fun b H3 =>
      if b = true then te σ2 H3 fun y H4 => ∃ acc, H4 D = some (.lst acc) ∧ acc.length < sizeLine ∧ Pv (i + 1) (upd H4 D (.lst (acc ++ [y]))) else Pv (i + 1) H3) (hd : ∀ H, Pv xs.length H → Qd H) :
    ∃ W : Nat → Nat → Hp → Prop, (∃ m, W 0 m (upd H1 D (.lst []))) ∧ ∀ i m H, W i m H →
      ((Itt K a).stop i H ∧ Qd H) ∨ ((Itt K a).go i H ∧ ∃ Nx : Hp → Prop, (∀ H', Nx H' → ∃ m', m' < m ∧ W (i + 1) m' H') ∧ ∀ x H', (Itt K a).yld i H x H' → g x (wipe σ vs) H' fun σ2 H2 => wipe σ2 vs = wipe σ vs ∧ tt σ2 H2 fun b H3 =>
        if b = true then te σ2 H3 fun y H4 => ∃ acc, H4 D = some (.lst acc) ∧ acc.length < sizeLine ∧ Nx (upd H4 D (.lst (acc ++ [y]))) else Nx H3) := by
  refine ⟨fun i m H => m = xs.length - i ∧ i ≤ xs.length ∧ Pv i H, ⟨xs.length, by simp, Nat.zero_le _, h0⟩, ?_⟩
  rintro i m H ⟨rfl, hi, p⟩
  have q := hl i H hi p
  by_cases hlt : i < xs.length
  · refine .inr ⟨⟨xs, xs[i], q, by simp [hlt]⟩, Pv (i + 1), fun H' p' => ⟨xs.length - (i + 1), by omega, rfl, hlt, p'⟩, fun x H' y => ?_⟩
    obtain ⟨e, y⟩ := y
    subst e
    exact hs i x _ (y xs q) p
  · have e : i = xs.length := by omega
    subst e
    exact .inl ⟨⟨xs, q, Nat.le_refl _⟩, hd H p⟩
def blkC (N : List Str) (sc scope : Scope) (own : List (Str × Nat)) : Bool :=
  (match scope.kind with | .function => true | _ => false) && (scope.names.all fun y => decide (scope.names.lookup y.1 = some y.2)) && (own.all fun p => decide (N[p.2]? = some p.1)) &&
    (scope.names.all fun y => match y.2 with
      | .free => (match sc.names.lookup y.1 with | some .cell => true | some .free => true | _ => false)
      | .local => decide (y.1 ∈ own.map (·.1)) || decide (y.1 ∉ N)
      | .cell => decide (y.1 ∈ own.map (·.1)) || decide (y.1 ∉ N)
      | _ => true)
theorem blkOk_by {N : List Str} {sc scope : Scope} {own : List (Str × Nat)} (h : blkC N sc scope own = true) : BlkOk N sc scope own := by
  unfold blkC at h
  simp only [Bool.and_eq_true, List.all_eq_true, decide_eq_true_eq] at h
  obtain ⟨⟨⟨h1, h2⟩, h3⟩, h4⟩ := h
  refine ⟨?_, h2, h3, fun y hy e => ?_, fun y hy e => ?_⟩
  · split at h1
    · assumption
    · cases h1
  · have q := h4 y hy
    simp only [e] at q
    split at q <;> first | exact .inl (by assumption) | exact .inr (by assumption) | cases q
  · have q := h4 y hy
    rcases e with e | e <;> (simp only [e, Bool.or_eq_true, decide_eq_true_eq] at q; exact q)
end L2

namespace L2
open PySem PySem.Spec PyProof.Rows

theorem compTurn2_out (elt t0 i0 t1 i1 : Expr) (ifs0 ifs1 : List Expr) (scope : Scope) (pos : Pos) (it acc : Value) (env : Env) :
    compTurn (.ListComp elt [⟨t0, i0, ifs0, 0⟩, ⟨t1, i1, ifs1, 0⟩] scope pos) 0 it acc env = (do
      standAt i0.pos
      match ← pyNext it with
      | none => pure (.done .next)
      | some v =>
        letOwnedTupleGo t0 it v
        assign t0 env v
        let mut ok := true
        for c in ifs0 do
          if ok then ok ← isTrue c env (eval c env)
        if ok then
          let x ← eval i1 env
          standAt i1.pos
          let x ← foldedSetIterable i1 env x
          let _ ← runOwn (.compStart (.ListComp elt [⟨t0, i0, ifs0, 0⟩, ⟨t1, i1, ifs1, 0⟩] scope pos) 1 (← holding [x] (pyIter x)) acc env) env
        again (.compLoop (.ListComp elt [⟨t0, i0, ifs0, 0⟩, ⟨t1, i1, ifs1, 0⟩] scope pos) 0 it acc env)) := by rfl
theorem compTurn2_in (elt t0 i0 t1 i1 : Expr) (ifs0 ifs1 : List Expr) (scope : Scope) (pos : Pos) (it acc : Value) (env : Env) :
    compTurn (.ListComp elt [⟨t0, i0, ifs0, 0⟩, ⟨t1, i1, ifs1, 0⟩] scope pos) 1 it acc env = (do
      standAt i1.pos
      match ← pyNext it with
      | none => pure (.done .next)
      | some v =>
        letOwnedTupleGo t1 it v
        assign t1 env v
        let mut ok := true
        for c in ifs1 do
          if ok then ok ← isTrue c env (eval c env)
        if ok then
          (do let _ ← call (.builtin "list.append") [acc, ← eval elt env])
        again (.compLoop (.ListComp elt [⟨t0, i0, ifs0, 0⟩, ⟨t1, i1, ifs1, 0⟩] scope pos) 1 it acc env)) := by rfl

section
variable {prog : Program} {w : World} {A : Around} {R : Result → Shared → Prop} {s : Shared} {elt t0 i0 t1 i1 : Expr} {ifs0 ifs1 : List Expr} {scope : Scope} {pos : Pos} {it acc : Value} {env : Env}
/-- the loop of the first clause -/
theorem compLoop2_out (hs : ∀ x, foldedSetIterable i1 env x = pure x) (I : Nat → Shared → Prop)
    (turn : ∀ n s, I n s → wpAny (model prog w) A (pyNext it) (fun r s₁ => match r with
      | none => R (.ok .next) s₁
      | some v => wpAny (model prog w) A (letOwnedTupleGo t0 it v) (fun _ s₁' => wpAny (model prog w) A (assign t0 env v) (fun _ s₂ =>
          wpAny (model prog w) A (forIn ifs0 true fun c r => if r = true then do let ok ← isTrue c env (eval c env); pure (ForInStep.yield ok) else pure (ForInStep.yield r)) (fun ok s₃ =>
            if ok = true then wpAny (model prog w) A (eval i1 env) (fun x s₄ => wpAny (model prog w) A (pyIter x) (fun it1 s₅ =>
              codeAny (model prog w) A (.compStart (.ListComp elt [⟨t0, i0, ifs0, 0⟩, ⟨t1, i1, ifs1, 0⟩] scope pos) 1 it1 acc env) (fun r s' => match r with
                | .ok _ => ∃ m, m < n ∧ I m s'
                | .error _ => False) s₅) (notedBy (model prog w) A env fun e s' => R (.error e) s') s₄) (notedBy (model prog w) A env fun e s' => R (.error e) s') s₃
            else ∃ m, m < n ∧ I m s₃) (notedBy (model prog w) A env fun e s' => R (.error e) s') s₂) (notedBy (model prog w) A env fun e s' => R (.error e) s') s₁') (notedBy (model prog w) A env fun e s' => R (.error e) s') s₁) (notedBy (model prog w) A env fun e s' => R (.error e) s') s)
    (n : Nat) (h : I n s) :
    codeAny (model prog w) A (.compLoop (.ListComp elt [⟨t0, i0, ifs0, 0⟩, ⟨t1, i1, ifs1, 0⟩] scope pos) 0 it acc env) R s := by
  refine codeAny_loop rfl I (fun n s hI => ?_) n h
  show wpAny _ A ((compTurn (.ListComp elt [⟨t0, i0, ifs0, 0⟩, ⟨t1, i1, ifs1, 0⟩] scope pos) 0 it acc env).onRaise (fun x => do noteFrame x env; theTreesLotGoes x)) _ _ s
  refine wpAny_noted ?_
  rw [compTurn2_out]
  refine wpAny_bind (wpAny_standAt (wpAny_bind (wpAny_mono (turn n s hI) (fun r s₁ h₁ => ?_) fun _ _ h' => h')))
  cases r with
  | none => exact wpAny_pure h₁
  | some v =>
    refine wpAny_bind (wpAny_mono h₁ (fun _ s₁' h₁' => ?_) fun _ _ h' => h')
    refine wpAny_bind (wpAny_mono h₁' (fun _ s₂ h₂ => wpAny_bind (wpAny_mono h₂ (fun ok s₃ h₃ => ?_) fun _ _ h' => h')) fun _ _ h' => h')
    cases ok with
    | false => exact wpAny_pure ⟨rfl, h₃⟩
    | true =>
      refine wpAny_bind (wpAny_mono h₃ (fun x s₄ h₄ => ?_) fun _ _ h' => h')
      refine wpAny_bind (wpAny_standAt (wpAny_bind (wpAny_of_eq (hs x) (wpAny_bind (wpAny_holding (wpAny_mono h₄ (fun it1 s₅ h₅ => ?_) fun _ _ h' => h'))))))
      refine wpAny_bind (wpAny_runOwn ?_)
      rw [Around.mark_none]
      refine codeAny_mono h₅ fun r s' hr => ?_
      cases r with
      | ok f =>
        first
          | exact wpAny_pure ⟨rfl, hr⟩
          | exact wpAny_bind (wpAny_pure (wpAny_pure ⟨rfl, hr⟩))
      | error e => exact hr.elim
/-- the loop of the second -/
theorem compLoop2_in (I : Nat → Shared → Prop)
    (turn : ∀ n s, I n s → wpAny (model prog w) A (pyNext it) (fun r s₁ => match r with
      | none => R (.ok .next) s₁
      | some v => wpAny (model prog w) A (letOwnedTupleGo t1 it v) (fun _ s₁' => wpAny (model prog w) A (assign t1 env v) (fun _ s₂ =>
          wpAny (model prog w) A (forIn ifs1 true fun c r => if r = true then do let ok ← isTrue c env (eval c env); pure (ForInStep.yield ok) else pure (ForInStep.yield r)) (fun ok s₃ =>
            if ok = true then wpAny (model prog w) A (eval elt env) (fun x s₄ =>
              wpAny (model prog w) A (call (.builtin "list.append") [acc, x]) (fun _ s₅ => ∃ m, m < n ∧ I m s₅) (notedBy (model prog w) A env fun e s' => R (.error e) s') s₄) (notedBy (model prog w) A env fun e s' => R (.error e) s') s₃
            else ∃ m, m < n ∧ I m s₃) (notedBy (model prog w) A env fun e s' => R (.error e) s') s₂) (notedBy (model prog w) A env fun e s' => R (.error e) s') s₁') (notedBy (model prog w) A env fun e s' => R (.error e) s') s₁) (notedBy (model prog w) A env fun e s' => R (.error e) s') s)
    (n : Nat) (h : I n s) :
    codeAny (model prog w) A (.compLoop (.ListComp elt [⟨t0, i0, ifs0, 0⟩, ⟨t1, i1, ifs1, 0⟩] scope pos) 1 it acc env) R s := by
  refine codeAny_loop rfl I (fun n s hI => ?_) n h
  show wpAny _ A ((compTurn (.ListComp elt [⟨t0, i0, ifs0, 0⟩, ⟨t1, i1, ifs1, 0⟩] scope pos) 1 it acc env).onRaise (fun x => do noteFrame x env; theTreesLotGoes x)) _ _ s
  refine wpAny_noted ?_
  rw [compTurn2_in]
  refine wpAny_bind (wpAny_standAt (wpAny_bind (wpAny_mono (turn n s hI) (fun r s₁ h₁ => ?_) fun _ _ h' => h')))
  cases r with
  | none => exact wpAny_pure h₁
  | some v =>
    refine wpAny_bind (wpAny_mono h₁ (fun _ s₁' h₁' => ?_) fun _ _ h' => h')
    refine wpAny_bind (wpAny_mono h₁' (fun _ s₂ h₂ => wpAny_bind (wpAny_mono h₂ (fun ok s₃ h₃ => ?_) fun _ _ h' => h')) fun _ _ h' => h')
    cases ok with
    | false => exact wpAny_pure ⟨rfl, h₃⟩
    | true =>
      exact wpAny_bind (wpAny_bind (wpAny_mono h₃ (fun x s₄ h₄ => wpAny_bind (wpAny_mono h₄ (fun _ s₅ h₅ => wpAny_pure (wpAny_pure ⟨rfl, h₅⟩)) fun _ _ h' => h')) fun _ _ h' => h'))
/-- the second clause's start -/
theorem compStart1_ok (h0 : codeAny (model prog w) A (.compLoop (.ListComp elt [⟨t0, i0, ifs0, 0⟩, ⟨t1, i1, ifs1, 0⟩] scope pos) 1 it acc env) R s)
    (h : wpAny (model prog w) A (pyIter it) (fun it' s' => codeAny (model prog w) A (.compLoop (.ListComp elt [⟨t0, i0, ifs0, 0⟩, ⟨t1, i1, ifs1, 0⟩] scope pos) 1 it' acc env) R s')
      (notedBy (model prog w) A env fun x s' => R (.error x) s') s) :
    codeAny (model prog w) A (.compStart (.ListComp elt [⟨t0, i0, ifs0, 0⟩, ⟨t1, i1, ifs1, 0⟩] scope pos) 1 it acc env) R s := by
  refine codeAny_of_tree ?_
  show wpAny _ _ ((compStart (.ListComp elt [⟨t0, i0, ifs0, 0⟩, ⟨t1, i1, ifs1, 0⟩] scope pos) 1 it acc env).onRaise (fun x => do noteFrame x env; standAt theWindowsPlace)) _ _ s
  refine wpAny_notedAt ?_
  unfold compStart
  show wpAny _ _ (ask >>= _) _ _ s
  refine wpAny_bind (wpAny_askSetting (wpAny_ite ?_))
  split
  · first
      | exact wpAny_bind (wpAny_pure (wpAny_pure (And.intro rfl h0)))
      | exact wpAny_pure (And.intro rfl h0)
  · first
      | exact wpAny_bind (wpAny_rule (wpAny_bind (wpAny_standAt (wpAny_bind (wpAny_mono h (fun it' s' h' => wpAny_pure (And.intro rfl h')) fun _ _ x => x)))))
      | (refine wpAny_bind (wpAny_rule ?_); show wpAny _ _ (standAt i1.pos >>= _) _ _ s; exact wpAny_bind (wpAny_standAt (wpAny_bind (wpAny_mono h (fun it' s' h' => wpAny_pure (And.intro rfl h')) fun _ _ x => x))))
end

theorem wipe_out {σ : St} {i : Nat} : ∀ {vs : List Nat}, i ∉ vs → (wipe σ vs)[i]? = σ[i]?
  | [], _ => rfl
  | v :: vs, h => by
    have h1 : v ≠ i := fun e => h (by rw [e]; exact List.mem_cons_self)
    have h2 : i ∉ vs := fun m => h (List.mem_cons_of_mem _ m)
    unfold wipe
    rw [List.getElem?_set_ne h1]
    exact wipe_out h2
section
variable {X : Cx}
/-- [elt for tg in iter if .. for tg1 in iter1 if ..]: behind the first clause's store and tests the second source's own loop, from which Nx is reached. vs: the block's names; vs1: those of the second target -/
def tLc2 (wi : TI) (g : TG) (tt : TT) (wi1 : TI) (g1 : TG) (tt1 : TT) (te : TE) (vs vs1 : List Nat) : TE := fun σ H Q => wi σ H fun J H1 => ∀ D, H1 D = none → ∃ W : Nat → Nat → Hp → Prop, (∃ m, W 0 m (upd H1 D (.lst []))) ∧ ∀ i m H, W i m H →
  (J.stop i H ∧ Q (.ref D) H) ∨ (J.go i H ∧ ∃ Nx : Hp → Prop, (∀ H', Nx H' → ∃ m', m' < m ∧ W (i + 1) m' H') ∧ ∀ x H', J.yld i H x H' → g x (wipe σ vs) H' fun σ2 H2 => wipe σ2 vs = wipe σ vs ∧ tt σ2 H2 fun b H3 =>
    if b = true then wi1 σ2 H3 fun J1 H4 => ∃ W1 : Nat → Nat → Hp → Prop, (∃ m, W1 0 m H4) ∧ ∀ j k H, W1 j k H →
      (J1.stop j H ∧ Nx H) ∨ (J1.go j H ∧ ∃ Nx1 : Hp → Prop, (∀ H', Nx1 H' → ∃ k', k' < k ∧ W1 (j + 1) k' H') ∧ ∀ x H', J1.yld j H x H' → g1 x (wipe σ2 vs1) H' fun σ3 H5 => wipe σ3 vs1 = wipe σ2 vs1 ∧ tt1 σ3 H5 fun b H6 =>
        if b = true then te σ3 H6 fun y H7 => ∃ acc, H7 D = some (.lst acc) ∧ acc.length < sizeLine ∧ Nx1 (upd H7 D (.lst (acc ++ [y]))) else Nx1 H6)
    else Nx H3)
theorem lc2_core {pins : List (Addr × Obj)} {s : Shared} {σ : St} {H : Hp} {Q : VK} {elt tg iter tg1 iter1 : Expr} {ifs ifs1 : List Expr} {scope : Scope} {own : List (Str × Nat)} {vs1 : List Nat} {pos pos' : Pos} {wi wi1 : TI} {g g1 : TG} {tt tt1 : TT} {te : TE} {use : Option (Value → Sem Unit)} {Qf : Value → Shared → Prop}
    (hc : X.calm = true) (hN : X.N.Nodup) (I : Inv X pins σ H s) (hi : PI X tg iter wi) (ok : BlkOk X.N X.env.scope scope own) (hv : ∀ i ∈ vs1, i ∈ own.map (·.2))
    (hg : ∀ (s : Shared) (H : Hp) (C : Addr) (cl : List (Str × Addr)) (fp : List Addr), PG (X.blk s H scope (compEnvC scope cl C X.env) fp) tg g) (ht : ∀ (s : Shared) (H : Hp) (C : Addr) (cl : List (Str × Addr)) (fp : List Addr), PTs (X.blk s H scope (compEnvC scope cl C X.env) fp) ifs tt)
    (he : ∀ (s : Shared) (H : Hp) (C : Addr) (cl : List (Str × Addr)) (fp : List Addr), PE (X.blk s H scope (compEnvC scope cl C X.env) fp) elt te) (hs : ∀ x, foldedSetIterable iter X.env x = pure x)
    (hi1 : ∀ (s : Shared) (H : Hp) (C : Addr) (cl : List (Str × Addr)) (fp : List Addr), PI (X.blk s H scope (compEnvC scope cl C X.env) fp) tg1 iter1 wi1)
    (hg1 : ∀ (s : Shared) (H : Hp) (C : Addr) (cl : List (Str × Addr)) (fp : List Addr), PG (X.blk s H scope (compEnvC scope cl C X.env) fp) tg1 g1)
    (ht1 : ∀ (s : Shared) (H : Hp) (C : Addr) (cl : List (Str × Addr)) (fp : List Addr), PTs (X.blk s H scope (compEnvC scope cl C X.env) fp) ifs1 tt1)
    (hs1 : ∀ env x, foldedSetIterable iter1 env x = pure x)
    (h : tLc2 wi g tt wi1 g1 tt1 te (own.map (·.2)) vs1 σ H Q)
    (hRR : ∀ D C s' m H', Inv X pins σ H' s' → Q (.ref D) H' → s'.heap.Ns C m → FpOk X pins H' C → compPost (model X.prog X.w) X.A X.xe use Qf (.ref D) C (.ok .next) s') :
    wpAny (model X.prog X.w) X.A (comprehension (.ListComp elt [⟨tg, iter, ifs, 0⟩, ⟨tg1, iter1, ifs1, 0⟩] scope pos) scope X.env pos' (newList []) false (eval iter X.env) use) Qf X.xe s := by
  have hfree : ∀ y ∈ scope.names, y.2 = .free → ∃ c, X.env.cells.lookup y.1 = some c := fun y hy e => by
    rcases ok.free y hy e with k | k
    · exact I.ok.has _ (.inl k)
    · exact I.ok.has _ (.inr k)
  refine wpAny_comprehension_free (use := use) rfl hs (closure_ok hfree) ok.kind (fun y hy e => by rw [ok.uniq y hy, e])
    (thn (hi pins s σ H _ I h) fun xv s1 hx => thn hx fun itv s2 h2 => ?_)
  obtain ⟨it, fp, tn, J, H2, e, I2, T, st2, f2, q⟩ := h2
  subst e
  refine wpAny_newObj_type (newEnv_comp ?_) (by show 0 ≤ sizeLine; decide)
  generalize hD : s2.heap.objs.size = D
  have hDn : H2 D = none := I2.hok.fresh (Nat.le_of_eq hD)
  obtain ⟨W, ⟨m0, w0⟩, turn⟩ := q D hDn
  -- the new list
  generalize hs3 : ({ s2 with heap := s2.heap.push { cls := .type "list", data := .seq ([] : List Value).toArray } } : Shared) = s3
  have I3 : Inv X pins σ (upd H2 D (.lst [])) s3 := by
    rw [← hs3]
    refine I2.laid (t' := s2.toks) (fun b o e => Heap.get?_push_of_some _ e) (Nat.le_of_eq hD) ⟨Nat.zero_le _, [], 0, .nil, ?_⟩
    rw [← hD]
    exact Heap.get?_push_size _ rfl
  have h3 : s3.heap = s2.heap.push { cls := .type "list", data := .seq ([] : List Value).toArray } := by rw [← hs3]
  have sz : ∀ b ∈ fp, b < s2.heap.objs.size := fun b hb => by
    obtain ⟨o, e, _⟩ := T.obj _ _ st2 b hb
    exact Heap.lt_size e
  have f3 : ∀ b ∈ fp, FpOk X pins (upd H2 D (.lst [])) b ∧ b < s3.heap.objs.size := fun b hb => by
    have hlt := sz b hb
    refine ⟨⟨?_, (f2 b hb).2⟩, by rw [h3, Heap.size_push]; exact Nat.lt_succ_of_lt hlt⟩
    rw [upd_ne (by rw [← hD]; exact Nat.ne_of_lt hlt)]
    exact (f2 b hb).1
  have st3 : tn 0 s3.heap := T.keep _ _ _ st2 fun b _ o e => by rw [h3]; exact Heap.get?_push_of_some _ e
  have I4 := block_start I3 ok hN f3
  have pg := hg s3 (upd H2 D (.lst [])) s3.heap.objs.size (cellsFrom (s3.heap.objs.size + 1) scope.names (cloFrom X.env.cells scope.names [])) fp
  have pt := ht s3 (upd H2 D (.lst [])) s3.heap.objs.size (cellsFrom (s3.heap.objs.size + 1) scope.names (cloFrom X.env.cells scope.names [])) fp
  have pe := he s3 (upd H2 D (.lst [])) s3.heap.objs.size (cellsFrom (s3.heap.objs.size + 1) scope.names (cloFrom X.env.cells scope.names [])) fp
  have pi1 := hi1 s3 (upd H2 D (.lst [])) s3.heap.objs.size (cellsFrom (s3.heap.objs.size + 1) scope.names (cloFrom X.env.cells scope.names [])) fp
  have pg1 := hg1 s3 (upd H2 D (.lst [])) s3.heap.objs.size (cellsFrom (s3.heap.objs.size + 1) scope.names (cloFrom X.env.cells scope.names [])) fp
  have pt1 := ht1 s3 (upd H2 D (.lst [])) s3.heap.objs.size (cellsFrom (s3.heap.objs.size + 1) scope.names (cloFrom X.env.cells scope.names [])) fp
  show codeAny _ _ (.compStart (.ListComp elt [⟨tg, iter, ifs, 0⟩, ⟨tg1, iter1, ifs1, 0⟩] scope pos) 0 (.ref it) (.ref D) (compEnvC scope (cellsFrom (s3.heap.objs.size + 1) scope.names (cloFrom X.env.cells scope.names [])) s3.heap.objs.size X.env)) (compPost (model X.prog X.w) X.A X.xe use Qf (.ref D) s3.heap.objs.size) { s3 with heap := pushCells (s3.heap.push { cls := .type "dict", data := .dict #[] }) scope.names }
  have nfp : ∀ b ∈ fp, (upd H2 D (.lst [])) b = none := fun b hb => (f3 b hb).1.1
  generalize hce : compEnvC scope (cellsFrom (s3.heap.objs.size + 1) scope.names (cloFrom X.env.cells scope.names [])) s3.heap.objs.size X.env = ce at I4 pg pt pe pi1 pg1 pt1 ⊢
  have cL : ce.locals = s3.heap.objs.size := by subst hce; rfl
  generalize hH3 : upd H2 D (.lst []) = H3 at I3 I4 pg pt pe pi1 pg1 pt1 w0 nfp f3
  generalize hs4 : ({ s3 with heap := pushCells (s3.heap.push { cls := .type "dict", data := .dict #[] }) scope.names } : Shared) = s4 at I4 ⊢
  have st4 : tn 0 s4.heap := T.keep _ _ _ st3 fun b _ o e => by rw [← hs4]; exact pushCells_keeps _ _ _ _ (Heap.get?_push_of_some _ e)
  have stat : ∀ {σ' : St} {H' : Hp} {s' : Shared}, Inv (X.blk s3 H3 scope ce fp) [] σ' H' s' → (∀ b ∈ fp, H' b = none) → ∀ b ∈ fp, FpOk (X.blk s3 H3 scope ce fp) [] H' b := fun {σ' H' s'} I' hn b hb =>
    ⟨hn b hb, (I'.ok.exf b hb).1, I'.ok.exfs b hb, .inl hb, fun x c e => (I'.ok.exf b hb).2 x c e, fun p hp => absurd (show p ∈ ([] : List (Addr × Obj)) ++ [] from hp) (by simp)⟩
  have loop : codeAny (model X.prog X.w) X.A (.compLoop (.ListComp elt [⟨tg, iter, ifs, 0⟩, ⟨tg1, iter1, ifs1, 0⟩] scope pos) 0 (.ref it) (.ref D) ce) (compPost (model X.prog X.w) X.A X.xe use Qf (.ref D) s3.heap.objs.size) s4 := by
    refine compLoop2_out (hs1 ce) (fun n s' => ∃ i H', Inv (X.blk s3 H3 scope ce fp) [] (wipe σ (own.map (·.2))) H' s' ∧ tn i s'.heap ∧ (∀ b ∈ fp, H' b = none) ∧ W i n H') ?_ m0 ⟨0, H3, I4, st4, nfp, w0⟩
    rintro n s5 ⟨i, H5, I5, st5, n5, w5⟩
    rcases turn i n H5 w5 with ⟨stop, qq⟩ | ⟨go, Nx, hNx, step⟩
    · have td := T.done (X.blk s3 H3 scope ce fp) rfl rfl rfl hc i [] s5 _ H5 (fun _ _ => False) I5 (stat I5 n5) st5 stop
      refine thnF td fun r s6 ⟨hr, I6⟩ => ?_
      subst hr
      -- back in the def's context
      have I7 : Inv X pins σ H5 s6 := I3.call' (ch := fp) I6.os I6.base I6.hok I6.bare fun b hb => ⟨(f3 b hb).1.2.2.2.1, (f3 b hb).1.2.1, (f3 b hb).1.2.2.2.2.1, (f3 b hb).1.2.2.2.2.2⟩
      have nC : H5 s3.heap.objs.size = none := by
        have z : H5 ce.locals = none := I6.free
        rw [cL] at z
        exact z
      obtain ⟨m, hn, _⟩ := I6.loc
      have hn : s6.heap.Ns ce.locals m := hn
      rw [cL] at hn
      exact hRR D s3.heap.objs.size s6 m H5 I7 qq hn (I3.fpOk (Nat.le_refl _) nC)
    · have ti := T.item (X.blk s3 H3 scope ce fp) rfl rfl rfl hc i [] s5 _ H5 (fun _ _ => False) I5 (stat I5 n5) st5 go
      refine thnF ti fun r s6 ⟨u, hr, h6⟩ => ?_
      subst hr
      refine thnF h6 fun _ s7 ⟨x, H7, I7, r7, y7, st7, n7⟩ => ?_
      have I7' := I7.pinned (stat I7 n7) (T.obj _ _ st7)
      refine thnF (pg _ s7 _ H7 x u _ I7' r7 (step x H7 y7)) fun _ s8 ⟨σ8, H8, I8, hw8, q8⟩ => ?_
      refine thnF (pt _ s8 σ8 H8 _ I8 q8) fun b s9 ⟨H9, I9, q9⟩ => ?_
      -- the turn's end, from any slots that know what the block knew at its start
      have fin : ∀ {σ9 : St} {s' : Shared} {H' : Hp}, Inv (X.blk s3 H3 scope ce fp) ([] ++ pinsAt fp s7.heap) σ9 H' s' → (wipe σ (own.map (·.2))).length = σ9.length → (∀ (j : Nat) v, (wipe σ (own.map (·.2)))[j]? = some (some v) → σ9[j]? = some (some v)) → Nx H' →
          ∃ m, m < n ∧ ∃ i H', Inv (X.blk s3 H3 scope ce fp) [] (wipe σ (own.map (·.2))) H' s' ∧ tn i s'.heap ∧ (∀ b ∈ fp, H' b = none) ∧ W i m H' := fun {σ9 s' H'} I' hl hk nx => by
        obtain ⟨m', hm, w'⟩ := hNx H' nx
        have pin' : ∀ b ∈ fp, ∀ o, s7.heap.get? b = some o → s'.heap.get? b = some o ∧ H' b = none := fun b hb o e =>
          let z := I'.pin (b, o) (List.mem_append_right _ (List.mem_append_right _ (mem_pinsAt hb e)))
          ⟨z.1, z.2.1⟩
        refine ⟨m', hm, i + 1, H', (I'.unpinned (pins := [])).weak hl hk, T.keep _ _ _ st7 fun b hb o e => (pin' b hb o e).1, fun b hb => ?_, w'⟩
        obtain ⟨o, e, _⟩ := T.obj _ _ st7 b hb
        exact (pin' b hb o e).2
      have hl8 : (wipe σ (own.map (·.2))).length = σ8.length := by rw [← hw8, wipe_length]
      have hk8 : ∀ (j : Nat) v, (wipe σ (own.map (·.2)))[j]? = some (some v) → σ8[j]? = some (some v) := fun j v e => by
        rw [← hw8] at e
        exact (wipe_some e).1
      have hk9 : ∀ (j : Nat) v, (wipe σ (own.map (·.2)))[j]? = some (some v) → (wipe σ8 vs1)[j]? = some (some v) := fun j v e => by
        rw [← hw8] at e
        obtain ⟨e1, e2⟩ := wipe_some e
        rw [wipe_out fun z => e2 (hv j z)]
        exact e1
      cases b with
      | false =>
        simp only [Bool.false_eq_true, if_false] at q9 ⊢
        exact fin I9 hl8 hk8 q9
      | true =>
        simp only [if_true] at q9 ⊢
        refine thnF (pi1 _ s9 σ8 H9 _ I9 q9) fun xv s10 hx => thnF hx fun itv s11 h11 => ?_
        obtain ⟨it1, fp1, tn1, J1, H11, e1, I11, T1, st11, f11, W1, ⟨m1, w1⟩, turn1⟩ := h11
        subst e1
        -- the inner loop
        have stat1 : ∀ {H' : Hp}, (∀ b ∈ fp1, H' b = none) → ∀ b ∈ fp1, FpOk (X.blk s3 H3 scope ce fp) ([] ++ pinsAt fp s7.heap) H' b := fun hn b hb => ⟨hn b hb, (f11 b hb).2⟩
        have loop1 : codeAny (model X.prog X.w) X.A (.compLoop (.ListComp elt [⟨tg, iter, ifs, 0⟩, ⟨tg1, iter1, ifs1, 0⟩] scope pos) 1 (.ref it1) (.ref D) ce)
            (fun r s' => match r with
              | .ok _ => ∃ m, m < n ∧ ∃ i H', Inv (X.blk s3 H3 scope ce fp) [] (wipe σ (own.map (·.2))) H' s' ∧ tn i s'.heap ∧ (∀ b ∈ fp, H' b = none) ∧ W i m H'
              | .error _ => False) s11 := by
          refine compLoop2_in (fun k s' => ∃ j H', Inv (X.blk s3 H3 scope ce fp) ([] ++ pinsAt fp s7.heap) (wipe σ8 vs1) H' s' ∧ tn1 j s'.heap ∧ (∀ b ∈ fp1, H' b = none) ∧ W1 j k H') ?_ m1 ⟨0, H11, I11.weak (wipe_length _ _) (fun j v e => (wipe_some e).1), st11, fun b hb => (f11 b hb).1, w1⟩
          rintro k s12 ⟨j, H12, I12, st12, n12, w12⟩
          rcases turn1 j k H12 w12 with ⟨stop1, nx1⟩ | ⟨go1, Nx1, hNx1, step1⟩
          · refine thnF (T1.done (X.blk s3 H3 scope ce fp) rfl rfl rfl hc j _ s12 (wipe σ8 vs1) H12 (fun _ _ => False) I12 (stat1 n12) st12 stop1) fun r s13 ⟨hr, I13⟩ => ?_
            subst hr
            exact fin I13 (hl8.trans (wipe_length σ8 vs1).symm) hk9 nx1
          · refine thnF (T1.item (X.blk s3 H3 scope ce fp) rfl rfl rfl hc j _ s12 (wipe σ8 vs1) H12 (fun _ _ => False) I12 (stat1 n12) st12 go1) fun r s13 ⟨u1, hr, h13⟩ => ?_
            subst hr
            refine thnF h13 fun _ s14 ⟨x1, H14, I14, r14, y14, st14, n14⟩ => ?_
            have I14' := I14.pinned (stat1 n14) (T1.obj _ _ st14)
            refine thnF (pg1 _ s14 (wipe σ8 vs1) H14 x1 u1 _ I14' r14 (step1 x1 H14 y14)) fun _ s15 ⟨σ15, H15, I15, hw15, q15⟩ => ?_
            refine thnF (pt1 _ s15 σ15 H15 _ I15 q15) fun b1 s16 ⟨H16, I16, q16⟩ => ?_
            have fin1 : ∀ {s' : Shared} {H' : Hp}, Inv (X.blk s3 H3 scope ce fp) (([] ++ pinsAt fp s7.heap) ++ pinsAt fp1 s14.heap) σ15 H' s' → Nx1 H' → ∃ m, m < k ∧ ∃ j H', Inv (X.blk s3 H3 scope ce fp) ([] ++ pinsAt fp s7.heap) (wipe σ8 vs1) H' s' ∧ tn1 j s'.heap ∧ (∀ b ∈ fp1, H' b = none) ∧ W1 j m H' := fun {s' H'} I' nx => by
              obtain ⟨m', hm, w'⟩ := hNx1 H' nx
              have pin' : ∀ b ∈ fp1, ∀ o, s14.heap.get? b = some o → s'.heap.get? b = some o ∧ H' b = none := fun b hb o e =>
                let z := I'.pin (b, o) (List.mem_append_right _ (List.mem_append_right _ (mem_pinsAt hb e)))
                ⟨z.1, z.2.1⟩
              refine ⟨m', hm, j + 1, H', I'.unpinned.weak (by rw [← hw15, wipe_length]) (fun j v e => by rw [← hw15] at e; exact (wipe_some e).1), T1.keep _ _ _ st14 fun b hb o e => (pin' b hb o e).1, fun b hb => ?_, w'⟩
              obtain ⟨o, e, _⟩ := T1.obj _ _ st14 b hb
              exact (pin' b hb o e).2
            cases b1 with
            | false =>
              simp only [Bool.false_eq_true, if_false] at q16 ⊢
              exact fin1 I16 q16
            | true =>
              simp only [if_true] at q16 ⊢
              refine thnF (pe _ s16 σ15 H16 _ I16 q16) fun z s17 ⟨yv, H17, I17, r17, acc, hD17, hz17, nx⟩ => ?_
              exact app_ok (X := X.blk s3 H3 scope ce fp) I17 hD17 hz17 r17 fun s18 I18 => fin1 I18 nx
        exact compStart1_ok loop1 (T1.self X.A 0 _ _ _ st11 loop1)
  exact codeAny_compStart_list loop (T.self X.A 0 _ _ _ st4 loop)
/-- as a value -/
theorem pe_lc2 {elt tg iter tg1 iter1 : Expr} {ifs ifs1 : List Expr} {scope : Scope} {own : List (Str × Nat)} {vs1 : List Nat} {pos : Pos} {wi wi1 : TI} {g g1 : TG} {tt tt1 : TT} {te : TE} (hc : X.calm = true) (hN : X.N.Nodup) (hi : PI X tg iter wi) (ok : BlkOk X.N X.env.scope scope own) (hv : ∀ i ∈ vs1, i ∈ own.map (·.2))
    (hg : ∀ (s : Shared) (H : Hp) (C : Addr) (cl : List (Str × Addr)) (fp : List Addr), PG (X.blk s H scope (compEnvC scope cl C X.env) fp) tg g) (ht : ∀ (s : Shared) (H : Hp) (C : Addr) (cl : List (Str × Addr)) (fp : List Addr), PTs (X.blk s H scope (compEnvC scope cl C X.env) fp) ifs tt)
    (hi1 : ∀ (s : Shared) (H : Hp) (C : Addr) (cl : List (Str × Addr)) (fp : List Addr), PI (X.blk s H scope (compEnvC scope cl C X.env) fp) tg1 iter1 wi1)
    (hg1 : ∀ (s : Shared) (H : Hp) (C : Addr) (cl : List (Str × Addr)) (fp : List Addr), PG (X.blk s H scope (compEnvC scope cl C X.env) fp) tg1 g1) (ht1 : ∀ (s : Shared) (H : Hp) (C : Addr) (cl : List (Str × Addr)) (fp : List Addr), PTs (X.blk s H scope (compEnvC scope cl C X.env) fp) ifs1 tt1)
    (he : ∀ (s : Shared) (H : Hp) (C : Addr) (cl : List (Str × Addr)) (fp : List Addr), PE (X.blk s H scope (compEnvC scope cl C X.env) fp) elt te) (hs : ∀ x, foldedSetIterable iter X.env x = pure x := by intro _; rfl) (hs1 : ∀ env x, foldedSetIterable iter1 env x = pure x := by intro _ _; rfl) :
    PE X (.ListComp elt [⟨tg, iter, ifs, 0⟩, ⟨tg1, iter1, ifs1, 0⟩] scope pos) (tLc2 wi g tt wi1 g1 tt1 te (own.map (·.2)) vs1) := by
  intro pins s σ H Q I h
  rw [eval_ListComp]
  refine lc2_core hc hN I hi ok hv hg ht he hs hi1 hg1 ht1 hs1 h fun D C s' m H' I' q hn f => ⟨m, hn, fun h'' sb => ?_⟩
  obtain ⟨f0, f1, f2, f3, f4, f5⟩ := f
  exact ⟨.ref D, H', I'.turned (t' := s'.toks) (fun b o hb e => (sb.2 b hb).trans e) f0 f1 f3 f4 f5, rfl, q⟩
theorem ps_setLc2 {i : Nat} {y : Str} {py : Pos} {elt tg iter tg1 iter1 : Expr} {ifs ifs1 : List Expr} {scope : Scope} {own : List (Str × Nat)} {vs1 : List Nat} {pos spos : Pos} {wi wi1 : TI} {g g1 : TG} {tt tt1 : TT} {te : TE} (hc : X.calm = true) (hN : X.N.Nodup) (hy : X.N[i]? = some y) (hyl : X.env.scope.names.lookup y = some .local)
    (hsw : swapsWith (.ListComp elt [⟨tg, iter, ifs, 0⟩, ⟨tg1, iter1, ifs1, 0⟩] scope pos) (some (.Name y py)) spos.line X.env = pure true) (hi : PI X tg iter wi) (ok : BlkOk X.N X.env.scope scope own) (hv : ∀ i ∈ vs1, i ∈ own.map (·.2))
    (hg : ∀ (s : Shared) (H : Hp) (C : Addr) (cl : List (Str × Addr)) (fp : List Addr), PG (X.blk s H scope (compEnvC scope cl C X.env) fp) tg g) (ht : ∀ (s : Shared) (H : Hp) (C : Addr) (cl : List (Str × Addr)) (fp : List Addr), PTs (X.blk s H scope (compEnvC scope cl C X.env) fp) ifs tt)
    (hi1 : ∀ (s : Shared) (H : Hp) (C : Addr) (cl : List (Str × Addr)) (fp : List Addr), PI (X.blk s H scope (compEnvC scope cl C X.env) fp) tg1 iter1 wi1)
    (hg1 : ∀ (s : Shared) (H : Hp) (C : Addr) (cl : List (Str × Addr)) (fp : List Addr), PG (X.blk s H scope (compEnvC scope cl C X.env) fp) tg1 g1) (ht1 : ∀ (s : Shared) (H : Hp) (C : Addr) (cl : List (Str × Addr)) (fp : List Addr), PTs (X.blk s H scope (compEnvC scope cl C X.env) fp) ifs1 tt1)
    (he : ∀ (s : Shared) (H : Hp) (C : Addr) (cl : List (Str × Addr)) (fp : List Addr), PE (X.blk s H scope (compEnvC scope cl C X.env) fp) elt te) (hs : ∀ x, foldedSetIterable iter X.env x = pure x := by intro _; rfl) (hs1 : ∀ env x, foldedSetIterable iter1 env x = pure x := by intro _ _; rfl) :
    PS X (.Assign [.Name y py] (.ListComp elt [⟨tg, iter, ifs, 0⟩, ⟨tg1, iter1, ifs1, 0⟩] scope pos) spos) (tAsg (tLc2 wi g tt wi1 g1 tt1 te (own.map (·.2)) vs1) (gName i)) := by
  intro pins s σ H D I h
  rw [exec_Assign_Name_used _ _ _ _ hsw]
  refine wpAny_bind (wpAny_standAt (wpAny_bind ?_))
  show wpAny _ X.A (do let _ ← comprehension (.ListComp elt [⟨tg, iter, ifs, 0⟩, ⟨tg1, iter1, ifs1, 0⟩] scope pos) scope X.env (firstIterPos [⟨tg, iter, ifs, 0⟩, ⟨tg1, iter1, ifs1, 0⟩] pos) (newList []) false (eval iter X.env) (some (assign (.Name y py) X.env))) _ _ s
  have h : tLc2 wi g tt wi1 g1 tt1 te (own.map (·.2)) vs1 σ H (fun x H1 => gName i x σ H1 D.nx) := h
  refine wpAny_bind (thn (lc2_core (Qf := fun _ s' => SP X pins D .next s') hc hN I hi ok hv hg ht he hs hi1 hg1 ht1 hs1 h fun L C s' m H' I' q hn f => ?_) fun _ s' hq => wpAny_pure (wpAny_pure hq))
  show wpAny _ _ (assign (.Name y py) X.env (.ref L)) _ _ _
  refine wpAny_assign_Name (store_ok2 (v := V.ref L) I' hN hy (.inl hyl) rfl (fun s2 I2 ⟨a, sb, ha⟩ => ?_) (.inr hyl))
  obtain ⟨f0, f1, f2, f3, f4, f5⟩ := f
  have haC : C ≠ a := by
    rcases ha with z | z
    · rw [z]; exact f1
    · exact fun e => f4 y a z e.symm
  refine ⟨m, hn.sameBut sb haC, fun h3 sb3 => ?_⟩
  exact ⟨_, H', I2.turned (t' := s2.toks) (fun b o hb e => (sb3.2 b hb).trans e) f0 f1 f3 f4 f5, q⟩
end
end L2

namespace L2
open PySem PySem.Spec PyProof.Rows

/-! ### lists of pairs as tables -/
section
variable {κ : Type} [DecidableEq κ]
def valV (kvs : List (κ × V)) (k : κ) : Option V := (kvs.find? fun kv => decide (kv.1 = k)).map (·.2)
/-- in its place, or at the end -/
def putK (kvs : List (κ × V)) (k : κ) (v : V) : List (κ × V) :=
  if (kvs.any fun kv => decide (kv.1 = k)) = true then kvs.map (fun kv => if kv.1 = k then (kv.1, v) else kv) else kvs ++ [(k, v)]
def dropK (kvs : List (κ × V)) (k : κ) : List (κ × V) := kvs.filter fun kv => decide (kv.1 ≠ k)

theorem valV_nil {k : κ} : valV ([] : List (κ × V)) k = none := rfl
theorem valV_pos {p : κ × V} {r : List (κ × V)} {k : κ} (e : p.1 = k) : valV (p :: r) k = some p.2 := by simp [valV, List.find?_cons, e]
theorem valV_neg {p : κ × V} {r : List (κ × V)} {k : κ} (e : ¬ p.1 = k) : valV (p :: r) k = valV r k := by simp [valV, List.find?_cons, e]
theorem valV_any (k : κ) : ∀ kvs : List (κ × V), (kvs.any fun kv => decide (kv.1 = k)) = (valV kvs k).isSome
  | [] => rfl
  | p :: r => by
    rw [List.any_cons]
    by_cases e : p.1 = k
    · simp only [valV_pos e, decide_eq_true e, Bool.true_or, Option.isSome_some]
    · rw [valV_neg e, decide_eq_false e, Bool.false_or]; exact valV_any k r
theorem valV_map (k j : κ) (y : V) : ∀ kvs : List (κ × V), valV (kvs.map fun kv => if kv.1 = k then (kv.1, y) else kv) j = (valV kvs j).map fun x => if j = k then y else x
  | [] => rfl
  | p :: r => by
    have ih := valV_map k j y r
    rw [List.map_cons]
    by_cases h : p.1 = k
    · rw [if_pos h]
      by_cases e : p.1 = j
      · rw [valV_pos (p := (p.1, y)) e, valV_pos e, Option.map_some, if_pos (e.symm.trans h)]
      · rw [valV_neg (p := (p.1, y)) e, valV_neg e, ih]
    · rw [if_neg h]
      by_cases e : p.1 = j
      · rw [valV_pos (p := p) e, valV_pos e, Option.map_some, if_neg (fun z => h (e.trans z))]
      · rw [valV_neg (p := p) e, valV_neg e, ih]
theorem valV_snoc (k j : κ) (y : V) : ∀ kvs : List (κ × V), valV kvs k = none → valV (kvs ++ [(k, y)]) j = if j = k then some y else valV kvs j
  | [], _ => by
    by_cases e : k = j
    · rw [if_pos e.symm]; exact valV_pos (p := (k, y)) e
    · rw [if_neg (fun z => e z.symm)]; exact valV_neg (p := (k, y)) e
  | p :: r, hn => by
    rw [List.cons_append]
    have hk : ¬ p.1 = k := fun z => by rw [valV_pos z] at hn; cases hn
    rw [valV_neg hk] at hn
    have ih := valV_snoc k j y r hn
    by_cases e : p.1 = j
    · rw [valV_pos e, valV_pos e, if_neg (fun z => hk (e.trans z))]
    · rw [valV_neg e, valV_neg e, ih]
theorem valV_put (kvs : List (κ × V)) (k j : κ) (y : V) : valV (putK kvs k y) j = if j = k then some y else valV kvs j := by
  unfold putK
  by_cases a : (kvs.any fun kv => decide (kv.1 = k)) = true
  · rw [if_pos a, valV_map]
    rw [valV_any] at a
    by_cases e : j = k
    · obtain ⟨x, hx⟩ := Option.isSome_iff_exists.mp a
      rw [if_pos e, e, hx, Option.map_some, if_pos rfl]
    · rw [if_neg e]
      cases valV kvs j with
      | none => rfl
      | some x => rw [Option.map_some, if_neg e]
  · rw [if_neg a]
    refine valV_snoc k j y kvs ?_
    rw [valV_any] at a
    cases q : valV kvs k with
    | none => rfl
    | some x => rw [q] at a; exact (a rfl).elim
theorem length_putK (kvs : List (κ × V)) (k : κ) (v : V) : (putK kvs k v).length ≤ kvs.length + 1 := by
  unfold putK
  split
  · rw [List.length_map]; omega
  · rw [List.length_append, List.length_cons, List.length_nil]; omega
theorem putK_new {kvs : List (κ × V)} {k : κ} (v : V) (h : valV kvs k = none) : putK kvs k v = kvs ++ [(k, v)] := by
  unfold putK
  rw [valV_any, h]
  exact if_neg (by decide)

theorem RelO.isSome_eq {o : Option V} {u : Option Value} (r : RelO o u) : o.isSome = u.isSome := by
  cases o with
  | none => cases u with
    | none => rfl
    | some _ => exact (show False from r).elim
  | some _ => cases u with
    | none => exact (show False from r).elim
    | some _ => rfl
theorem RelO.getD {o : Option V} {u : Option Value} {d : V} {d' : Value} (r : RelO o u) (rd : RelV d d') : RelV (o.getD d) (u.getD d') := by
  cases o with
  | none => cases u with
    | none => exact rd
    | some _ => exact (show False from r).elim
  | some _ => cases u with
    | none => exact (show False from r).elim
    | some _ => exact r

/-- raw tables of the same keys -/
theorem KV.val {kvs : List (κ × V)} {vs : List (κ × Value)} (r : KV kvs vs) (k : κ) : RelO (valV kvs k) (valueAt vs k) := by
  unfold KV at r
  induction r with
  | nil => exact True.intro
  | @cons p q ps qs h t ih =>
    obtain ⟨h1, h2⟩ := h
    by_cases e : p.1 = k
    · have e' : q.1 = k := h1.symm.trans e
      have b : valueAt (q :: qs) k = some q.2 := by simp [valueAt, List.find?_cons, e']
      rw [valV_pos e, b]; exact h2
    · have e' : ¬ q.1 = k := fun z => e (h1.trans z)
      have b : valueAt (q :: qs) k = valueAt qs k := by simp [valueAt, List.find?_cons, e']
      rw [valV_neg e, b]; exact ih
theorem KV.any {kvs : List (κ × V)} {vs : List (κ × Value)} (r : KV kvs vs) (k : κ) : (kvs.any fun kv => decide (kv.1 = k)) = vs.any fun kv => decide (kv.1 = k) := by
  unfold KV at r
  induction r with
  | nil => rfl
  | cons h t ih => rw [List.any_cons, List.any_cons, ih, h.1]
theorem KV.repl {kvs : List (κ × V)} {vs : List (κ × Value)} (r : KV kvs vs) (k : κ) {y : V} {u : Value} (ry : RelV y u) :
    KV (kvs.map fun kv => if kv.1 = k then (kv.1, y) else kv) (vs.map fun kv => if kv.1 = k then (kv.1, u) else kv) := by
  unfold KV at r ⊢
  induction r with
  | nil => exact .nil
  | @cons p q ps qs h t ih =>
    rw [List.map_cons, List.map_cons]
    refine .cons ?_ ih
    obtain ⟨h1, h2⟩ := h
    by_cases e : p.1 = k
    · rw [if_pos e, if_pos (h1.symm.trans e)]; exact ⟨h1, ry⟩
    · rw [if_neg e, if_neg (fun z => e (h1.trans z))]; exact ⟨h1, h2⟩
theorem KV.put {kvs : List (κ × V)} {vs : List (κ × Value)} (r : KV kvs vs) (k : κ) {y : V} {u : Value} (ry : RelV y u) : KV (putK kvs k y) (stored vs k u) := by
  unfold putK stored
  rw [r.any k]
  by_cases e : (vs.any fun kv => decide (kv.1 = k)) = true
  · rw [if_pos e, if_pos e]; exact r.repl k ry
  · rw [if_neg e, if_neg e]; exact Paired.snoc r ⟨rfl, ry⟩
theorem KV.drop {kvs : List (κ × V)} {vs : List (κ × Value)} (r : KV kvs vs) (k : κ) : KV (dropK kvs k) (without vs k) := by
  unfold KV at r ⊢
  unfold dropK without
  induction r with
  | nil => exact .nil
  | @cons p q ps qs h t ih =>
    obtain ⟨h1, h2⟩ := h
    rw [List.filter_cons, List.filter_cons]
    by_cases e : p.1 = k
    · have a : ¬ decide (p.1 ≠ k) = true := by simp [e]
      have b : ¬ decide (q.1 ≠ k) = true := by simp [h1.symm.trans e]
      rw [if_neg a, if_neg b]; exact ih
    · have e' : ¬ q.1 = k := fun z => e (h1.trans z)
      have a : decide (p.1 ≠ k) = true := by simp [e]
      have b : decide (q.1 ≠ k) = true := by simp [e']
      rw [if_pos a, if_pos b]; exact .cons ⟨h1, h2⟩ ih
theorem KV.keys {kvs : List (κ × V)} {vs : List (κ × Value)} (r : KV kvs vs) : kvs.map (·.1) = vs.map (·.1) := by
  unfold KV at r
  induction r with
  | nil => rfl
  | cons h t ih => rw [List.map_cons, List.map_cons, ih, h.1]
theorem KV.length {kvs : List (κ × V)} {vs : List (κ × Value)} (r : KV kvs vs) : kvs.length = vs.length := Paired.length r
theorem dropK_le (kvs : List (κ × V)) (k : κ) : (dropK kvs k).length ≤ kvs.length := List.length_filter_le _ _
end


/-! ### a tracked dict, its keys ints and texts or tuples of these -/
theorem kV_is {P : Program} {w : World} {k : Key} {u : Value} (r : RelV (kV k) u) : (mixKind P w).is k u = true := by
  cases k with
  | inl i => obtain ⟨t, e⟩ := (show ∃ t, u = Value.int i t from r); subst e; exact mixKind_int P w i t
  | inr x => obtain ⟨t, e⟩ := (show ∃ t, u = Value.str x t from r); subst e; exact mixKind_str P w x t
theorem kV_inj {a b : Key} (e : kV a = kV b) : a = b := by
  cases a with
  | inl i => cases b with
    | inl j => have e' : V.int i = V.int j := e; injection e' with e'; rw [e']
    | inr y => exact nomatch (show V.int i = V.str y from e)
  | inr x => cases b with
    | inl j => exact nomatch (show V.str x = V.int j from e)
    | inr y => have e' : V.str x = V.str y := e; injection e' with e'; rw [e']
theorem kVs_inj : ∀ {a b : List Key}, a.map kV = b.map kV → a = b
  | [], [], _ => rfl
  | [], _ :: _, e => by simp at e
  | _ :: _, [], e => by simp at e
  | x :: xs, y :: ys, e => by
    rw [List.map_cons, List.map_cons] at e
    injection e with e1 e2
    rw [kV_inj e1, kVs_inj e2]
theorem items_are {P : Program} {w : World} : ∀ {ks : List Key} {us : List Value}, Vals (ks.map kV) us → ItemsAre (mixKind P w) ks us
  | [], _, r => by rw [List.map_nil] at r; cases r; exact .nil
  | k :: ks, _, r => by
    rw [List.map_cons] at r
    cases r with
    | cons h t => exact .cons (kV_is h) (items_are t)

/-- raw entries of a dict with tuple keys -/
abbrev KT (H : Hp) : List (List Key × V) → List (List Key × Addr × Value) → Prop := Paired fun p q => p.1 = q.1 ∧ H q.2.1 = some (.tup (p.1.map kV)) ∧ RelV p.2 q.2.2
theorem KT.val {H : Hp} {kvs : List (List Key × V)} {xs : List (List Key × Addr × Value)} (r : KT H kvs xs) (k : List Key) : RelO (valV kvs k) ((atKey xs k).map (·.2)) := by
  induction r with
  | nil => exact True.intro
  | @cons p q ps qs h t ih =>
    obtain ⟨h1, _, h2⟩ := h
    by_cases e : p.1 = k
    · have e' : q.1 = k := h1.symm.trans e
      have b : atKey (q :: qs) k = some q.2 := by simp [atKey, List.find?_cons, e']
      rw [valV_pos e, b]; exact h2
    · have e' : ¬ q.1 = k := fun z => e (h1.trans z)
      have b : atKey (q :: qs) k = atKey qs k := by simp [atKey, List.find?_cons, e']
      rw [valV_neg e, b]; exact ih
theorem KT.repl {H : Hp} {kvs : List (List Key × V)} {xs : List (List Key × Addr × Value)} (r : KT H kvs xs) (k : List Key) {y : V} {u : Value} (ry : RelV y u) :
    KT H (kvs.map fun kv => if kv.1 = k then (kv.1, y) else kv) (xs.map (putAt k u)) := by
  induction r with
  | nil => exact .nil
  | @cons p q ps qs h t ih =>
    rw [List.map_cons, List.map_cons]
    refine .cons ?_ ih
    obtain ⟨h1, h2, h3⟩ := h
    unfold putAt
    by_cases e : p.1 = k
    · rw [if_pos e, if_pos (h1.symm.trans e)]; exact ⟨h1, h2, ry⟩
    · rw [if_neg e, if_neg (fun z => e (h1.trans z))]; exact ⟨h1, h2, h3⟩
theorem KT.put {H : Hp} {kvs : List (List Key × V)} {xs : List (List Key × Addr × Value)} (r : KT H kvs xs) (k : List Key) {b : Addr} {y : V} {u : Value} (hb : H b = some (.tup (k.map kV))) (ry : RelV y u) :
    KT H (putK kvs k y) (storedH xs k b u) := by
  have e : (kvs.any fun kv => decide (kv.1 = k)) = (atKey xs k).isSome := by
    rw [valV_any, (r.val k).isSome_eq, Option.isSome_map]
  unfold putK storedH
  rw [e]
  by_cases q : (atKey xs k).isSome = true
  · rw [if_pos q, if_pos q]; exact r.repl k ry
  · rw [if_neg q, if_neg q]; exact Paired.snoc r ⟨rfl, hb, ry⟩
theorem KT.keeps {H H' : Hp} {kvs : List (List Key × V)} {xs : List (List Key × Addr × Value)} (r : KT H kvs xs) (ht : ∀ b ys, H b = some (.tup ys) → H' b = some (.tup ys)) : KT H' kvs xs :=
  Paired.mapP r fun _ _ z => ⟨z.1, ht _ _ z.2.1, z.2.2⟩

section
variable {P : Program} {w : World} {H : Hp} {h : Heap} {a : Addr}
theorem rd_of {u : HO} (ok : HOk P w H h) (e : Rd H a u) : ObjOk P w H h a u := e.ok ok
theorem dk_rd {kvs : List (Key × V)} (ok : HOk P w H h) (e : Rd H a (.dK kvs)) : kvs.length ≤ sizeLine ∧ (a == sysModules) = false ∧ ∃ vs, KV kvs vs ∧ h.DictOf (mixKind P w) a vs :=
  show ObjOk P w H h a (.dK kvs) from rd_of ok e
theorem dk_of {kvs : List (Key × V)} (ok : HOk P w H h) (e : H a = some (.dK kvs)) : kvs.length ≤ sizeLine ∧ (a == sysModules) = false ∧ ∃ vs, KV kvs vs ∧ h.DictOf (mixKind P w) a vs := dk_rd ok (.inl e)
/-- a tracked tuple of ints and texts is a key -/
theorem key_of {ks : List Key} (ok : HOk P w H h) (e : H a = some (.tup (ks.map kV))) : (tupleKind (mixKind P w)).is h ks a := by
  obtain ⟨_, its, r, o, h1, h2, n, h3⟩ := (show ObjOk P w H h a (.tup (ks.map kV)) from ok a _ e)
  exact ⟨o, its.toArray, n, h1, h2, h3, by simpa using items_are r⟩
theorem dt_rd {kvs : List (List Key × V)} (ok : HOk P w H h) (e : Rd H a (.dT kvs)) : kvs.length ≤ sizeLine ∧ (a == sysModules) = false ∧
    ∃ xs, KT H kvs xs ∧ h.DictOfH (tupleKind (mixKind P w)) a xs := by
  obtain ⟨z, y, xs, r, o, es, ep, h1, h2, h3, h4, h5⟩ := (show ObjOk P w H h a (.dT kvs) from rd_of ok e)
  refine ⟨z, y, xs, r, o, es, ep, h1, h2, h3, h4, fun x hx => ?_, h5⟩
  have all : ∀ {l : List (List Key × V)} {m : List (List Key × Addr × Value)}, KT H l m → ∀ x ∈ m, (tupleKind (mixKind P w)).is h x.1 x.2.1 := by
    intro l m q
    induction q with
    | nil => intro x hx; exact nomatch hx
    | @cons p q ps qs hq t ih =>
      intro x hx
      rcases List.mem_cons.mp hx with e | hx
      · subst e
        exact key_of ok (by rw [← hq.1]; exact hq.2.1)
      · exact ih x hx
  exact all r x hx
theorem dt_of {kvs : List (List Key × V)} (ok : HOk P w H h) (e : H a = some (.dT kvs)) : kvs.length ≤ sizeLine ∧ (a == sysModules) = false ∧
    ∃ xs, KT H kvs xs ∧ h.DictOfH (tupleKind (mixKind P w)) a xs := dt_rd ok (.inl e)
end

/-- what the dict at a holds at the key y -/
def DGet (H : Hp) (a : Addr) (y : V) (r : Option V) : Prop :=
  (∃ kvs k, Rd H a (.dK kvs) ∧ y = kV k ∧ r = valV kvs k) ∨ ∃ kvs k b, Rd H a (.dT kvs) ∧ y = .ref b ∧ H b = some (.tup (k.map kV)) ∧ r = valV kvs k
/-- the heap behind a[y] = v -/
def DPut (H : Hp) (a : Addr) (y v : V) (H' : Hp) : Prop :=
  (∃ kvs k, H a = some (.dK kvs) ∧ y = kV k ∧ kvs.length < sizeLine ∧ H' = upd H a (.dK (putK kvs k v))) ∨
  ∃ kvs k b, H a = some (.dT kvs) ∧ y = .ref b ∧ H b = some (.tup (k.map kV)) ∧ kvs.length < sizeLine ∧ H' = upd H a (.dT (putK kvs k v))
theorem DGet.k {H : Hp} {a : Addr} {kvs : List (Key × V)} {k : Key} (e : H a = some (.dK kvs)) : DGet H a (kV k) (valV kvs k) := .inl ⟨kvs, k, .inl e, rfl, rfl⟩
theorem DGet.t {H : Hp} {a b : Addr} {kvs : List (List Key × V)} {k : List Key} (e : H a = some (.dT kvs)) (eb : H b = some (.tup (k.map kV))) : DGet H a (.ref b) (valV kvs k) := .inr ⟨kvs, k, b, .inl e, rfl, eb, rfl⟩
theorem DPut.k {H : Hp} {a : Addr} {kvs : List (Key × V)} {k : Key} {v : V} (e : H a = some (.dK kvs)) (hl : kvs.length < sizeLine) : DPut H a (kV k) v (upd H a (.dK (putK kvs k v))) := .inl ⟨kvs, k, e, rfl, hl, rfl⟩
theorem DPut.t {H : Hp} {a b : Addr} {kvs : List (List Key × V)} {k : List Key} {v : V} (e : H a = some (.dT kvs)) (eb : H b = some (.tup (k.map kV))) (hl : kvs.length < sizeLine) :
    DPut H a (.ref b) v (upd H a (.dT (putK kvs k v))) := .inr ⟨kvs, k, b, e, rfl, eb, hl, rfl⟩


section
variable {X : Cx} {pins : List (Addr × Obj)} {σ : St} {H : Hp} {s : Shared} {a : Addr} {y v : V} {u r : Value} {o : Option V} {A : Around} {E : Value → Shared → Prop}

theorem Inv.big (I : Inv X pins σ H s) : sysModules < s.heap.objs.size := by
  have h : mainGlobals < s.heap.objs.size := (I.mod.glob.keeps I.bk).lt
  exact Nat.lt_trans (by decide) h

/-- d[y], there -/
theorem d_getItem {Q : Value → Shared → Prop} (hu : A.units + 1 < cLine) (I : Inv X pins σ H s) (g : DGet H a y (some v)) (ry : RelV y u) (h : ∀ w' s', Inv X pins σ H s' → RelV v w' → Q w' s') :
    wpAny (model X.prog X.w) A (getItem (.ref a) u) Q E s := by
  rcases g with ⟨kvs, k, e, ey, l⟩ | ⟨kvs, k, b, e, ey, eb, l⟩
  · subst ey
    obtain ⟨z, hd, vs, rel, dd⟩ := dk_rd I.hok e
    obtain ⟨w', hw, rw'⟩ := RelO.some_of (v := v) (o := valueAt vs k) (by rw [l]; exact rel.val k)
    exact wpAny_getItem_of (kV_is ry) dd.mapOf hw (h w' _ (I.tok _) rw')
  · subst ey
    cases (show u = Value.ref b from ry)
    obtain ⟨z, hd, xs, rel, dd⟩ := dt_rd I.hok e
    obtain ⟨w', hw, rw'⟩ := RelO.some_of (v := v) (o := (atKey xs k).map (·.2)) (by rw [l]; exact rel.val k)
    obtain ⟨p, hp, hp2⟩ := Option.map_eq_some_iff.mp hw
    refine wpAny_getItem_heap (tupleKind_room_in1 hu) (key_of I.hok eb) dd hp ?_
    rw [hp2]
    exact h w' _ (I.tok _) rw'
/-- y in d -/
theorem d_in {Q : Value → Shared → Prop} (hu : A.units + 1 < cLine) (I : Inv X pins σ H s) (g : DGet H a y o) (ry : RelV y u) (h : ∀ s', Inv X pins σ H s' → Q (.bool o.isSome) s') :
    wpAny (model X.prog X.w) A (compareOp .In u (.ref a)) Q E s := by
  rcases g with ⟨kvs, k, e, ey, l⟩ | ⟨kvs, k, b, e, ey, eb, l⟩
  · subst ey
    obtain ⟨z, hd, vs, rel, dd⟩ := dk_rd I.hok e
    refine wpAny_in_of (kV_is ry) hd dd.mapOf ?_
    rw [← (rel.val k).isSome_eq, ← l]
    exact h _ (I.tok _)
  · subst ey
    cases (show u = Value.ref b from ry)
    obtain ⟨z, hd, xs, rel, dd⟩ := dt_rd I.hok e
    refine wpAny_in_heap (tupleKind_room_in1 hu) (key_of I.hok eb) hd dd ?_
    have q := (rel.val k).isSome_eq
    rw [Option.isSome_map] at q
    rw [← q, ← l]
    exact h _ (I.tok _)
theorem d_notIn {Q : Value → Shared → Prop} (hu : A.units + 1 < cLine) (I : Inv X pins σ H s) (g : DGet H a y o) (ry : RelV y u) (h : ∀ s', Inv X pins σ H s' → Q (.bool (!o.isSome)) s') :
    wpAny (model X.prog X.w) A (compareOp .NotIn u (.ref a)) Q E s := by
  rcases g with ⟨kvs, k, e, ey, l⟩ | ⟨kvs, k, b, e, ey, eb, l⟩
  · subst ey
    obtain ⟨z, hd, vs, rel, dd⟩ := dk_rd I.hok e
    refine wpAny_notIn_of (kV_is ry) hd dd.mapOf ?_
    rw [← (rel.val k).isSome_eq, ← l]
    exact h _ (I.tok _)
  · subst ey
    cases (show u = Value.ref b from ry)
    obtain ⟨z, hd, xs, rel, dd⟩ := dt_rd I.hok e
    refine wpAny_notIn_heap (tupleKind_room_in1 hu) (key_of I.hok eb) hd dd ?_
    have q := (rel.val k).isSome_eq
    rw [Option.isSome_map] at q
    rw [← q, ← l]
    exact h _ (I.tok _)
/-- a dict's object is replaced -/
theorem d_write {h' : Heap} {t' : Nat} {ob : HO} (I : Inv X pins σ H s) (mu : Mut (H a)) (hs : Heap.SameBut a s.heap h') (he : ∃ q, h'.get? a = some q) (new : ObjOk X.prog X.w (upd H a ob) h' a ob) :
    Inv X pins σ (upd H a ob) { s with heap := h', toks := t' } :=
  I.write (x := a) (e := a) mu (.inl rfl) (fun b q hb z => (hs.2 b hb).trans z) he new
theorem dk_new {P : Program} {w : World} {H' : Hp} {h' : Heap} {kvs : List (Key × V)} {vs : List (Key × Value)} (z : kvs.length ≤ sizeLine) (hd : (a == sysModules) = false) (rel : KV kvs vs) (dd : h'.DictOf (mixKind P w) a vs) :
    ObjOk P w H' h' a (.dK kvs) := ⟨z, hd, vs, rel, dd⟩
/-- d[y] = v -/
theorem d_setItem {H' : Hp} {Q : Unit → Shared → Prop} (hu : A.units + 1 < cLine) (I : Inv X pins σ H s) (g : DPut H a y v H') (ry : RelV y u) (rv : RelV v r) (h : ∀ s', Inv X pins σ H' s' → Q () s') :
    wpAny (model X.prog X.w) A (setItem (.ref a) u r) Q E s := by
  rcases g with ⟨kvs, k, e, ey, l, eH⟩ | ⟨kvs, k, b, e, ey, eb, l, eH⟩
  · subst ey eH
    obtain ⟨z, hd, vs, rel, dd⟩ := dk_of I.hok e
    have hz : vs.length ≤ sizeLine := by rw [← rel.length]; exact z
    have hl : (putK kvs k v).length ≤ sizeLine := by have := length_putK kvs k v; omega
    refine wpAny_setItem_pairs (hsz := hz) (kV_is ry) dd fun h' dd' hs => h _ ?_
    have he : ∃ q, h'.get? a = some q := let ⟨q, _, _, hq, _⟩ := dd'; ⟨q, hq⟩
    exact d_write I (by rw [e]; exact True.intro) hs he (dk_new hl hd (rel.put k rv) dd')
  · subst ey eH
    cases (show u = Value.ref b from ry)
    obtain ⟨z, hd, xs, rel, dd⟩ := dt_of I.hok e
    have hz : xs.length ≤ sizeLine := by rw [← Paired.length rel]; exact z
    have hl : (putK kvs k v).length ≤ sizeLine := by have := length_putK kvs k v; omega
    refine wpAny_setItem_heap (hsz := hz) (tupleKind_room_in1 hu) (key_of I.hok eb) dd fun h' dd' hs => h _ ?_
    obtain ⟨q, es, ep, hq, h2, h3, h4, _, h5⟩ := dd'
    refine d_write I (by rw [e]; exact True.intro) hs ⟨q, hq⟩ ⟨hl, hd, _, (rel.put k eb rv).keeps fun c ys ec => ?_, q, es, ep, hq, h2, h3, h4, h5⟩
    rw [upd_ne (ne_of ec e (fun z => nomatch z))]
    exact ec
end

section
variable {X : Cx} {pins : List (Addr × Obj)} {σ : St} {H : Hp} {s : Shared} {a : Addr} {kvs : List (Key × V)} {k : Key} {u : Value} {A : Around} {E : Value → Shared → Prop}
/-- del d[k] -/
theorem d_delItem {Q : Unit → Shared → Prop} (I : Inv X pins σ H s) (e : H a = some (.dK kvs)) (ry : RelV (kV k) u) (l : (valV kvs k).isSome = true) (h : ∀ s', Inv X pins σ (upd H a (.dK (dropK kvs k))) s' → Q () s') :
    wpAny (model X.prog X.w) A (delItem (.ref a) u) Q E s := by
  obtain ⟨z, hd, vs, rel, dd⟩ := dk_of I.hok e
  refine wpAny_delItem_slot dd.typeIs (by decide) PySem.F.slot_dict_delitem
    (call_meetsIn PySem.F.slot_dict_delitem dd.typeIs PySem.F.entry_dict_delitem (PySem.F.args_dict_delitem_2 _ _) (meets_dict_delitem_pairs (mixKind X.prog X.w) a (kV_is ry)) ⟨vs, dd, by rw [← rel.length]; exact z, by rw [← (rel.val k).isSome_eq]; exact l, fun h' dd' hs => h _ ?_⟩)
  have he : ∃ q, h'.get? a = some q := let ⟨q, _, _, hq, _⟩ := dd'; ⟨q, hq⟩
  exact d_write I (by rw [e]; exact True.intro) hs he (dk_new (Nat.le_trans (dropK_le kvs k) z) hd (rel.drop k) dd')
/-- d.pop(k[, x]), there -/
theorem d_pop {v : V} {more : List Value} {Q : Value → Shared → Prop} (I : Inv X pins σ H s) (e : H a = some (.dK kvs)) (ry : RelV (kV k) u) (l : valV kvs k = some v) (hm : more = [] ∨ ∃ x, more = [x])
    (h : ∀ w' s', Inv X pins σ (upd H a (.dK (dropK kvs k))) s' → RelV v w' → Q w' s') : wpAny (model X.prog X.w) A (call (.builtin "dict.pop") (.ref a :: u :: more)) Q E s := by
  obtain ⟨z, hd, vs, rel, dd⟩ := dk_of I.hok e
  obtain ⟨w', hw, rw'⟩ := RelO.some_of (v := v) (o := valueAt vs k) (by rw [← l]; exact rel.val k)
  have hp : (keyPart u).isSome = true := by
    cases k with
    | inl i => obtain ⟨t, q⟩ := (show ∃ t, u = Value.int i t from ry); subst q; rfl
    | inr x => obtain ⟨t, q⟩ := (show ∃ t, u = Value.str x t from ry); subst q; rfl
  have ha : argsOk "dict.pop" ⟨.ref a :: u :: more, []⟩ := by
    rcases hm with q | ⟨x, q⟩
    · subst q; exact PySem.F.args_dict_pop_2 _ _
    · subst q; exact PySem.F.args_dict_pop_3 _ _ _
  refine call_meetsIn PySem.F.slot_dict_pop dd.typeIs PySem.F.entry_dict_pop ha (meets_dict_pop_there (mixKind X.prog X.w) a (kV_is ry) more hm hp)
    ⟨vs, w', dd, by rw [← rel.length]; exact z, hw, fun h' dd' hs => h w' _ ?_ rw'⟩
  have he : ∃ q, h'.get? a = some q := let ⟨q, _, _, hq, _⟩ := dd'; ⟨q, hq⟩
  exact d_write I (by rw [e]; exact True.intro) hs he (dk_new (Nat.le_trans (dropK_le kvs k) z) hd (rel.drop k) dd')
/-- d.pop(k, x), not there -/
theorem d_popD {r : Value} {Q : Value → Shared → Prop} (I : Inv X pins σ H s) (e : H a = some (.dK kvs)) (ry : RelV (kV k) u) (l : valV kvs k = none) (h : ∀ s', Inv X pins σ H s' → Q r s') :
    wpAny (model X.prog X.w) A (call (.builtin "dict.pop") [.ref a, u, r]) Q E s := by
  obtain ⟨z, hd, vs, rel, dd⟩ := dk_of I.hok e
  have hn : valueAt vs k = none := RelO.none_of (by rw [← l]; exact rel.val k)
  have hp : (keyPart u).isSome = true := by
    cases k with
    | inl i => obtain ⟨t, q⟩ := (show ∃ t, u = Value.int i t from ry); subst q; rfl
    | inr x => obtain ⟨t, q⟩ := (show ∃ t, u = Value.str x t from ry); subst q; rfl
  exact call_meetsIn PySem.F.slot_dict_pop dd.typeIs PySem.F.entry_dict_pop (PySem.F.args_dict_pop_3 _ _ _) (meets_dict_pop_default (mixKind X.prog X.w) a (kV_is ry) hd hp r) ⟨vs, dd, hn, h _ (I.tok _)⟩
/-- d.clear() -/
theorem d_clear {Q : Value → Shared → Prop} (I : Inv X pins σ H s) (e : H a = some (.dK kvs)) (h : ∀ s', Inv X pins σ (upd H a (.dK [])) s' → Q .none s') : wpAny (model X.prog X.w) A (call (.builtin "dict.clear") [.ref a]) Q E s := by
  obtain ⟨z, hd, vs, rel, dd⟩ := dk_of I.hok e
  refine call_meetsIn PySem.F.slot_dict_clear dd.typeIs PySem.F.entry_dict_clear (PySem.F.args_dict_clear_1 _) (meets_dict_clear (mixKind X.prog X.w) a) ⟨vs, dd, by rw [← rel.length]; exact z, fun h' dd' hs => h _ ?_⟩
  have he : ∃ q, h'.get? a = some q := let ⟨q, _, _, hq, _⟩ := dd'; ⟨q, hq⟩
  exact d_write (t' := s.toks) I (by rw [e]; exact True.intro) hs he (dk_new (Nat.zero_le _) hd .nil dd')
/-- len(d) -/
theorem d_len {Q : Value → Shared → Prop} (I : Inv X pins σ H s) (e : Rd H a (.dK kvs)) (h : ∀ t s', Inv X pins σ H s' → Q (.int kvs.length t) s') : wpAny (model X.prog X.w) A (call (.builtin "len") [.ref a]) Q E s := by
  obtain ⟨z, hd, vs, rel, dd⟩ := dk_rd I.hok e
  refine call_len_dict hd dd (by rw [← rel.length]; rw [sizeLine_eq] at z; omega) ?_
  rw [← rel.length]
  exact h _ _ (I.tok _)
/-- if d -/
theorem d_truth {Q : Bool → Shared → Prop} (I : Inv X pins σ H s) (e : Rd H a (.dK kvs)) (h : ∀ s', Inv X pins σ H s' → Q (!kvs.isEmpty) s') : wpAny (model X.prog X.w) A (truthy (.ref a)) Q E s := by
  obtain ⟨z, hd, vs, rel, dd⟩ := dk_rd I.hok e
  refine wpAny_truthy_dict hd dd (by rw [← rel.length]; rw [sizeLine_eq] at z; omega) ?_
  have q : kvs.isEmpty = vs.isEmpty := by cases rel <;> rfl
  rw [← q]
  exact h _ (I.tok _)
end


/-! ### readings and rules -/
/-- the element of a subscription, not a slice -/
def NoSl (i : Expr) : Prop := ∀ ov iv, subscripted i false ov iv = operate [ov, iv] (getItem ov iv)
theorem subD_of {prog : Program} {w : World} {A : Around} {E : Value → Shared → Prop} {s : Shared} {env : Env} {value slice : Expr} {pos : Pos} {T id : String} {Q : Value → Shared → Prop}
    (hl : typeLookup (.type T) "__getitem__" = pure (some (.builtin id))) (hs : NoSl slice)
    (h : wpAny (model prog w) A (eval value env) (fun o s₁ => wpAny (model prog w) A (eval slice env) (fun i s₂ => s₂.TypeIs o T ∧ wpAny (model prog w) A (getItem o i) Q E s₂) E s₁) E s) :
    wpAny (model prog w) A (eval (.Subscript value slice pos) env) Q E s := by
  refine Subscript_ (wpAny_mono h (fun o s₁ h₁ => wpAny_mono h₁ (fun i s₂ h₂ => ?_) fun _ _ x => x) fun _ _ x => x)
  obtain ⟨hT, h₂⟩ := h₂
  unfold subscriptTail
  refine wpAny_bind ?_
  rw [getitemInPython_of_ne hT.not_modules]
  refine wpAny_bind (wpAny_specialOf hT hl ?_)
  have fin : wpAny (model prog w) A (subscripted slice false o i) (fun r s₃ => wpAny (model prog w) A (letTemporaryGo value o r >>= fun _ => pure r) Q E s₃) E s₂ := by
    rw [hs o i]
    exact wpAny_operating (wpAny_mono h₂ (fun r s₃ h₃ => wpAny_bind (wpAny_letTemporaryGo (wpAny_pure h₃))) fun _ _ x => x)
  first
    | exact wpAny_pure (wpAny_bind fin)
    | exact wpAny_bind (wpAny_pure (wpAny_bind fin))
    | exact wpAny_bind fin

theorem dict_typeIs {X : Cx} {pins : List (Addr × Obj)} {σ : St} {H : Hp} {s : Shared} {a : Addr} {y : V} {o : Option V} (I : Inv X pins σ H s) (g : DGet H a y o) : s.TypeIs (.ref a) "dict" := by
  rcases g with ⟨kvs, k, e, _, _⟩ | ⟨kvs, k, b, e, _, _, _⟩
  · obtain ⟨_, _, vs, _, dd⟩ := dk_rd I.hok e
    exact dd.typeIs
  · obtain ⟨_, _, xs, _, dd⟩ := dt_rd I.hok e
    exact dd.typeIs
theorem dict_noDict {X : Cx} {pins : List (Addr × Obj)} {σ : St} {H : Hp} {s : Shared} {a : Addr} {y : V} {o : Option V} (I : Inv X pins σ H s) (g : DGet H a y o) :
    ∀ b, Value.ref a = .ref b → ∃ ob, s.heap.get? b = some ob ∧ ob.dict = none := fun b q => by
  cases q
  rcases g with ⟨kvs, k, e, _, _⟩ | ⟨kvs, k, b, e, _, _, _⟩
  · obtain ⟨_, _, vs, _, ob, _, _, h1, h2, _⟩ := dk_rd I.hok e
    exact ⟨ob, h1, h2.2.1⟩
  · obtain ⟨_, _, xs, _, ob, _, _, h1, h2, _⟩ := dt_rd I.hok e
    exact ⟨ob, h1, h2.2.1⟩

/-- d[y] -/
def tDGet (td ty : TE) : TE := fun σ H Q => td σ H fun x H1 => ty σ H1 fun y H2 => ∃ a v, x = .ref a ∧ DGet H2 a y (some v) ∧ Q v H2
/-- y in d, y not in d -/
def tDIn (ty td : TE) : TE := fun σ H Q => ty σ H fun y H1 => td σ H1 fun x H2 => ∃ a o, x = .ref a ∧ DGet H2 a y o ∧ Q (.bl o.isSome) H2
def tDNotIn (ty td : TE) : TE := fun σ H Q => ty σ H fun y H1 => td σ H1 fun x H2 => ∃ a o, x = .ref a ∧ DGet H2 a y o ∧ Q (.bl (!o.isSome)) H2
/-- d[y] = v -/
def sDPut (td ty tv : TE) : TS := fun D σ H => tv σ H fun v H1 => td σ H1 fun x H2 => ty σ H2 fun y H3 => ∃ a H4, x = .ref a ∧ DPut H3 a y v H4 ∧ D.nx σ H4
/-- d[y] op= v -/
def sDAug (td ty tv : TE) (rd : V → V → Hp → VK → Prop) : TS := fun D σ H => td σ H fun x H1 => ty σ H1 fun y H2 => ∃ a v, x = .ref a ∧ DGet H2 a y (some v) ∧
  tv σ H2 fun y2 H3 => rd v y2 H3 fun z H4 => ∃ H5, DPut H4 a y z H5 ∧ D.nx σ H5
/-- del d[y] -/
def sDDel (td ty : TE) : TS := fun D σ H => td σ H fun x H1 => ty σ H1 fun y H2 => ∃ a kvs k, x = .ref a ∧ H2 a = some (.dK kvs) ∧ y = kV k ∧ (valV kvs k).isSome = true ∧ D.nx σ (upd H2 a (.dK (dropK kvs k)))

section
variable {X : Cx} {o i e value : Expr} {pos pos' tpos : Pos} {td ty tv : TE}
theorem pe_dget (hu : X.A.units + 1 < cLine) (ho : PE X o td) (hi : PE X i ty) (hs : NoSl i) : PE X (.Subscript o i pos) (tDGet td ty) := by
  intro pins s σ H Q I h
  refine subD_of PySem.F.slot_dict_getitem.lookup hs (thn (ho pins s σ H _ I h) fun u s1 ⟨x, H1, I1, rx, q1⟩ => thn (hi pins s1 σ H1 _ I1 q1) fun iv s2 ⟨y, H2, I2, ry, a, v, ex, g, q2⟩ => ?_)
  subst ex
  obtain rfl : u = Value.ref a := rx
  exact ⟨dict_typeIs I2 g, d_getItem hu I2 g ry fun w' s3 I3 rw' => ⟨v, H2, I3, rw', q2⟩⟩
theorem pc_din (hu : X.A.units + 1 < cLine) (hi : PE X i ty) (ho : PE X o td) : PC X .In i o (tDIn ty td) := by
  intro pins s σ H Q I h
  refine thn (hi pins s σ H _ I h) fun iv s1 ⟨y, H1, I1, ry, q1⟩ => thn (ho pins s1 σ H1 _ I1 q1) fun u s2 ⟨x, H2, I2, rx, a, ov, ex, g, q2⟩ => ?_
  subst ex
  obtain rfl : u = Value.ref a := rx
  exact d_in hu I2 g ry fun s3 I3 => ⟨.bl ov.isSome, H2, I3, rfl, q2⟩
theorem pc_dnotin (hu : X.A.units + 1 < cLine) (hi : PE X i ty) (ho : PE X o td) : PC X .NotIn i o (tDNotIn ty td) := by
  intro pins s σ H Q I h
  refine thn (hi pins s σ H _ I h) fun iv s1 ⟨y, H1, I1, ry, q1⟩ => thn (ho pins s1 σ H1 _ I1 q1) fun u s2 ⟨x, H2, I2, rx, a, ov, ex, g, q2⟩ => ?_
  subst ex
  obtain rfl : u = Value.ref a := rx
  exact d_notIn hu I2 g ry fun s3 I3 => ⟨.bl (!ov.isSome), H2, I3, rfl, q2⟩
theorem ps_dput (hu : X.A.units + 1 < cLine) (ho : PE X o td) (hi : PE X i ty) (hv : PE X value tv) (hs : swapsWith value (some (.Subscript o i pos')) pos.line X.env = pure false) :
    PS X (.Assign [.Subscript o i pos'] value pos) (sDPut td ty tv) := by
  intro pins s σ H D I h
  refine wpAny_Assign_Subscript (thn (hv pins s σ H _ I h) fun r s1 ⟨v, H1, I1, rv, q1⟩ => thn (ho pins s1 σ H1 _ I1 q1) fun u s2 ⟨x, H2, I2, rx, q2⟩ => thn (hi pins s2 σ H2 _ I2 q2) fun iv s3 ⟨y, H3, I3, ry, a, H4, ex, g, q3⟩ => ?_) hs
  subst ex
  obtain rfl : u = Value.ref a := rx
  exact d_setItem hu I3 g ry rv fun s4 I4 => ⟨σ, H4, I4, q3⟩
theorem ps_daug {op : Operator} {rd : V → V → Hp → VK → Prop} (hu : X.A.units + 1 < cLine) (ho : PE X o td) (hi : PE X i ty) (hv : PE X value tv) (hop : InOp X op rd)
    (ha : ∀ ov iv new, augStore i ov iv new = (do holding [new, ov, iv] (setItem ov iv new); release [new, ov, iv] []; pure .next)) : PS X (.AugAssign (.Subscript o i tpos) op value pos) (sDAug td ty tv rd) := by
  intro pins s σ H D I h
  refine wpAny_AugAssign_SubscriptAny (thn (ho pins s σ H _ I h) fun u s1 ⟨x, H1, I1, rx, q1⟩ => thn (hi pins s1 σ H1 _ I1 q1) fun iv s2 ⟨y, H2, I2, ry, a, v, ex, g, q2⟩ => ?_) ha
  subst ex
  obtain rfl : u = Value.ref a := rx
  refine d_getItem hu I2 g ry fun w' s3 I3 rw' => thn (hv pins s3 σ H2 _ I3 q2) fun w2 s4 ⟨y2, H3, I4, ry2, q3⟩ => thn (hop pins s4 σ H3 v y2 w' w2 _ I4 rw' ry2 q3) fun w3 s5 ⟨z, H4, I5, rz, H5, g5, q4⟩ => ?_
  exact d_setItem hu I5 g5 ry rz fun s6 I6 => ⟨σ, H5, I6, q4⟩
theorem ps_ddel (ho : PE X o td) (hi : PE X i ty) : PS X (.Delete [.Subscript o i tpos] pos) (sDDel td ty) := by
  intro pins s σ H D I h
  refine wpAny_Delete (wpAny_deleteEach_cons (wpAny_delete_Subscript (thn (ho pins s σ H _ I h) fun u s1 ⟨x, H1, I1, rx, q1⟩ => thn (hi pins s1 σ H1 _ I1 q1) fun iv s2 ⟨y, H2, I2, ry, a, kvs, k, ex, e, ey, l, q2⟩ => ?_)))
  subst ex ey
  obtain rfl : u = Value.ref a := rx
  exact d_delItem I2 e ry l fun s3 I3 => wpAny_deleteEach_nil ⟨σ, _, I3, q2⟩
end


/-! ### displays -/
theorem dk_empty {P : Program} {w : World} {H : Hp} (h : Heap) (hb : sysModules < h.objs.size) : ObjOk P w H (h.push { cls := .type "dict", data := .dict #[] }) h.objs.size (.dK []) :=
  ⟨Nat.zero_le _, beq_eq_false_iff_ne.mpr (Ne.symm (Nat.ne_of_lt hb)), [], .nil, Heap.DictOf.new h⟩
theorem dt_empty {P : Program} {w : World} {H : Hp} (h : Heap) (hb : sysModules < h.objs.size) : ObjOk P w H (h.push { cls := .type "dict", data := .dict #[] }) h.objs.size (.dT []) :=
  ⟨Nat.zero_le _, beq_eq_false_iff_ne.mpr (Ne.symm (Nat.ne_of_lt hb)), [], .nil, _, #[], 0, Heap.get?_push_size _ rfl, ⟨rfl, rfl, rfl⟩, rfl, rfl, List.nodup_nil⟩
/-- {}, to be a dict of the kind that is wanted -/
def tDNewK : TE := fun _ H Q => ∀ p, H p = none → Q (.ref p) (upd H p (.dK []))
def tDNewT : TE := fun _ H Q => ∀ p, H p = none → Q (.ref p) (upd H p (.dT []))
section
variable {X : Cx} {pos : Pos}
theorem pe_dnewK : PE X (.Dict [] [] pos) tDNewK := fun pins s σ H Q I h =>
  wpAny_Dict_empty ⟨.ref s.heap.objs.size, _, I.laid (a := s.heap.objs.size) (o := .dK []) (t' := s.toks) (fun _ _ q => Heap.get?_push_of_some _ q) (Nat.le_refl _) (dk_empty s.heap I.big), rfl, h _ (I.hok.fresh (Nat.le_refl _))⟩
theorem pe_dnewT : PE X (.Dict [] [] pos) tDNewT := fun pins s σ H Q I h =>
  wpAny_Dict_empty ⟨.ref s.heap.objs.size, _, I.laid (a := s.heap.objs.size) (o := .dT []) (t' := s.toks) (fun _ _ q => Heap.get?_push_of_some _ q) (Nat.le_refl _) (dt_empty s.heap I.big), rfl, h _ (I.hok.fresh (Nat.le_refl _))⟩
end

/-- the pairs of a display, from the left -/
def tPairs : List (TE × TE) → St → Hp → (List (V × V) → Hp → Prop) → Prop
  | [], _, H, Q => Q [] H
  | (tk, tv) :: r, σ, H, Q => tk σ H fun x H1 => tv σ H1 fun y H2 => tPairs r σ H2 fun ps H3 => Q ((x, y) :: ps) H3
abbrev VV : List (V × V) → List (Value × Value) → Prop := Paired fun p q => RelV p.1 q.1 ∧ RelV p.2 q.2
def PPs (X : Cx) (pos : Pos) (keys : List (Option Expr)) (values : List Expr) (trs : List (TE × TE)) : Prop :=
  ∀ (pins : List (Addr × Obj)) (s : Shared) (σ : St) (H : Hp) (Q : List (V × V) → Hp → Prop), Inv X pins σ H s → tPairs trs σ H Q →
    wpAny (model X.prog X.w) X.A (evalPairs (pairTrees keys values X.env pos)) (fun vs s' => ∃ ps H', Inv X pins σ H' s' ∧ VV ps vs ∧ Q ps H') X.xe s
theorem pps_nil {X : Cx} {pos : Pos} : PPs X pos [] [] [] := fun pins s σ H Q I h => pairTrees_nil_walk ⟨[], H, I, .nil, h⟩
theorem pps_cons {X : Cx} {pos : Pos} {k v : Expr} {ks : List (Option Expr)} {vs : List Expr} {tk tv : TE} {trs : List (TE × TE)} (hk : PE X k tk) (hv : PE X v tv) (hr : PPs X pos ks vs trs) :
    PPs X pos (some k :: ks) (v :: vs) ((tk, tv) :: trs) := fun pins s σ H Q I h =>
  pairTrees_cons_walk (thn (hk pins s σ H _ I h) fun u s1 ⟨x, H1, I1, rx, q1⟩ => thn (hv pins s1 σ H1 _ I1 q1) fun w2 s2 ⟨y, H2, I2, ry, q2⟩ =>
    thn (hr pins s2 σ H2 _ I2 q2) fun ws s3 ⟨ps, H3, I3, rel, q3⟩ => ⟨(x, y) :: ps, H3, I3, .cons ⟨rx, ry⟩ rel, q3⟩)

def mergeK (kvs more : List (Key × V)) : List (Key × V) := more.foldl (fun acc kv => putK acc kv.1 kv.2) kvs
theorem KV.merge : ∀ {more : List (Key × V)} {rs : List (Key × Value)} {kvs : List (Key × V)} {vs : List (Key × Value)}, KV more rs → KV kvs vs → KV (mergeK kvs more) (merged vs rs) := by
  intro more rs kvs vs r
  unfold KV at r
  induction r generalizing kvs vs with
  | nil => intro q; exact q
  | @cons p q ps qs h t ih =>
    intro r0
    have e : KV (putK kvs p.1 p.2) (stored vs q.1 q.2) := by
      have := r0.put p.1 h.2
      rw [← h.1]; exact this
    exact ih e
theorem length_mergeK : ∀ (more kvs : List (Key × V)), (mergeK kvs more).length ≤ kvs.length + more.length
  | [], kvs => by show kvs.length ≤ kvs.length + 0; omega
  | p :: r, kvs => by
    have h1 := length_mergeK r (putK kvs p.1 p.2)
    have h2 := length_putK kvs p.1 p.2
    show (mergeK (putK kvs p.1 p.2) r).length ≤ _
    rw [List.length_cons]; omega
theorem carries_of {P : Program} {w : World} : ∀ {kvs : List (Key × V)} {ws : List (Value × Value)}, VV (kvs.map fun kv => (kV kv.1, kv.2)) ws → ∃ rs, Carries (mixKind P w) ws rs ∧ KV kvs rs
  | [], _, r => by rw [List.map_nil] at r; cases r; exact ⟨[], True.intro, .nil⟩
  | p :: kvs, _, r => by
    rw [List.map_cons] at r
    cases r with
    | @cons a b as bs h t =>
      obtain ⟨rs, c, q⟩ := carries_of (P := P) (w := w) t
      obtain ⟨b1, b2⟩ := b
      exact ⟨(p.1, b2) :: rs, ⟨kV_is h.1, rfl, c⟩, .cons ⟨rfl, h.2⟩ q⟩
/-- {k: v, ..} with keys ints and texts; the new dict stands empty while the pairs are made -/
def tDisp (trs : List (TE × TE)) : TE := fun σ H Q => ∀ p, H p = none → tPairs trs σ (upd H p (.dK [])) fun ps H2 => H2 p = some (.dK []) ∧ ∃ kvs : List (Key × V), ps = kvs.map (fun kv => (kV kv.1, kv.2)) ∧ kvs.length ≤ 15 ∧ Q (.ref p) (upd H2 p (.dK (mergeK [] kvs)))
theorem pe_disp {X : Cx} {pos : Pos} {keys : List (Option Expr)} {values : List Expr} {trs : List (TE × TE)} (h : PPs X pos keys values trs) (hall : keys.all (·.isSome) = true) (hl : keys.length = values.length) (h0 : keys ≠ [])
    (h15 : keys.length ≤ 15) : PE X (.Dict keys values pos) (tDisp trs) := by
  intro pins s σ H Q I q
  have hn := I.hok.fresh (Nat.le_refl s.heap.objs.size)
  have I1 := I.laid (a := s.heap.objs.size) (o := .dK []) (h' := s.heap.push { cls := .type "dict", data := .dict #[] }) (t' := s.toks) (fun _ _ q => Heap.get?_push_of_some _ q) (Nat.le_refl _) (dk_empty s.heap I.big)
  refine wpAny_Dict_walk (knd := mixKind X.prog X.w) hall hl h0 h15 (thn (h pins _ σ _ _ I1 (q _ hn)) fun ws s2 ⟨ps, H2, I2, rel, e, kvs, ep, lk, q2⟩ => ?_)
  subst ep
  obtain ⟨rs, c, rk⟩ := carries_of (P := X.prog) (w := X.w) rel
  obtain ⟨z, hd, vs0, r0, dd⟩ := dk_of I2.hok e
  cases r0
  refine ⟨rs, c, dd, fun h' dd' hs => ⟨.ref s.heap.objs.size, _, ?_, rfl, q2⟩⟩
  have hz : (mergeK [] kvs).length ≤ sizeLine := by
    have h1 := length_mergeK kvs []
    rw [List.length_nil] at h1
    rw [sizeLine_eq]; omega
  have he : ∃ q, h'.get? s.heap.objs.size = some q := let ⟨q, _, _, hq, _⟩ := dd'; ⟨q, hq⟩
  exact d_write I2 (by rw [e]; exact True.intro) hs he (dk_new hz hd (rk.merge .nil) dd')


/-! ### methods -/
/-- a method call o.m(e) of a built-in, with one argument: what must be seen of the text -/
structure M1 (X : Cx) (o : Expr) (m : Str) (apos : Pos) (e : Expr) (cpos : Pos) : Prop where
  base : attributeBase o m X.env (eval o X.env) = eval o X.env
  few : ((backTo cpos (starEach [e] X.env)).all (fun x => !x.1) && (backToKw cpos (keywordEach [] X.env)).all (fun x => x.1.isSome)
    && decide (([e] : List Expr).length + ([] : List Keyword).length + (if ([] : List Keyword).isEmpty then 0 else 1) < 30)) = true
  line : (apos.endLine == cpos.line) = true
  trees : backTo cpos (starEach [e] X.env) = [(false, eval e X.env)]
structure M2 (X : Cx) (o : Expr) (m : Str) (apos : Pos) (e f : Expr) (cpos : Pos) : Prop where
  base : attributeBase o m X.env (eval o X.env) = eval o X.env
  few : ((backTo cpos (starEach [e, f] X.env)).all (fun x => !x.1) && (backToKw cpos (keywordEach [] X.env)).all (fun x => x.1.isSome)
    && decide (([e, f] : List Expr).length + ([] : List Keyword).length + (if ([] : List Keyword).isEmpty then 0 else 1) < 30)) = true
  line : (apos.endLine == cpos.line) = true
  trees : backTo cpos (starEach [e, f] X.env) = [(false, eval e X.env), (false, eval f X.env)]

/-- a is a dict, whatever its keys -/
def IsD (H : Hp) (a : Addr) : Prop := (∃ kvs, Rd H a (.dK kvs)) ∨ ∃ kvs, Rd H a (.dT kvs)
theorem isD_at {X : Cx} {pins : List (Addr × Obj)} {σ : St} {H : Hp} {s : Shared} {a : Addr} (I : Inv X pins σ H s) (d : IsD H a) :
    s.TypeIs (.ref a) "dict" ∧ (∀ b, Value.ref a = .ref b → ∃ ob, s.heap.get? b = some ob ∧ ob.dict = none) ∧ (a == sysModules) = false := by
  rcases d with ⟨kvs, e⟩ | ⟨kvs, e⟩
  · obtain ⟨_, hd, vs, _, dd⟩ := dk_rd I.hok e
    refine ⟨dd.typeIs, fun b q => ?_, hd⟩
    cases q
    obtain ⟨ob, _, _, h1, h2, _⟩ := dd
    exact ⟨ob, h1, h2.2.1⟩
  · obtain ⟨_, hd, xs, _, dd⟩ := dt_rd I.hok e
    refine ⟨dd.typeIs, fun b q => ?_, hd⟩
    cases q
    obtain ⟨ob, _, _, h1, h2, _⟩ := dd
    exact ⟨ob, h1, h2.2.1⟩

section
variable {X : Cx} {pins : List (Addr × Obj)} {σ : St} {H : Hp} {s : Shared} {a : Addr} {y d : V} {u r : Value} {o : Option V} {A : Around} {E : Value → Shared → Prop}
/-- d.get(y) -/
theorem d_get1 {Q : Value → Shared → Prop} (hu : A.units + 1 < cLine) (I : Inv X pins σ H s) (g : DGet H a y o) (ry : RelV y u) (h : ∀ w' s', Inv X pins σ H s' → RelV (o.getD .non) w' → Q w' s') :
    wpAny (model X.prog X.w) A (call (.builtin "dict.get") [.ref a, u]) Q E s := by
  rcases g with ⟨kvs, k, e, ey, l⟩ | ⟨kvs, k, b, e, ey, eb, l⟩
  · subst ey
    obtain ⟨z, hd, vs, rel, dd⟩ := dk_rd I.hok e
    refine call_meetsIn PySem.F.slot_dict_get dd.typeIs PySem.F.entry_dict_get (PySem.F.args_dict_get_2 _ _) (meets_dict_get (mixKind X.prog X.w) a (kV_is ry) hd) ⟨_, dd.mapOf, h _ _ (I.tok _) ?_⟩
    rw [l]
    exact (rel.val k).getD rfl
  · subst ey
    cases (show u = Value.ref b from ry)
    obtain ⟨z, hd, xs, rel, dd⟩ := dt_rd I.hok e
    refine call_meetsIn PySem.F.slot_dict_get dd.typeIs PySem.F.entry_dict_get (PySem.F.args_dict_get_2 _ _) (meetsH_dict_get (tupleKind (mixKind X.prog X.w)) a b hd) ⟨tupleKind_room_in1 hu, k, xs, key_of I.hok eb, dd, h _ _ (I.tok _) ?_⟩
    rw [l]
    exact (rel.val k).getD rfl
/-- d.get(y, x) -/
theorem d_get2 {Q : Value → Shared → Prop} (hu : A.units + 1 < cLine) (I : Inv X pins σ H s) (g : DGet H a y o) (ry : RelV y u) (rd : RelV d r) (h : ∀ w' s', Inv X pins σ H s' → RelV (o.getD d) w' → Q w' s') :
    wpAny (model X.prog X.w) A (call (.builtin "dict.get") [.ref a, u, r]) Q E s := by
  rcases g with ⟨kvs, k, e, ey, l⟩ | ⟨kvs, k, b, e, ey, eb, l⟩
  · subst ey
    obtain ⟨z, hd, vs, rel, dd⟩ := dk_rd I.hok e
    refine call_meetsIn PySem.F.slot_dict_get dd.typeIs PySem.F.entry_dict_get (PySem.F.args_dict_get_3 _ _ _) (meets_dict_get_default (mixKind X.prog X.w) a (kV_is ry) hd r) ⟨_, dd.mapOf, h _ _ (I.tok _) ?_⟩
    rw [l]
    exact (rel.val k).getD rd
  · subst ey
    cases (show u = Value.ref b from ry)
    obtain ⟨z, hd, xs, rel, dd⟩ := dt_rd I.hok e
    refine call_meetsIn PySem.F.slot_dict_get dd.typeIs PySem.F.entry_dict_get (PySem.F.args_dict_get_3 _ _ _) (meetsH_dict_get_default (tupleKind (mixKind X.prog X.w)) a b hd r) ⟨tupleKind_room_in1 hu, k, xs, key_of I.hok eb, dd, h _ _ (I.tok _) ?_⟩
    rw [l]
    exact (rel.val k).getD rd
end

def tDGet1 (td ty : TE) : TE := fun σ H Q => td σ H fun x H1 => ∃ a, x = .ref a ∧ IsD H1 a ∧ ty σ H1 fun y H2 => ∃ o, DGet H2 a y o ∧ Q (o.getD .non) H2
def tDGet2 (td ty tx : TE) : TE := fun σ H Q => td σ H fun x H1 => ∃ a, x = .ref a ∧ IsD H1 a ∧ ty σ H1 fun y H2 => tx σ H2 fun z H3 => ∃ o, DGet H3 a y o ∧ Q (o.getD z) H3
/-- d.pop(k): there; d.pop(k, x): there or not -/
def tDPop1 (td ty : TE) : TE := fun σ H Q => td σ H fun x H1 => ∃ a, x = .ref a ∧ IsD H1 a ∧ ty σ H1 fun y H2 => ∃ kvs k v, H2 a = some (.dK kvs) ∧ y = kV k ∧ valV kvs k = some v ∧ Q v (upd H2 a (.dK (dropK kvs k)))
def tDPop2 (td ty tx : TE) : TE := fun σ H Q => td σ H fun x H1 => ∃ a, x = .ref a ∧ IsD H1 a ∧ ty σ H1 fun y H2 => tx σ H2 fun z H3 => ∃ kvs k, H3 a = some (.dK kvs) ∧ y = kV k ∧
  (∀ v, valV kvs k = some v → Q v (upd H3 a (.dK (dropK kvs k)))) ∧ (valV kvs k = none → Q z H3)
section
variable {X : Cx} {o e f : Expr} {apos cpos : Pos} {td ty tx : TE}
theorem pe_dget1 (hu : X.A.units + 1 < cLine) (ho : PE X o td) (he : PE X e ty) (m : M1 X o "get" apos e cpos) : PE X (.Call (.Attribute o "get" apos) [e] [] cpos) (tDGet1 td ty) := by
  intro pins s σ H Q I h
  refine wpAny_Call_method m.base m.few m.line PySem.F.plainAttrs_dict PySem.F.slot_dict_get PySem.F.type_dict_get (thn (ho pins s σ H _ I h) fun u s1 ⟨x, H1, I1, rx, a, ex, d, q1⟩ => ?_)
  subst ex
  obtain rfl : u = Value.ref a := rx
  obtain ⟨t1, t2, _⟩ := isD_at I1 d
  refine ⟨t1, t2, ?_⟩
  rw [m.trees]
  refine Calls.callWith_builtin rfl (Calls.evalArgs_plain (Calls.spliced_cons (thn (he pins s1 σ H1 _ I1 q1) fun iv s2 ⟨y, H2, I2, ry, ov, g, q2⟩ => Calls.spliced_nil ?_)))
  exact d_get1 hu I2 g ry fun w' s3 I3 rw' => ⟨_, H2, I3, rw', q2⟩
theorem pe_dget2 (hu : X.A.units + 1 < cLine) (ho : PE X o td) (he : PE X e ty) (hf : PE X f tx) (m : M2 X o "get" apos e f cpos) : PE X (.Call (.Attribute o "get" apos) [e, f] [] cpos) (tDGet2 td ty tx) := by
  intro pins s σ H Q I h
  refine wpAny_Call_method m.base m.few m.line PySem.F.plainAttrs_dict PySem.F.slot_dict_get PySem.F.type_dict_get (thn (ho pins s σ H _ I h) fun u s1 ⟨x, H1, I1, rx, a, ex, d, q1⟩ => ?_)
  subst ex
  obtain rfl : u = Value.ref a := rx
  obtain ⟨t1, t2, _⟩ := isD_at I1 d
  refine ⟨t1, t2, ?_⟩
  rw [m.trees]
  refine Calls.callWith_builtin rfl (Calls.evalArgs_plain (Calls.spliced_cons (thn (he pins s1 σ H1 _ I1 q1) fun iv s2 ⟨y, H2, I2, ry, q2⟩ =>
    Calls.spliced_cons (thn (hf pins s2 σ H2 _ I2 q2) fun fv s3 ⟨z, H3, I3, rz, ov, g, q3⟩ => Calls.spliced_nil ?_))))
  exact d_get2 hu I3 g ry rz fun w' s4 I4 rw' => ⟨_, H3, I4, rw', q3⟩
theorem pe_dpop1 (ho : PE X o td) (he : PE X e ty) (m : M1 X o "pop" apos e cpos) : PE X (.Call (.Attribute o "pop" apos) [e] [] cpos) (tDPop1 td ty) := by
  intro pins s σ H Q I h
  refine wpAny_Call_method m.base m.few m.line PySem.F.plainAttrs_dict PySem.F.slot_dict_pop PySem.F.type_dict_pop (thn (ho pins s σ H _ I h) fun u s1 ⟨x, H1, I1, rx, a, ex, d, q1⟩ => ?_)
  subst ex
  obtain rfl : u = Value.ref a := rx
  obtain ⟨t1, t2, _⟩ := isD_at I1 d
  refine ⟨t1, t2, ?_⟩
  rw [m.trees]
  refine Calls.callWith_builtin rfl (Calls.evalArgs_plain (Calls.spliced_cons (thn (he pins s1 σ H1 _ I1 q1) fun iv s2 ⟨y, H2, I2, ry, kvs, k, v, ea, ey, l, q2⟩ => Calls.spliced_nil ?_)))
  subst ey
  exact d_pop I2 ea ry l (.inl rfl) fun w' s3 I3 rw' => ⟨v, _, I3, rw', q2⟩
theorem pe_dpop2 (ho : PE X o td) (he : PE X e ty) (hf : PE X f tx) (m : M2 X o "pop" apos e f cpos) : PE X (.Call (.Attribute o "pop" apos) [e, f] [] cpos) (tDPop2 td ty tx) := by
  intro pins s σ H Q I h
  refine wpAny_Call_method m.base m.few m.line PySem.F.plainAttrs_dict PySem.F.slot_dict_pop PySem.F.type_dict_pop (thn (ho pins s σ H _ I h) fun u s1 ⟨x, H1, I1, rx, a, ex, d, q1⟩ => ?_)
  subst ex
  obtain rfl : u = Value.ref a := rx
  obtain ⟨t1, t2, _⟩ := isD_at I1 d
  refine ⟨t1, t2, ?_⟩
  rw [m.trees]
  refine Calls.callWith_builtin rfl (Calls.evalArgs_plain (Calls.spliced_cons (thn (he pins s1 σ H1 _ I1 q1) fun iv s2 ⟨y, H2, I2, ry, q2⟩ =>
    Calls.spliced_cons (thn (hf pins s2 σ H2 _ I2 q2) fun fv s3 ⟨z, H3, I3, rz, kvs, k, ea, ey, q3, q4⟩ => Calls.spliced_nil ?_))))
  subst ey
  cases l : valV kvs k with
  | some v => exact d_pop I3 ea ry l (.inr ⟨fv, rfl⟩) fun w' s4 I4 rw' => ⟨v, _, I4, rw', q3 v l⟩
  | none => exact d_popD I3 ea ry l fun s4 I4 => ⟨z, H3, I4, rz, q4 l⟩
end

/-! ### dict(d): a copy -/
section
variable {X : Cx} {pins : List (Addr × Obj)} {σ : St} {H : Hp} {s : Shared} {a : Addr} {kvs : List (Key × V)} {A : Around} {E : Value → Shared → Prop}
theorem d_copyOf {Q : Value → Shared → Prop} (I : Inv X pins σ H s) (e : Rd H a (.dK kvs)) (h : ∀ p s', H p = none → Inv X pins σ (upd H p (.dK kvs)) s' → Q (.ref p) s') : wpAny (model X.prog X.w) A (call (.type "dict") [.ref a]) Q E s := by
  obtain ⟨z, hd, vs, rel, dd⟩ := dk_rd I.hok e
  refine kt_call_dict hd dd (by rw [← rel.length]; exact z) fun h' dd' hs => ?_
  refine h _ _ (I.hok.fresh (Nat.le_refl _)) (I.laid (a := s.heap.objs.size) (o := .dK kvs) (t' := s.toks) (fun b q hq => ?_) (Nat.le_refl _) (dk_new z (beq_eq_false_iff_ne.mpr (Ne.symm (Nat.ne_of_lt I.big))) rel dd'))
  exact (hs.2 b (Nat.ne_of_lt (Heap.lt_size hq))).trans (Heap.get?_push_of_some _ hq)
end


section
variable {X : Cx} {pins : List (Addr × Obj)} {σ : St} {H : Hp} {s : Shared} {a : Addr} {y : V} {u : Value} {A : Around} {E : Value → Shared → Prop}
/-- d[y], not there: a KeyError -/
theorem d_missing {Q : Value → Shared → Prop} (hu : A.units + 1 < cLine) (hh : A.handled = none) (I : Inv X pins σ H s) (g : DGet H a y none) (ry : RelV y u)
    (h : ∀ h' e t', Heap.NewExc s.heap h' e "KeyError" → E (.ref e) { s with heap := h', toks := t' }) : wpAny (model X.prog X.w) A (getItem (.ref a) u) Q E s := by
  rcases g with ⟨kvs, k, e, ey, l⟩ | ⟨kvs, k, b, e, ey, eb, l⟩
  · subst ey
    obtain ⟨z, hd, vs, rel, dd⟩ := dk_rd I.hok e
    have hn : valueAt vs k = none := RelO.none_of (by rw [l]; exact rel.val k)
    exact wpAny_getItem_missing_of (kV_is ry) hd hh dd.mapOf hn fun h' ex ne => h h' ex _ ne
  · subst ey
    cases (show u = Value.ref b from ry)
    obtain ⟨z, hd, xs, rel, dd⟩ := dt_rd I.hok e
    have hn : (atKey xs k).map (·.2) = none := RelO.none_of (by rw [l]; exact rel.val k)
    exact wpAny_getItem_missing_heap (tupleKind_room_in1 hu) (key_of I.hok eb) hd hh dd (Option.map_eq_none_iff.mp hn) fun h' ex ne => h h' ex _ ne
end
end L2

namespace L2
open PySem PySem.Spec PyProof.Rows

theorem list_keys_none : typeLookup (.type "list") "keys" = pure none := am_miss_of_fast (by first | decide +kernel | rfl)
theorem ud_entry : entryFor table "dict.update.loop" = some Builtin.«dict.update.loop» := entryFor_of_tree (by kernel_rfl)
theorem ud_plain : plainId "dict.update.loop" = true := by decide +kernel

section
variable {prog : Program} {w : World} {A : Around} {E : Value → Shared → Prop}
/-- a list has no attribute 'keys': an AttributeError is made, and forgotten -/
theorem miss_list {s : Shared} {a : Addr} {o : Obj} {xs : Array Value} {k : Nat} {Q : Option Value → Shared → Prop} (hx : s.heap.get? a = some o) (hc : o.cls = .type "list") (hdat : o.data = .seq xs k) (hd : o.dict = none) (hA : A.handled = none)
    (h : ∀ h' tk, (∀ b ob, s.heap.get? b = some ob → h'.get? b = some ob) → Q none { s with heap := h', toks := tk }) : wpAny (model prog w) A (getAttr? (.ref a) "keys") Q E s := by
  obtain ⟨c, dct, dat, sl⟩ := o
  simp only at hc hdat hd
  subst hc hdat hd
  obtain ⟨hp, g, d, tk, os⟩ := s
  have hT : ∀ tk', (⟨hp, g, d, tk', os⟩ : Shared).TypeIs (.ref a) "list" := fun _ => ⟨_, hx, rfl⟩
  have hmiss := list_keys_none
  have hname : (["__module__", "__name__", "__qualname__", "__doc__", "__annotations__"] : List Str).contains "keys" = false := by decide +kernel
  have hsz : ("keys" : Str).length + 100 ≤ sizeLine := by first | size_fits | decide +kernel
  have f1 := sub_AttributeError
  have f3 := PySem.F.slot_list_getattribute.lookup
  have f4 := PySem.F.slot_list_getattribute.bind (.ref a)
  have f5 := am_list_getattr_none
  unfold getAttr? getAttrBy? getAttrBy
  repeat (any_goals (first | assumption | exact hT _ | ((with_reducible show wpAny _ _ (call (Value.builtin "list.__getattribute__") _ _) _ _ _); refine call_meets PySem.F.slot_list_getattribute (hT _) am_entry_list_getattribute (PySem.F.args_list_getattribute_2 _ _) (meets_getattribute_miss_list a xs k sl "keys" _ hmiss hname hsz) ⟨hx, hA, fun h' tk' e hx' => ?_⟩) | wp_step))
  obtain ⟨t', u', he⟩ := hx'.there
  show wpAny _ _ (getattributeRaised _ _ _ _ _ _ _) _ _ _
  unfold getattributeRaised
  repeat (any_goals (first | assumption | wp_step))
  all_goals first | exact h _ _ hx'.keeps | (dsimp only; repeat (any_goals (first | assumption | exact h _ _ hx'.keeps | wp_step)))

/-- the walk over the pairs -/
theorem upd_loop {R : Result → Shared → Prop} {S I l : Addr} {items : Array Value} {res : Value} (hh : A.handled = none) (hlI : l ≠ I) (hSI : S ≠ I) (hSl : S ≠ l) :
    ∀ (rest : List (Key × Value)) (i : Nat) (acc : List (Key × Value)) (ix : Int) (t : Tok) (s : Shared), items.size = i + rest.length → acc.length + rest.length ≤ sizeLine →
      (∀ (j : Nat) (q : Key × Value), rest[j]? = some q → ∃ (b : Addr) (u : Value), items[i + j]? = some (.ref b) ∧ b ≠ S ∧ b ≠ I ∧ IsTup s.heap b #[u, q.2] ∧ keyIs q.1 u = true) →
      s.heap.IsListIter I l i → s.heap.IsList l items → s.heap.DictOf (mixKind prog w) S acc →
      (∀ h' tk, h'.DictOf (mixKind prog w) S (merged acc rest) → (∀ b o, b ≠ S → b ≠ I → s.heap.get? b = some o → h'.get? b = some o) → R (.ok (.ret res)) { s with heap := h', toks := tk }) →
      codeAny (model prog w) A (.builtin "dict.update.loop" ⟨[.ref S, .ref I, .int ix t, res], []⟩) R s
  | [], i, acc, ix, t, s, hsz, hln, ht, hit, hl, hm, hR => by
    refine codeAny_builtin ud_entry ?_
    rw [Around.under_plainId ud_plain _]
    show wpAny _ A.in1 (pyNext (.ref I) >>= _) _ _ s
    refine wpAny_bind (wpAny_pyNext_list_end (A := A.in1) hh hit hl (by first | exact Array.getElem?_eq_none (Nat.le_of_eq hsz) | (simp at hsz; simp; omega)) fun h' he => ?_)
    show wpAny _ A.in1 (Builtin.Dict.addKeywords S [] >>= _) _ _ _
    refine wpAny_bind (wpAny_pure (wpAny_pure ?_))
    exact hR h' s.toks (hm.extBut he hSI) fun b o _ hb e => he b o hb e
  | q :: rest, i, acc, ix, t, s, hsz, hln, ht, hit, hl, hm, hR => by
    obtain ⟨b, u, hb, hbS, hbI, htup, hk⟩ := ht 0 q rfl
    rw [List.length_cons] at hsz hln
    refine codeAny_builtin ud_entry ?_
    rw [Around.under_plainId ud_plain _]
    show wpAny _ A.in1 (pyNext (.ref I) >>= _) _ _ s
    refine wpAny_bind (wpAny_pyNext_list_item (x := .ref b) hit hl (by simpa using hb) fun h1 hit1 hs1 => ?_)
    have ht1 : IsTup h1 b #[u, q.2] := htup.extBut hs1.extBut hbI
    have hl1 : h1.IsList l items := hl.extBut hs1.extBut hlI
    have hm1 : h1.DictOf (mixKind prog w) S acc := hm.extBut hs1.extBut hSI
    obtain ⟨o, ho, hc, n, hd⟩ := id ht1
    show wpAny _ A.in1 (holding [Value.ref b] _ >>= _) _ _ _
    refine wpAny_bind (wpAny_holding ?_)
    refine wpAny_bind (wpAny_tryCatch ?_)
    unfold Builtin.Dict.pairItems
    refine wpAny_bind (wpAny_typeOf (T := "tuple") ⟨o, ho, hc⟩ ?_)
    rw [if_pos (by first | decide | rfl | simp)]
    refine wpAny_bind (wpAny_seqItems ho hd (wpAny_pure ?_))
    show wpAny _ A.in1 (holding [u, q.2] (dictSet S u q.2)) _ _ _
    refine wpAny_holding (wpAny_dictSet_pairs (knd := mixKind prog w) (k := q.1) hk hm1 (fun h2 hm2 hs2 => ?_) (by omega))
    refine wpAny_pure ⟨plainId_quiet ud_plain _, upd_loop (items := items) hh hlI hSI hSl rest (i + 1) (stored acc q.1 q.2) (ix + 1) 0 _ (show items.size = i + 1 + rest.length by omega) ?_ (fun j q' e => ?_) ?_ ?_ hm2 fun h' tk hd' k => ?_⟩
    · have z := stored_length_le acc q.1 q.2
      omega
    · obtain ⟨b', u', hb', hbS', hbI', htup', hk'⟩ := ht (j + 1) q' (by simpa using e)
      refine ⟨b', u', ?_, hbS', hbI', (htup'.extBut hs1.extBut hbI').extBut hs2.extBut hbS', hk'⟩
      rw [show i + 1 + j = i + (j + 1) by omega]
      exact hb'
    · exact hit1.at fun o' e => hs2.extBut I o' (Ne.symm hSI) e
    · exact hl1.extBut hs2.extBut (Ne.symm hSl)
    · exact hR h' tk hd' fun c oc h3 h4 e => k c oc h3 h4 (hs2.extBut c oc h3 (hs1.extBut c oc h4 e))

/-- dict(l) of a list of pairs -/
theorem call_dict_pairs {s : Shared} {l : Addr} {ol : Obj} {items : Array Value} {n : Nat} {prs : List (Key × Value)} {Q : Value → Shared → Prop} (hh : A.handled = none) (hl : s.heap.get? l = some ol) (hc : ol.cls = .type "list") (hd : ol.dict = none)
    (hdat : ol.data = .seq items n) (hsz : items.size = prs.length) (hln : prs.length ≤ sizeLine)
    (ht : ∀ (j : Nat) (q : Key × Value), prs[j]? = some q → ∃ (b : Addr) (u : Value), items[j]? = some (.ref b) ∧ IsTup s.heap b #[u, q.2] ∧ keyIs q.1 u = true)
    (h : ∀ h' tk, h'.DictOf (mixKind prog w) s.heap.objs.size (merged [] prs) → (∀ b o, s.heap.get? b = some o → h'.get? b = some o) → Q (.ref s.heap.objs.size) { s with heap := h', toks := tk }) :
    wpAny (model prog w) A (call (.type "dict") [.ref l]) Q E s := by
  refine callType_codes (Q₁ := fun obj s₁ => obj = .ref s.heap.objs.size ∧ s₁ = { s with heap := s.heap.push { cls := .type "dict", data := .dict #[] } }) PySem.F.kt_called_dict (PySem.F.kt_typeCall_dict_1 _) PySem.F.entry_dict_init (kt_code_dict_new _ ⟨rfl, rfl⟩) ?_
  rintro obj s₁ ⟨rfl, rfl⟩
  have hnew : (s.heap.push { cls := .type "dict", data := .dict #[] }).DictOf (mixKind prog w) s.heap.objs.size [] := Heap.DictOf.new s.heap
  have k0 : ∀ b o, s.heap.get? b = some o → (s.heap.push { cls := .type "dict", data := .dict #[] }).get? b = some o := fun b o e => Heap.get?_push_of_some _ e
  refine ⟨hnew.typeIs, PySem.F.args_dict_init_2 _ _, ?_⟩
  unfold Builtin.«dict.__init__»
  refine wpAny_bind ?_
  unfold Builtin.Dict.selfAndRest
  refine wpAny_bind (wpAny_notOrdered_dict hnew.typeIs ?_)
  show wpAny _ _ (pure (s.heap.objs.size, [Value.ref l])) _ _ _
  refine wpAny_pure ?_
  show wpAny _ _ (Builtin.Dict.updateFrom "dict.__init__" s.heap.objs.size (.ref l) [] .none) _ _ _
  unfold Builtin.Dict.updateFrom
  refine wpAny_bind (wpAny_typeOf (T := "list") ⟨ol, k0 _ _ hl, hc⟩ ?_)
  rw [if_pos (by first | decide | rfl | simp)]
  refine wpAny_bind (miss_list (k0 _ _ hl) hc hdat hd hh fun h1 tk1 hk1 => ?_)
  rw [if_pos (show (none : Option Value).isNone = true from rfl)]
  refine wpAny_bind (wpAny_rule ?_)
  have hl1 : h1.IsList l items := ⟨ol, hk1 _ _ (k0 _ _ hl), hc, n, hdat⟩
  have hS1 : s.heap.objs.size < h1.objs.size := by
    have e : (s.heap.push { cls := .type "dict", data := .dict #[] }).get? s.heap.objs.size = some { cls := .type "dict", data := .dict #[] } := Heap.get?_push_size _ rfl
    exact Heap.lt_size (hk1 _ _ e)
  refine wpAny_bind (wpAny_pyIter_list hl1 ?_)
  have k2 : ∀ b o, h1.get? b = some o → (h1.push { cls := .type "list_iterator", data := .fields #[.ref l, .int 0 0] }).get? b = some o := fun b o e => Heap.get?_push_of_some _ e
  have hlt : l < s.heap.objs.size := Heap.lt_size hl
  have key := upd_loop (prog := prog) (w := w) (A := A.in1) (R := wants (fun r s₂ => r = .none ∧ Q (.ref s.heap.objs.size) s₂) E) (S := s.heap.objs.size) (I := h1.objs.size) (l := l) (items := items) (res := Value.none) hh
    (Nat.ne_of_lt (Nat.lt_trans hlt hS1)) (Nat.ne_of_lt hS1) (Nat.ne_of_gt hlt) prs 0 [] 0 0
    { s with heap := h1.push { cls := .type "list_iterator", data := .fields #[.ref l, .int 0 0] }, toks := tk1 } (by rw [hsz, Nat.zero_add]) (by rw [List.length_nil, Nat.zero_add]; exact hln)
    (fun j q e => by
      obtain ⟨b, u, e1, e2, e3⟩ := ht j q e
      have hb : b < s.heap.objs.size := e2.lt
      exact ⟨b, u, by rw [Nat.zero_add]; exact e1, Nat.ne_of_lt hb, Nat.ne_of_lt (Nat.lt_trans hb hS1), e2.keeps fun c o z => k2 _ _ (hk1 _ _ (k0 _ _ z)), e3⟩)
    ⟨_, Heap.get?_push_size _ rfl, rfl, rfl⟩ (hl1.at fun o e => k2 _ _ e) ((hnew.at fun o e => hk1 _ _ e).at fun o e => k2 _ _ e)
    (fun h' tk hd' k => ⟨rfl, h h' tk hd' fun b o e => k b o (Nat.ne_of_lt (Heap.lt_size e)) (Nat.ne_of_lt (Nat.lt_trans (Heap.lt_size e) hS1)) (k2 _ _ (hk1 _ _ (k0 _ _ e)))⟩)
  first
    | exact wpAny_pure ⟨plainId_quiet ud_plain _, key⟩
    | exact wpAny_bind (wpAny_pure (wpAny_pure ⟨plainId_quiet ud_plain _, key⟩))
end

section
variable {X : Cx}
theorem pairs_of {pins : List (Addr × Obj)} {σ : St} {H : Hp} {s : Shared} (I : Inv X pins σ H s) : ∀ {ps : List Addr} {kvs : List (Key × V)}, Paired (fun p kv => SqT X.K H p [kV kv.1, kv.2]) ps kvs →
    ∃ prs : List (Key × Value), KV kvs prs ∧ prs.length = ps.length ∧ ∀ (j : Nat) (q : Key × Value), prs[j]? = some q → ∃ (b : Addr) (u : Value), ps[j]? = some b ∧ IsTup s.heap b #[u, q.2] ∧ keyIs q.1 u = true
  | _, _, .nil => ⟨[], .nil, rfl, fun j q e => by simp at e⟩
  | _, _, .cons (a := p) (b := kv) h t => by
    obtain ⟨prs, r, hl, hp⟩ := pairs_of I t
    obtain ⟨its, rv, ht, _⟩ := I.tuple h
    obtain ⟨u, y, ei, ru, ry⟩ := vals2 rv
    subst ei
    refine ⟨(kv.1, y) :: prs, .cons ⟨rfl, ry⟩ r, by rw [List.length_cons, List.length_cons, hl], fun j q e => ?_⟩
    cases j with
    | zero =>
      have e' : (kv.1, y) = q := Option.some.inj e
      subst e'
      exact ⟨p, u, rfl, ht, kV_is (P := X.prog) (w := X.w) ru⟩
    | succ j =>
      obtain ⟨b, u', e1, e2, e3⟩ := hp j q (by simpa using e)
      exact ⟨b, u', by simpa using e1, e2, e3⟩
theorem refs_at : ∀ {ps : List Addr} {us : List Value}, Vals (ps.map V.ref) us → us = ps.map Value.ref
  | [], us, r => by
    rw [List.map_nil] at r
    cases r
    rfl
  | p :: ps, us, r => by
    rw [List.map_cons] at r
    cases r with
    | cons h t =>
      cases h
      rw [List.map_cons, ← refs_at t]
/-- dict(xs) of a list of pairs (key, value): later pairs win, the place is the first one's -/
theorem call_dictP (hcalm : X.calm = true) : CallR X (.type "dict") (fun xs H Q => ∃ (a : Addr) (ps : List Addr) (kvs : List (Key × V)), xs = [.ref a] ∧ SqL X.K H a (ps.map V.ref) ∧ Paired (fun p kv => SqT X.K H p [kV kv.1, kv.2]) ps kvs ∧
    ∀ p, H p = none → Q (.ref p) (upd H p (.dK (mergeK [] kvs)))) := by
  intro pins s σ H xs us Q I r q
  obtain ⟨a, ps, kvs, ex, hq, hp, q⟩ := q
  subst ex
  obtain ⟨u, eu, rx⟩ := vals1 r
  subst eu
  cases rx
  obtain ⟨its, rv, pl, hz⟩ := I.list hq
  have ei := refs_at rv
  subst ei
  rw [List.length_map] at hz
  obtain ⟨prs, rel, hl, hpr⟩ := pairs_of I hp
  obtain ⟨o, n, ho, hc, hd, hdat⟩ := pl
  refine call_dict_pairs (prs := prs) (I.ok.hd hcalm) ho hc hd hdat (by simp [hl]) (by rw [hl]; exact hz) (fun j q' e => ?_) fun h' tk hd' k => ?_
  · obtain ⟨b, u, e1, e2, e3⟩ := hpr j q' e
    exact ⟨b, u, by simp [e1], e2, e3⟩
  · have hm : (s.heap.objs.size == sysModules) = false := beq_eq_false_iff_ne.mpr (Nat.ne_of_gt I.big)
    have hlen : (mergeK [] kvs).length ≤ sizeLine := by
      refine Nat.le_trans (length_mergeK kvs []) ?_
      rw [List.length_nil, Nat.zero_add, rel.length, hl]
      exact hz
    exact ⟨.ref s.heap.objs.size, upd H s.heap.objs.size (.dK (mergeK [] kvs)), I.laid (t' := tk) k (Nat.le_refl _) (show ObjOk X.prog X.w _ _ _ (.dK (mergeK [] kvs)) from ⟨hlen, hm, merged [] prs, KV.merge rel .nil, hd'⟩), rfl, q _ (I.hok.fresh (Nat.le_refl _))⟩
end
end L2

namespace L2
open PySem PySem.Spec PyProof.Rows

theorem boot_reversed5 : bootBuiltins "reversed" = some (.type "reversed") := by decide +kernel

section
variable {X : Cx} {pins : List (Addr × Obj)} {σ : St} {H : Hp} {s : Shared} {h' : Heap}
/-- several records of ours have turned -/
theorem Inv.turnedL {t' : Nat} {ch : List Addr} (I : Inv X pins σ H s) (k : ∀ b o, b ∉ ch → s.heap.get? b = some o → h'.get? b = some o) (hf : ∀ b ∈ ch, FpOk X pins H b) : Inv X pins σ H { s with heap := h', toks := t' } := by
  have nit : ∀ b u, H b = some u → b ∉ ch := fun b u e z => by
    have q := (hf b z).1
    rw [q] at e; cases e
  refine I.step (g' := s.gens) (d' := s.drawn) (ch := ch) (fun b hb => ⟨(hf b hb).2.2.2.1, (hf b hb).2.1, (hf b hb).2.2.2.2.1, (hf b hb).2.2.2.2.2⟩) (fun b o _ _ hc e _ => k b o hc e) (fun b o _ _ hc e _ => ⟨o.slots, k b o hc e⟩)
    (fun _ _ _ _ n => n) (fun b o hc e => ⟨o, k b o hc e⟩) (fun _ _ e => e) (fun _ _ _ e => e) (fun b ps e => ⟨#[], by rw [e]; simp⟩) (fun m hm => ?_) (fun b u e => ?_) I.bare
  · obtain ⟨o, es, ep, ho, r⟩ := hm
    exact ⟨o, es, ep, k _ o (fun z => (hf _ z).2.1 rfl) ho, r⟩
  · refine (I.hok b u e).stay (fun c v hc q => k c v ?_ q) (fun _ q => q) fun _ _ q => q
    rcases hc with z | z
    · rw [z]; exact nit b u e
    · exact nit c _ z
/-- .. and one new object is laid -/
theorem Inv.turnedNew {t' : Nat} {ch : List Addr} {T : Addr} {ob : HO} (I : Inv X pins σ H s) (k : ∀ b o, b ∉ ch → s.heap.get? b = some o → h'.get? b = some o) (hf : ∀ b ∈ ch, FpOk X pins H b) (hT : s.heap.objs.size ≤ T)
    (new : ObjOk X.prog X.w (upd H T ob) h' T ob) : Inv X pins σ (upd H T ob) { s with heap := h', toks := t' } := by
  have hn : H T = none := I.hok.fresh hT
  have nit : ∀ b u, H b = some u → b ∉ ch := fun b u e z => by
    have q := (hf b z).1
    rw [q] at e; cases e
  refine I.step (g' := s.gens) (d' := s.drawn) (ch := ch) (fun b hb => ⟨(hf b hb).2.2.2.1, (hf b hb).2.1, (hf b hb).2.2.2.2.1, (hf b hb).2.2.2.2.2⟩) (fun b o _ _ hc e _ => k b o hc e) (fun b o _ _ hc e _ => ⟨o.slots, k b o hc e⟩)
    (fun b o _ e n => ?_) (fun b o hc e => ⟨o, k b o hc e⟩) (fun b xs e => ?_) (fun b o u e => ?_) (fun b ps e => ⟨#[], ?_⟩) (fun m hm => ?_) (fun b u e => ?_) I.bare
  · rw [upd_ne (Nat.ne_of_lt (Nat.lt_of_lt_of_le (Heap.lt_size e) hT))]; exact n
  · rw [upd_ne (ne_of_none e hn)]; exact e
  · rw [upd_ne (ne_of_none e hn)]; exact e
  · rw [upd_ne (ne_of_none e hn), e]; simp
  · obtain ⟨o, es, ep, ho, r⟩ := hm
    exact ⟨o, es, ep, k _ o (fun z => (hf _ z).2.1 rfl) ho, r⟩
  · by_cases hb : b = T
    · subst hb
      rw [upd_same] at e
      cases e
      exact new
    · rw [upd_ne hb] at e
      refine (I.hok b u e).stay (fun c v hc q => k c v ?_ q) (fun c q => by rw [upd_ne (ne_of_none q hn)]; exact q) fun c xs q => by rw [upd_ne (ne_of_none q hn)]; exact q
      rcases hc with z | z
      · rw [z]; exact nit b u e
      · exact nit c _ z

/-! ### locking a thing while a statement runs -/
theorem Inv.lock {d : Addr} {u : HO} (I : Inv X pins σ H s) (h : H d = some u) (mu : Mut (some u)) : ∃ od, Inv X pins σ (upd H d (.frz od u)) s := by
  have x := I.hok d u h
  have ex : ∃ od, s.heap.get? d = some od := by
    cases u with
    | lst xs => obtain ⟨_, _, _, _, e⟩ := x; exact ⟨_, e⟩
    | dK kvs => obtain ⟨_, _, _, _, o, _, _, e, _⟩ := x; exact ⟨o, e⟩
    | dT kvs => obtain ⟨_, _, _, _, o, _, _, e, _⟩ := x; exact ⟨o, e⟩
    | set S n => obtain ⟨o, _, _, _, e, _⟩ := x; exact ⟨o, e⟩
    | ins C dx fs => obtain ⟨_, _, _, e, _⟩ := x; exact ⟨_, e⟩
    | ext φ => obtain ⟨_, ⟨_, e⟩, _⟩ := x; exact ⟨_, e⟩
    | _ => exact False.elim mu
  obtain ⟨od, e⟩ := ex
  have new : ObjOk X.prog X.w (upd H d (.frz od u)) s.heap d (.frz od u) := by
    refine ⟨e, x.stay (fun b v _ q => q) (fun b q => ?_) fun b xs q => ?_⟩
    · rw [upd_ne (fun z => by rw [z, h] at q; cases q; exact mu)]; exact q
    · rw [upd_ne (fun z => by rw [z, h] at q; cases q; exact mu)]; exact q
  exact ⟨od, I.write (x := d) (e := d) (t' := s.toks) (h' := s.heap) (by rw [h]; exact mu) (.inl rfl) (fun b v _ q => q) ⟨od, e⟩ new⟩
theorem Inv.nofrz {d : Addr} {u : HO} (I : Inv X pins σ H s) (h : H d = some u) (mu : Mut (some u)) : ∀ o' u', X.H_0 d ≠ some (.frz o' u') := fun o' u' e => by
  have q := I.base.frzs d o' u' e
  rw [h] at q
  cases q
  exact mu
theorem Inv.unlock {d : Addr} {od : Obj} {u : HO} (I : Inv X pins σ H s) (h : H d = some (.frz od u)) (hn : ∀ o' u', X.H_0 d ≠ some (.frz o' u')) : Inv X pins σ (upd H d u) s := by
  have neH : ∀ b o, H b = some o → (∀ o' u', o ≠ .frz o' u') → b ≠ d := fun b o e hne z => by
    rw [z, h] at e
    cases e
    exact hne _ _ rfl
  have neN : ∀ b, H b = none → b ≠ d := fun b e z => by rw [z, h] at e; cases e
  refine ⟨I.ok, I.os, I.bare, ⟨I.base.keep, I.base.slot, fun b o e n hx => ?_, I.base.there, fun b xs e => ?_, fun b o x e => ?_, fun b ps e => ?_⟩, I.loc, I.cell, ?_, fun x c e => ?_, fun p hp => ?_, fun b o e => ?_, I.len⟩
  · rw [upd_ne (neN b (I.base.free b o e n hx))]; exact I.base.free b o e n hx
  · have q := I.base.tups b xs e
    rw [upd_ne (neH b _ q (fun _ _ z => nomatch z))]; exact q
  · have q := I.base.frzs b o x e
    rw [upd_ne (fun z => by rw [z] at e; exact hn _ _ e)]; exact q
  · obtain ⟨m, q⟩ := I.base.tbls b ps e
    exact ⟨m, by rw [upd_ne (neH b _ q (fun _ _ z => nomatch z))]; exact q⟩
  · rw [upd_ne (neN _ I.free)]; exact I.free
  · rw [upd_ne (neN c (I.freeC x c e))]; exact I.freeC x c e
  · obtain ⟨e, n, r⟩ := I.pin p hp
    exact ⟨e, by rw [upd_ne (neN _ n)]; exact n, r⟩
  · by_cases hb : b = d
    · rw [hb, upd_same] at e
      cases e
      rw [hb]
      obtain ⟨_, x⟩ := I.hok d _ h
      exact x.stay (fun c v _ q => q) (fun c q => by rw [upd_ne (neH c _ q (fun _ _ z => nomatch z))]; exact q) fun c xs q => by rw [upd_ne (neH c _ q (fun _ _ z => nomatch z))]; exact q
    · rw [upd_ne hb] at e
      exact (I.hok b o e).stay (fun c v _ q => q) (fun c q => by rw [upd_ne (neH c _ q (fun _ _ z => nomatch z))]; exact q) fun c xs q => by rw [upd_ne (neH c _ q (fun _ _ z => nomatch z))]; exact q
end
/-- the statement runs while the thing at d is locked (read, not written); d and what stands there are the reading's choice -/
def tLock (t : TS) : TS := fun D σ H => ∃ d u, H d = some u ∧ Mut (some u) ∧ ∀ od, t ⟨fun σ' H' => H' d = some (.frz od u) ∧ D.nx σ' (upd H' d u), fun v H' => H' d = some (.frz od u) ∧ D.rt v (upd H' d u), fun σ' H' => H' d = some (.frz od u) ∧ D.bk σ' (upd H' d u), fun σ' H' => H' d = some (.frz od u) ∧ D.ct σ' (upd H' d u)⟩ σ (upd H d (.frz od u))
def tLockE (t : TE) : TE := fun σ H Q => ∃ d u, H d = some u ∧ Mut (some u) ∧ ∀ od, t σ (upd H d (.frz od u)) fun v H' => H' d = some (.frz od u) ∧ Q v (upd H' d u)
section
variable {X : Cx}
theorem ps_lock {st : Stmt} {t : TS} (h : PS X st t) : PS X st (tLock t) := by
  intro pins s σ H D I hw
  obtain ⟨d, u, hd, mu, hw⟩ := hw
  obtain ⟨od, I1⟩ := I.lock hd mu
  refine thn (h pins s σ _ _ I1 (hw od)) fun f s1 q => ?_
  cases f with
  | next => obtain ⟨σ', H', I2, e, q⟩ := q; exact ⟨σ', _, I2.unlock e (I.nofrz hd mu), q⟩
  | brk => obtain ⟨σ', H', I2, e, q⟩ := q; exact ⟨σ', _, I2.unlock e (I.nofrz hd mu), q⟩
  | cont => obtain ⟨σ', H', I2, e, q⟩ := q; exact ⟨σ', _, I2.unlock e (I.nofrz hd mu), q⟩
  | ret v => obtain ⟨x, σ', H', I2, r, e, q⟩ := q; exact ⟨x, σ', _, I2.unlock e (I.nofrz hd mu), r, q⟩
theorem pe_lock {e : Expr} {t : TE} (h : PE X e t) : PE X e (tLockE t) := by
  intro pins s σ H Q I hw
  obtain ⟨d, u, hd, mu, hw⟩ := hw
  obtain ⟨od, I1⟩ := I.lock hd mu
  refine thn (h pins s σ _ _ I1 (hw od)) fun v s1 ⟨x, H1, I2, r, e2, q⟩ => ?_
  exact ⟨x, _, I2.unlock e2 (I.nofrz hd mu), r, q⟩

/-! ### one iterator just laid -/
theorem pi_one {tg : Expr} {pins : List (Addr × Obj)} {σ : St} {H : Hp} {s : Shared} {R : It → Hp → Prop} {J : It} {tn : Nat → Heap → Prop} {tk : Nat} (I : Inv X pins σ H s) (o : Obj)
    (T : Turn X.prog X.w X.K tg J [s.heap.objs.size] s.heap.objs.size tn) (st : tn 0 (s.heap.push o)) (q : R J H) : PIE X pins σ tg R (.ref s.heap.objs.size) { s with heap := s.heap.push o, toks := tk } := by
  refine ⟨s.heap.objs.size, [s.heap.objs.size], tn, J, H, rfl, I.kept fun b ob e => Heap.get?_push_of_some _ e, T, st, fun b hb => ?_, q⟩
  have e : b = s.heap.objs.size := by simpa using hb
  subst e
  exact I.fpOk (Nat.le_refl _) (I.hok.fresh (Nat.le_refl _))
end

/-! ### range with a step -/
/-- lo, lo + c, .. (n of them) -/
def Itc (lo c : Int) (n : Nat) : It := ⟨fun i _ => i < n, fun i H x H' => H' = H ∧ x = .int (lo + (i : Nat) * c), fun i _ => n ≤ i⟩
theorem turn_rangeC {P : Program} {w : World} {K : PySem.W.Frag} {tg : Expr} (it : Addr) (lo c : Int) (n : Nat) : Turn P w K tg (Itc lo c n) [it] it (fun i h => IsRangeIter h it (lo + (i : Nat) * c) ((n : Int) - (i : Nat)) c) where
  mem := by simp
  obj := fun i h st b hb => by
    have e : b = it := by simpa using hb
    subst e
    exact ⟨_, st, fun v z => nomatch z⟩
  keep := fun i h h' st k => k it (by simp) _ st
  item := by
    intro X hP hw hK hc i pins s σ H E I hf st hg
    subst hP hw hK
    obtain ⟨f0, f1, f2, f3, f4, f5⟩ := hf it (by simp)
    have W := Walks.range (prog := X.prog) (w := X.w) (I.ok.hd hc) it lo c n
    refine W.item i s _ _ hg st fun v h' tk hv st' kk => ?_
    obtain ⟨t, rfl⟩ := hv
    have I1 : Inv X pins σ H { s with heap := h', toks := tk } := I.turned (fun b o hb e => kk b o (by simpa using hb) e) f0 f1 f3 f4 f5
    exact ⟨_, rfl, go_of (s := { s with heap := h', toks := tk }) (n := "range_iterator") st' rfl rfl (by decide) ⟨.int (lo + (i : Nat) * c), H, I1, ⟨t, rfl⟩, ⟨rfl, rfl⟩, st', fun b hb => (hf b hb).1⟩⟩
  done := by
    intro X hP hw hK hc i pins s σ H E I hf st hg
    subst hP hw hK
    obtain ⟨f0, f1, f2, f3, f4, f5⟩ := hf it (by simp)
    exact wpAny_pyNext_range_end (I.ok.hd hc) st (by have : n ≤ i := hg; omega) fun h' eb => ⟨rfl, I.turned (t' := s.toks) (fun b o hb e => eb b o hb e) f0 f1 f3 f4 f5⟩
  self := fun A i s Q E st h => wpAny_pyIter_rangeiter st h
/-- range(i, j, c): small bounds, n items -/
def RgC (i j c : Int) (n : Nat) : Prop := c ≠ 0 ∧ c.natAbs < 1073741824 ∧ Builtin.Range.small i j c = true ∧ Builtin.Range.rangeSize i j c = n
theorem RgC.neg {i j : Int} (ha : -(2 ^ 62) ≤ i) (ha' : i < 2 ^ 62) (hb : -(2 ^ 62) ≤ j) (hb' : j < 2 ^ 62) : RgC i j (-1) (i - j).toNat :=
  ⟨by decide, by decide, PySem.W.small_down ha ha' hb hb', PySem.W.rangeSize_downNat i j⟩
def iRng3 (ta : TA) : TI := fun σ H R => ta σ H fun vs H1 => ∃ (i j c : Int) (n : Nat), vs = [.int i, .int j, .int c] ∧ RgC i j c n ∧ R (Itc i c n) H1
section
variable {X : Cx} {tg : Expr}
theorem pi_range3 {a b c : Expr} {ta : TA} {p pos : Pos} (hg : Gl X "range") (hm : X.mg "range" = none) (ha : PA X [a, b, c] ta)
    (hs : starEach [a, b, c] X.env = (false, eval a X.env) :: starEach [b, c] X.env := by rfl) (hpl : (backTo pos (starEach [b, c] X.env)).any (·.1) = false := by rfl) :
    PI X tg (.Call (.Name "range" p) [a, b, c] [] pos) (iRng3 ta) := by
  intro pins s σ H R I h
  refine Call_ (ld_blt I hg hm boot_range (PyProof.Rows.callWith_type1 (thn (ha pos pins s σ H _ I h) fun us s1 ⟨vs, H1, I1, r1, q1⟩ => ?_) hs hpl))
  obtain ⟨i, j, k, n, e, ⟨c0, c1, c2, c3⟩, q⟩ := q1
  subst e
  cases r1 with
  | cons r rr =>
    cases rr with
    | cons r' rr =>
      cases rr with
      | cons r'' rr =>
        cases rr
        obtain ⟨t, rfl⟩ := r
        obtain ⟨t', rfl⟩ := r'
        obtain ⟨t'', rfl⟩ := r''
        refine call_range_3 c0 ?_ (.inl (PyProof.noPylong_small c1))
        refine wpAny_pyIter_range (IsRange.new ..) c2 ?_
        have I2 : Inv X pins σ H1 { s1 with heap := s1.heap.push { cls := .type "range", data := .fields #[.int i t, .int j t', .int k t''] } } := I1.kept (t' := s1.toks) fun b o e => Heap.get?_push_of_some _ e
        refine pi_one (tk := s1.toks) I2 _ (turn_rangeC _ i k n) ?_ q
        have e1 : i + ((0 : Nat) : Int) * k = i := by simp
        have e2 : (n : Int) - ((0 : Nat) : Int) = Builtin.Range.rangeSize i j k := by rw [c3]; simp
        show IsRangeIter _ _ (i + ((0 : Nat) : Int) * k) ((n : Int) - ((0 : Nat) : Int)) k
        rw [e1, e2]
        exact Heap.get?_push_size _ rfl
end
/-- the turns of a step range, for the for loop -/
theorem for_rangeC {lo c : Int} {n : Nat} {g : TG} {tb : TS} {D : Ends} {σ : St} {H : Hp} (Pv : Nat → St → Hp → Prop) (h0 : Pv 0 σ H)
    (hs : ∀ i σ H, i < n → Pv i σ H → g (.int (lo + (i : Nat) * c)) σ H fun σ2 H2 => tb { D with nx := Pv (i + 1), ct := Pv (i + 1), bk := D.nx } σ2 H2) (hd : ∀ σ H, Pv n σ H → D.nx σ H) :
    ∃ W : Nat → Nat → St → Hp → Prop, (∃ m, W 0 m σ H) ∧ ∀ i m σ H, W i m σ H →
      ((Itc lo c n).stop i H ∧ D.nx σ H) ∨ ((Itc lo c n).go i H ∧ ∃ N : St → Hp → Prop, (∀ σ' H', N σ' H' → ∃ m', m' < m ∧ W (i + 1) m' σ' H') ∧ ∀ x H', (Itc lo c n).yld i H x H' → g x σ H' fun σ2 H2 => tb { D with nx := N, ct := N, bk := D.nx } σ2 H2) := by
  refine ⟨fun i m σ H => m = n - i ∧ i ≤ n ∧ Pv i σ H, ⟨n, by simp, Nat.zero_le _, h0⟩, ?_⟩
  rintro i m σ H ⟨rfl, hi, p⟩
  by_cases hlt : i < n
  · refine .inr ⟨hlt, Pv (i + 1), fun σ' H' p' => ⟨n - (i + 1), by omega, rfl, hlt, p'⟩, fun x H' y => ?_⟩
    obtain ⟨e, y⟩ := y
    subst e y
    exact hs i σ _ hlt p
  · have e : i = n := by omega
    subst e
    exact .inl ⟨Nat.le_refl _, hd σ H p⟩

/-! ### reversed(list) -/
/-- the list at a (n items at the start, which the loop leaves there), from its end -/
def Itv (K : PySem.W.Frag) (a : Addr) (n : Nat) : It :=
  ⟨fun i H => i < n ∧ ∃ (xs : List V) (x : V), SqL K H a xs ∧ xs[n - 1 - i]? = some x, fun i H x H' => H' = H ∧ ∀ xs, SqL K H a xs → xs[n - 1 - i]? = some x, fun i _ => n ≤ i⟩
theorem turn_rev {P : Program} {w : World} {K : PySem.W.Frag} {tg : Expr} (a it : Addr) (n : Nat) : Turn P w K tg (Itv K a n) [it] it (fun i h => i ≤ n ∧ h.IsRevIter it a ((n : Int) - 1 - (i : Nat))) where
  mem := by simp
  obj := fun i h st b hb => by
    have e : b = it := by simpa using hb
    subst e
    obtain ⟨_, o, e, c, d⟩ := st
    exact ⟨o, e, fun v z => by rw [d] at z; cases z⟩
  keep := fun i h h' st k => ⟨st.1, st.2.at fun o e => k it (by simp) o e⟩
  item := by
    intro X hP hw hK hc i pins s σ H E I hf st hg
    subst hP hw hK
    obtain ⟨hin, xs, x, hq, hx⟩ := hg
    obtain ⟨its, rv, p, hz⟩ := I.list hq
    obtain ⟨u, hu, ru⟩ := rv.get hx
    obtain ⟨f0, f1, f2, f3, f4, f5⟩ := hf it (by simp)
    obtain ⟨_, hit⟩ := st
    have e1 : (n : Int) - 1 - ((i : Nat) : Int) = ((n - 1 - i : Nat) : Int) := by omega
    rw [e1] at hit
    refine wpAny_pyNext_rev_item hit p.isList (x := u) (by simpa using hu) fun h' st' sb => ?_
    have e2 : ((n - 1 - i : Nat) : Int) - 1 = (n : Int) - 1 - ((i + 1 : Nat) : Int) := by omega
    rw [e2] at st'
    have I1 : Inv X pins σ H { s with heap := h' } := I.turned (t' := s.toks) (fun b o hb e => (sb.2 b hb).trans e) f0 f1 f3 f4 f5
    obtain ⟨o, e, c, d⟩ := id st'
    exact ⟨u, rfl, go_of (s := { s with heap := h' }) e c d (by decide) ⟨x, H, I1, ru, ⟨rfl, fun ys hy => by rw [I.list_inj hy hq]; exact hx⟩, ⟨hin, st'⟩, fun b hb => (hf b hb).1⟩⟩
  done := by
    intro X hP hw hK hc i pins s σ H E I hf st hg
    subst hP hw hK
    obtain ⟨f0, f1, f2, f3, f4, f5⟩ := hf it (by simp)
    obtain ⟨hin, hit⟩ := st
    have hge : n ≤ i := hg
    have e1 : (n : Int) - 1 - ((i : Nat) : Int) = -1 := by omega
    rw [e1] at hit
    exact wpAny_pyNext_rev_end (I.ok.hd hc) hit fun h' eb => ⟨rfl, I.turned (t' := s.toks) (fun b o hb e => eb b o hb e) f0 f1 f3 f4 f5⟩
  self := fun A i s Q E st h => wpAny_pyIter_revIter st.2 h
def iRev (K : PySem.W.Frag) (ta : TA) : TI := fun σ H R => ta σ H fun vs H1 => ∃ (a : Addr) (xs : List V), vs = [.ref a] ∧ SqL K H1 a xs ∧ R (Itv K a xs.length) H1
section
variable {X : Cx} {tg : Expr}
theorem pi_reversed {e : Expr} {ta : TA} {p pos : Pos} (hg : Gl X "reversed") (hm : X.mg "reversed" = none) (ha : PA X [e] ta) (hs : starEach [e] X.env = [(false, eval e X.env)] := by rfl) : PI X tg (.Call (.Name "reversed" p) [e] [] pos) (iRev X.K ta) := by
  intro pins s σ H R I h
  refine Call_ (ld_blt I hg hm boot_reversed5 (PyProof.Rows.callWith_type1 (thn (ha pos pins s σ H _ I h) fun us s1 ⟨vs, H1, I1, r1, q1⟩ => ?_) hs rfl))
  obtain ⟨a, xs, e, hq, q⟩ := q1
  subst e
  cases r1 with
  | cons r rr =>
    cases rr
    cases r
    obtain ⟨its, rv, p', hz⟩ := I1.list hq
    have hl := rv.length
    have e1 : ((its.toArray.size : Nat) : Int) - 1 = (xs.length : Int) - 1 - ((0 : Nat) : Int) := by simp only [List.size_toArray]; omega
    refine call_reversed_list p'.isList (wpAny_pyIter_revIter (l := a) (i := ((its.toArray.size : Nat) : Int) - 1) ⟨_, Heap.get?_push_size _ rfl, rfl, rfl⟩ ?_)
    refine pi_one (tk := s1.toks) I1 _ (turn_rev a _ xs.length) ⟨Nat.zero_le _, ?_⟩ q
    rw [← e1]
    exact ⟨_, Heap.get?_push_size _ rfl, rfl, rfl⟩
end

/-! ### a str -/
def Its (x : Str) : It := ⟨fun i _ => i < x.cps.size, fun i H v H' => H' = H ∧ ∃ c, x.cps[i]? = some c ∧ v = .str ⟨#[c]⟩, fun i _ => x.cps.size ≤ i⟩
theorem turn_str {P : Program} {w : World} {K : PySem.W.Frag} {tg : Expr} (it : Addr) (x : Str) (t : Tok) (ty : String) (hty : ty = "str_ascii_iterator" ∨ ty = "str_iterator") :
    Turn P w K tg (Its x) [it] it (fun i h => h.IsStrIter it ty x t i) where
  mem := by simp
  obj := fun i h st b hb => by
    have e : b = it := by simpa using hb
    subst e
    obtain ⟨o, e, c, d⟩ := st
    exact ⟨o, e, fun v z => by rw [d] at z; cases z⟩
  keep := fun i h h' st k => let ⟨o, ho, r⟩ := st; ⟨o, k it (by simp) o ho, r⟩
  item := by
    intro X hP hw hK hc i pins s σ H E I hf st hg
    subst hP hw hK
    obtain ⟨f0, f1, f2, f3, f4, f5⟩ := hf it (by simp)
    have W : Walks X.prog X.w X.A it [it] [it] x.cps.size (SignAt x) (fun i h => h.IsStrIter it ty x t i) := by
      rcases hty with e | e
      · rw [e]; exact Walks.strAscii (I.ok.hd hc) it x t
      · rw [e]; exact Walks.strWide (I.ok.hd hc) it x t
    have hno : ["enumerate", "zip", "dict_itemiterator", "dict_reverseitemiterator", "odict_iterator", "itertools.zip_longest", "itertools.pairwise"].contains ty = false := by
      rcases hty with e | e
      · rw [e]; decide
      · rw [e]; decide
    refine W.item i s _ _ hg st fun v h' tk hv st' kk => ?_
    obtain ⟨c, u, hcx, rfl⟩ := hv
    have I1 : Inv X pins σ H { s with heap := h', toks := tk } := I.turned (fun b o hb e => kk b o (by simpa using hb) e) f0 f1 f3 f4 f5
    obtain ⟨oi, e, cc, dd⟩ := id st'
    exact ⟨_, rfl, go_of (s := { s with heap := h', toks := tk }) e cc dd hno ⟨.str ⟨#[c]⟩, H, I1, ⟨u, rfl⟩, ⟨rfl, c, hcx, rfl⟩, st', fun b hb => (hf b hb).1⟩⟩
  done := by
    intro X hP hw hK hc i pins s σ H E I hf st hg
    subst hP hw hK
    obtain ⟨f0, f1, f2, f3, f4, f5⟩ := hf it (by simp)
    have hx : x.cps[i]? = none := Array.getElem?_eq_none hg
    rcases hty with e | e
    · rw [e] at st
      exact wpAny_pyNext_ascii_end (I.ok.hd hc) st hx fun h' eb => ⟨rfl, I.turned (t' := s.toks) (fun b o hb e => eb b o hb e) f0 f1 f3 f4 f5⟩
    · rw [e] at st
      exact wpAny_pyNext_wide_end (I.ok.hd hc) st hx fun h' eb => ⟨rfl, I.turned (t' := s.toks) (fun b o hb e => eb b o hb e) f0 f1 f3 f4 f5⟩
  self := fun A i s Q E st h => by
    rcases hty with e | e
    · rw [e] at st; exact wpAny_pyIter_striter_ascii st h
    · rw [e] at st; exact wpAny_pyIter_striter_wide st h
def iStr (te : TE) : TI := fun σ H R => te σ H fun v H1 => ∃ x, v = .str x ∧ R (Its x) H1
theorem pi_str {X : Cx} {tg e : Expr} {te : TE} (he : PE X e te) : PI X tg e (iStr te) := by
  intro pins s σ H R I h
  refine thn (he pins s σ H _ I h) fun v s1 ⟨y, H1, I1, r1, x, ex, q⟩ => ?_
  subst ex
  obtain ⟨t, rfl⟩ := r1
  cases ha : x.cps.all (· < 128)
  · exact wpAny_pyIter_wide ha (pi_one (tk := s1.toks) I1 _ (turn_str _ x t "str_iterator" (.inr rfl)) ⟨_, Heap.get?_push_size _ rfl, rfl, rfl⟩ q)
  · exact wpAny_pyIter_ascii ha (pi_one (tk := s1.toks) I1 _ (turn_str _ x t "str_ascii_iterator" (.inl rfl)) ⟨_, Heap.get?_push_size _ rfl, rfl, rfl⟩ q)

/-! ### a dict's keys: any dict's entries -/
section
variable {prog : Program} {w : World} {A : Around} {E : Value → Shared → Prop} {s : Shared}
theorem iter_keys {d : Addr} {o : Obj} {es : Array DictEntry} {ep : Nat} {Q : Value → Shared → Prop} (hd : (d == sysModules) = false) (ho : s.heap.get? d = some o) (hc : o.ExactDict) (hdat : o.data = .dict es ep)
    (hQ : Q (.ref s.heap.objs.size) { s with heap := s.heap.push { cls := .type "dict_keyiterator", data := .fields #[.ref d, .int 0 0, .int es.size 0, .int ep 0] } }) :
    wpAny (model prog w) A (pyIter (.ref d)) Q E s := by
  have hT : s.TypeIs (.ref d) "dict" := ⟨o, ho, hc.1⟩
  refine wpAny_pyIter_slot hT F.slot_dict_iter (wpAny_call_entry F.slot_dict_iter hT F.entry_dict_iter ?_ (F.args_dict_iter_1 _))
  unfold Builtin.«dict.__iter__»
  refine wpAny_bind ?_
  unfold Builtin.Dict.dictSlotNone
  refine wpAny_bind (wpAny_notOrdered_dict hT ?_)
  show wpAny _ _ (pure (Value.ref d)) _ _ s
  refine wpAny_pure ?_
  show wpAny _ _ (Builtin.Dict.showsAll d >>= _) _ _ s
  unfold Builtin.Dict.showsAll
  rw [if_neg (by rw [hd]; exact Bool.false_ne_true)]
  refine wpAny_bind (wpAny_pure ?_)
  refine wpAny_bind (wpAny_dictEntries ho hdat ?_)
  refine wpAny_bind (wpAny_dictEpoch ho hdat ?_)
  refine wpAny_bind (wpAny_newObj_type (wpAny_pure ⟨_, rfl, "dict_keyiterator", _, ⟨_, Heap.get?_push_size _ rfl, rfl⟩, F.slot_dict_keyiterator_next.lookup, ?_⟩))
  simpa [rawInt] using hQ
theorem next_key_item {it d : Addr} {i n ep : Nat} {od : Obj} {es : Array DictEntry} {en : DictEntry} {Q : Option Value → Shared → Prop} (hit : s.heap.IsKeyIter it d i n ep) (hod : s.heap.get? d = some od) (hdd : od.data = .dict es ep)
    (hsz : es.size = n) (hx : es[i]? = some en) (hQ : ∀ h', h'.IsKeyIter it d (i + 1) n ep → Heap.SameBut it s.heap h' → Q (some en.key) { s with heap := h' }) : wpAny (model prog w) A (pyNext (.ref it)) Q E s := by
  obtain ⟨o, ho, hc, hd⟩ := id hit
  unfold pyNext
  refine wpAny_bind (wpAny_attempt (wpAny_callSpecial?_slot (name := Str.ofString "__next__") hit.typeIs F.slot_dict_keyiterator_next
    (wpAny_call_entry F.slot_dict_keyiterator_next hit.typeIs F.entry_dict_keyiterator_next ?_ (F.args_dict_keyiterator_next_1 _))))
  refine wpAny_bind (wpAny_pure ?_)
  refine wpAny_bind ?_
  refine wpAny_bind ?_
  first | refine wpAny_bind (wpAny_typeNameOfWhole_keyiter hit.typeIs (wpAny_pure ?_)) | refine wpAny_bind (wpAny_typeNameOf_keyiter hit.typeIs (wpAny_pure ?_))
  refine wpAny_bind (wpAny_fieldsOf ho hd ?_)
  have hown : Builtin.Dict_items.ownsTuple "dict_keyiterator" = false := by decide
  simp only [hown, Bool.false_eq_true, if_false]
  show wpAny _ _ (if (Value.ref d == Value.none) = true then _ else _) _ _ s
  rw [if_neg (show ¬ ((Value.ref d == Value.none) = true) from Bool.false_ne_true)]
  refine wpAny_bind (wpAny_pure ?_)
  refine wpAny_bind (wpAny_dictEntries hod hdd ?_)
  rw [if_neg (by rw [hsz]; simp)]
  refine wpAny_bind (wpAny_pure ?_)
  refine wpAny_bind (wpAny_dictEpoch hod hdd ?_)
  rw [if_neg (by simp)]
  refine wpAny_pure ?_
  obtain ⟨hlt', hen⟩ := Array.getElem?_eq_some_iff.mp hx
  simp only [show ¬ ((i : Int) < 0) from by omega, if_false, Int.toNat_natCast, Array.getElem?_eq_getElem hlt']
  refine wpAny_bind ?_
  first | refine wpAny_bind (wpAny_typeNameOfWhole_keyiter hit.typeIs (wpAny_pure ?_)) | refine wpAny_bind (wpAny_typeNameOf_keyiter hit.typeIs (wpAny_pure ?_))
  refine wpAny_bind (wpAny_isOneOf_keyiter hit.typeIs ?_)
  show wpAny _ _ (setField (.ref it) 1 (rawInt ((i : Int) + 1)) >>= _) _ _ s
  refine wpAny_bind (wpAny_setField ho hd (by simp) ?_)
  have hit' : (s.heap.update it (Obj.mapFields (·.setIfInBounds 1 (rawInt ((i : Int) + 1))))).IsKeyIter it d (i + 1) n ep :=
    ⟨_, Heap.get?_update_self _ ho (Obj.isFreed_of_fields (Obj.data_mapFields hd _)), (Obj.cls_mapFields ..).trans hc, by rw [Obj.data_mapFields hd]; simp [rawInt]⟩
  refine wpAny_bind (wpAny_holding ?_)
  refine wpAny_bind (wpAny_isOneOf_keyiter (s := { s with heap := s.heap.update it (Obj.mapFields (·.setIfInBounds 1 (rawInt ((i : Int) + 1)))) }) hit'.typeIs ?_)
  show wpAny _ _ (pure es[i].key) _ _ _
  rw [hen]
  exact wpAny_pure (wpAny_pure ⟨_, rfl, wpAny_pure (hQ _ hit' (Heap.SameBut.update ..))⟩)
theorem next_key_end {it d : Addr} {i n ep : Nat} {od : Obj} {es : Array DictEntry} {Q : Option Value → Shared → Prop} (hh : A.handled = none) (hit : s.heap.IsKeyIter it d i n ep) (hod : s.heap.get? d = some od) (hdd : od.data = .dict es ep)
    (hsz : es.size = n) (hge : n ≤ i) (hQ : ∀ h', Heap.ExtBut it s.heap h' → Q none { s with heap := h' }) : wpAny (model prog w) A (pyNext (.ref it)) Q E s := by
  obtain ⟨o, ho, hc, hd⟩ := id hit
  unfold pyNext
  refine wpAny_bind (wpAny_attempt (wpAny_callSpecial?_slot (name := Str.ofString "__next__") hit.typeIs F.slot_dict_keyiterator_next
    (wpAny_call_entry F.slot_dict_keyiterator_next hit.typeIs F.entry_dict_keyiterator_next ?_ (F.args_dict_keyiterator_next_1 _))))
  refine wpAny_bind (wpAny_pure ?_)
  refine wpAny_bind ?_
  refine wpAny_bind ?_
  first | refine wpAny_bind (wpAny_typeNameOfWhole_keyiter hit.typeIs (wpAny_pure ?_)) | refine wpAny_bind (wpAny_typeNameOf_keyiter hit.typeIs (wpAny_pure ?_))
  refine wpAny_bind (wpAny_fieldsOf ho hd ?_)
  have hown : Builtin.Dict_items.ownsTuple "dict_keyiterator" = false := by decide
  simp only [hown, Bool.false_eq_true, if_false]
  show wpAny _ _ (if (Value.ref d == Value.none) = true then _ else _) _ _ s
  rw [if_neg (show ¬ ((Value.ref d == Value.none) = true) from Bool.false_ne_true)]
  refine wpAny_bind (wpAny_pure ?_)
  refine wpAny_bind (wpAny_dictEntries hod hdd ?_)
  rw [if_neg (by rw [hsz]; simp)]
  refine wpAny_bind (wpAny_pure ?_)
  refine wpAny_bind (wpAny_dictEpoch hod hdd ?_)
  rw [if_neg (by simp)]
  refine wpAny_pure ?_
  have hge' : es.size ≤ i := by rw [hsz]; exact hge
  simp only [show ¬ ((i : Int) < 0) from by omega, if_false, Int.toNat_natCast, Array.getElem?_eq_none hge']
  refine wpAny_bind ?_
  first | refine wpAny_bind (wpAny_typeNameOfWhole_keyiter hit.typeIs (wpAny_pure ?_)) | refine wpAny_bind (wpAny_typeNameOf_keyiter hit.typeIs (wpAny_pure ?_))
  show wpAny _ _ (setField (.ref it) 0 .none >>= _) _ _ s
  refine wpAny_bind (wpAny_setField ho hd (by simp) ?_)
  show wpAny _ _ (newExc (.type "StopIteration") [] >>= _) _ _ _
  refine wpAny_bind ?_
  simp only [newExc, newTuple]
  refine wpAny_bind (wpAny_newObj_type ?_ (by size_fits))
  refine wpAny_bind (m := firstArgMember _ _) (wpAny_of_eq (a := Value.none) (by first | rfl | (simp only [firstArgMember]; rfl)) ?_)
  refine wpAny_newObj_type ?_ (by size_fits)
  simp only [raiseNew]
  refine wpAny_bind (wpAny_handled ?_)
  rw [show A.in1.handled = none from hh]
  refine wpAny_bind (wpAny_pure (wpAny_throw ?_))
  refine wpAny_bind (wpAny_isInstance (T := "StopIteration") (b := true) ⟨_, Heap.get?_push_size _ rfl, rfl⟩ isSubtype_stop ?_)
  exact wpAny_pure (hQ _ (((Heap.SameBut.update ..).extBut.push _).push _))
end

/-! ### a locked dict -/
theorem kv_get {κ : Type} {kvs : List (κ × V)} {vs : List (κ × Value)} (h : KV kvs vs) : ∀ {i : Nat} {k : κ} {v : V}, kvs[i]? = some (k, v) → ∃ u, vs[i]? = some (k, u) ∧ RelV v u := by
  unfold KV at h
  induction h with
  | nil => intro i k v e; simp at e
  | @cons a b l₁ l₂ r t ih =>
    intro i k v e
    cases i with
    | zero =>
      simp only [List.getElem?_cons_zero, Option.some.injEq] at e
      subst e
      refine ⟨b.2, ?_, r.2⟩
      simp only [List.getElem?_cons_zero]
      exact congrArg some (Prod.ext r.1.symm rfl)
    | succ j =>
      simp only [List.getElem?_cons_succ] at e ⊢
      exact ih e
theorem paired_get {α β : Type} {G : α → β → Prop} {l₁ : List α} {l₂ : List β} (h : Paired G l₁ l₂) : ∀ {i : Nat} {a : α}, l₁[i]? = some a → ∃ b, l₂[i]? = some b ∧ G a b := by
  induction h with
  | nil => intro i a e; simp at e
  | @cons a b l₁ l₂ r t ih =>
    intro i a' e
    cases i with
    | zero =>
      simp only [List.getElem?_cons_zero, Option.some.injEq] at e
      subst e
      exact ⟨b, rfl, r⟩
    | succ j =>
      simp only [List.getElem?_cons_succ] at e ⊢
      exact ih e
theorem relV_key {k : Key} {u : Value} (h : keyIs k u = true) : RelV (kV k) u := by
  rcases keyIs_shape h with ⟨i, t, rfl, rfl⟩ | ⟨x, t, rfl, rfl⟩
  · exact ⟨t, rfl⟩
  · exact ⟨t, rfl⟩
section
variable {X : Cx} {pins : List (Addr × Obj)} {σ : St} {H : Hp} {s : Shared} {d : Addr} {o : Obj}
theorem Inv.frzK {kvs : List (Key × V)} (I : Inv X pins σ H s) (h : H d = some (.frz o (.dK kvs))) :
    (d == sysModules) = false ∧ s.heap.get? d = some o ∧ o.ExactDict ∧ ∃ (es : Array DictEntry) (ep : Nat) (vs : List (Key × Value)), o.data = .dict es ep ∧ es.size = kvs.length ∧ KV kvs vs ∧ s.heap.DictAt (mixKind X.prog X.w) d vs ep := by
  obtain ⟨hd, z, hs, vs, kv, o', es, ep, ho, hx, hdt, r⟩ := I.hok d _ h
  rw [hd] at ho
  cases ho
  refine ⟨hs, hd, hx, es, ep, vs, hdt, ?_, kv, o, es, hd, hx, hdt, r⟩
  have l1 := r.2.1.length
  have l2 : kvs.length = vs.length := Paired.length kv
  rw [Array.length_toList] at l1
  omega
/-- the same for tuple keys -/
theorem Inv.frzT {kvs : List (List Key × V)} (I : Inv X pins σ H s) (h : H d = some (.frz o (.dT kvs))) :
    (d == sysModules) = false ∧ s.heap.get? d = some o ∧ o.ExactDict ∧ ∃ (es : Array DictEntry) (ep : Nat), o.data = .dict es ep ∧ es.size = kvs.length ∧
      ∀ (i : Nat) (k : List Key) (v : V), kvs[i]? = some (k, v) → ∃ (en : DictEntry) (q : Addr), es[i]? = some en ∧ en.key = .ref q ∧ H q = some (.tup (k.map kV)) := by
  obtain ⟨hd, z, hs, xs, pr, o', es, ep, ho, hx, hdt, he, _⟩ := I.hok d _ h
  rw [hd] at ho
  cases ho
  refine ⟨hs, hd, hx, es, ep, hdt, ?_, fun i k v e => ?_⟩
  · have l1 : es.size = xs.length := size_of_entries he
    have l2 : kvs.length = xs.length := Paired.length pr
    omega
  · obtain ⟨b, hb, e1, e2, _⟩ := paired_get pr e
    have q := entry_at he i
    rw [hb] at q
    exact ⟨_, b.2.1, q, rfl, e2⟩
end

/-- the keys of the locked dict at d, in their order -/
def Itk (d : Addr) (o : Obj) (kvs : List (Key × V)) : It :=
  ⟨fun i H => H d = some (.frz o (.dK kvs)) ∧ i < kvs.length, fun i H x H' => H' = H ∧ ∃ k v, kvs[i]? = some (k, v) ∧ x = kV k, fun i H => H d = some (.frz o (.dK kvs)) ∧ kvs.length ≤ i⟩
/-- .. of tuple keys: the key's own tuple -/
def Itkt (d : Addr) (o : Obj) (kvs : List (List Key × V)) : It :=
  ⟨fun i H => H d = some (.frz o (.dT kvs)) ∧ i < kvs.length, fun i H x H' => H' = H ∧ ∃ (k : List Key) (v : V) (q : Addr), kvs[i]? = some (k, v) ∧ x = .ref q ∧ H q = some (.tup (k.map kV)), fun i H => H d = some (.frz o (.dT kvs)) ∧ kvs.length ≤ i⟩
/-- the values -/
def Itd (d : Addr) (o : Obj) (kvs : List (Key × V)) : It :=
  ⟨fun i H => H d = some (.frz o (.dK kvs)) ∧ i < kvs.length, fun i H x H' => H' = H ∧ ∃ k, kvs[i]? = some (k, x), fun i H => H d = some (.frz o (.dK kvs)) ∧ kvs.length ≤ i⟩
/-- the pairs, each a new tuple -/
def Iti (d : Addr) (o : Obj) (kvs : List (Key × V)) : It :=
  ⟨fun i H => H d = some (.frz o (.dK kvs)) ∧ i < kvs.length, fun i H x H' => ∃ T k v, kvs[i]? = some (k, v) ∧ x = .ref T ∧ H T = none ∧ H' = upd H T (.tup [kV k, v]), fun i H => H d = some (.frz o (.dK kvs)) ∧ kvs.length ≤ i⟩
theorem dict_ep {o : Obj} {es es' : Array DictEntry} {ep ep' : Nat} (h : o.data = .dict es ep) (h' : o.data = .dict es' ep') : es' = es ∧ ep' = ep := by
  rw [h] at h'
  cases h'
  exact ⟨rfl, rfl⟩
section
variable {P : Program} {w : World} {K : PySem.W.Frag} {tg : Expr} {d : Addr} {o : Obj} {es : Array DictEntry} {ep : Nat}
theorem turn_keys {kvs : List (Key × V)} (it : Addr) (hod : o.data = .dict es ep) : Turn P w K tg (Itk d o kvs) [it] it (fun i h => h.IsKeyIter it d i kvs.length ep) where
  mem := by simp
  obj := fun i h st b hb => by
    have e : b = it := by simpa using hb
    subst e
    obtain ⟨oi, e, c, dd⟩ := st
    exact ⟨oi, e, fun v z => by rw [dd] at z; cases z⟩
  keep := fun i h h' st k => st.at fun oi e => k it (by simp) oi e
  item := by
    intro X hP hw hK hc i pins s σ H E I hf st hg
    subst hP hw hK
    obtain ⟨hd, hi⟩ := hg
    obtain ⟨f0, f1, f2, f3, f4, f5⟩ := hf it (by simp)
    obtain ⟨hs, hgd, hx, es', ep', vs, hdt, hsz, kv, hm⟩ := I.frzK hd
    obtain ⟨rfl, rfl⟩ := dict_ep hod hdt
    obtain ⟨⟨k, v⟩, hkv⟩ : ∃ p, kvs[i]? = some p := ⟨kvs[i], List.getElem?_eq_getElem hi⟩
    obtain ⟨u, hu, ru⟩ := kv_get kv hkv
    have hl : kvs.length = vs.length := Paired.length kv
    rw [hl] at st
    refine wpAny_pyNext_dict_item st hm hu fun key h' hkey st' sb => ?_
    have I1 : Inv X pins σ H { s with heap := h' } := I.turned (t' := s.toks) (fun b ob hb e => (sb.2 b hb).trans e) f0 f1 f3 f4 f5
    obtain ⟨oi, e, c, dd⟩ := id st'
    refine ⟨key, rfl, go_of (s := { s with heap := h' }) e c dd (by decide) ⟨kV k, H, I1, relV_key (show keyIs k key = true from hkey), ⟨rfl, k, v, hkv, rfl⟩, ?_, fun b hb => (hf b hb).1⟩⟩
    show h'.IsKeyIter it d (i + 1) kvs.length _
    rw [hl]
    exact st'
  done := by
    intro X hP hw hK hc i pins s σ H E I hf st hg
    subst hP hw hK
    obtain ⟨hd, hi⟩ := hg
    obtain ⟨f0, f1, f2, f3, f4, f5⟩ := hf it (by simp)
    obtain ⟨hs, hgd, hx, es', ep', vs, hdt, hsz, kv, hm⟩ := I.frzK hd
    obtain ⟨rfl, rfl⟩ := dict_ep hod hdt
    exact next_key_end (I.ok.hd hc) st hgd hdt hsz hi fun h' eb => ⟨rfl, I.turned (t' := s.toks) (fun b ob hb e => eb b ob hb e) f0 f1 f3 f4 f5⟩
  self := fun A i s Q E st h => wpAny_pyIter_keyiter st h
theorem turn_keysT {kvs : List (List Key × V)} (it : Addr) (hod : o.data = .dict es ep) : Turn P w K tg (Itkt d o kvs) [it] it (fun i h => h.IsKeyIter it d i kvs.length ep) where
  mem := by simp
  obj := fun i h st b hb => by
    have e : b = it := by simpa using hb
    subst e
    obtain ⟨oi, e, c, dd⟩ := st
    exact ⟨oi, e, fun v z => by rw [dd] at z; cases z⟩
  keep := fun i h h' st k => st.at fun oi e => k it (by simp) oi e
  item := by
    intro X hP hw hK hc i pins s σ H E I hf st hg
    subst hP hw hK
    obtain ⟨hd, hi⟩ := hg
    obtain ⟨f0, f1, f2, f3, f4, f5⟩ := hf it (by simp)
    obtain ⟨hs, hgd, hx, es', ep', hdt, hsz, ent⟩ := I.frzT hd
    obtain ⟨rfl, rfl⟩ := dict_ep hod hdt
    obtain ⟨⟨k, v⟩, hkv⟩ : ∃ p, kvs[i]? = some p := ⟨kvs[i], List.getElem?_eq_getElem hi⟩
    obtain ⟨en, q, hen, hkey, hq⟩ := ent i k v hkv
    refine next_key_item st hgd hdt hsz hen fun h' st' sb => ?_
    have I1 : Inv X pins σ H { s with heap := h' } := I.turned (t' := s.toks) (fun b ob hb e => (sb.2 b hb).trans e) f0 f1 f3 f4 f5
    obtain ⟨oi, e, c, dd⟩ := id st'
    exact ⟨en.key, rfl, go_of (s := { s with heap := h' }) e c dd (by decide) ⟨.ref q, H, I1, hkey, ⟨rfl, k, v, q, hkv, rfl, hq⟩, st', fun b hb => (hf b hb).1⟩⟩
  done := by
    intro X hP hw hK hc i pins s σ H E I hf st hg
    subst hP hw hK
    obtain ⟨hd, hi⟩ := hg
    obtain ⟨f0, f1, f2, f3, f4, f5⟩ := hf it (by simp)
    obtain ⟨hs, hgd, hx, es', ep', hdt, hsz, ent⟩ := I.frzT hd
    obtain ⟨rfl, rfl⟩ := dict_ep hod hdt
    exact next_key_end (I.ok.hd hc) st hgd hdt hsz hi fun h' eb => ⟨rfl, I.turned (t' := s.toks) (fun b ob hb e => eb b ob hb e) f0 f1 f3 f4 f5⟩
  self := fun A i s Q E st h => by
    refine wpAny_pyIter_slot st.typeIs F.slot_dict_keyiterator_iter (wpAny_call_entry F.slot_dict_keyiterator_iter st.typeIs F.entry_dict_keyiterator_iter ?_ (F.args_dict_keyiterator_iter_1 _))
    show wpAny _ _ (ret (.ref it)) _ _ s
    exact wpAny_pure ⟨_, rfl, "dict_keyiterator", _, st.typeIs, F.slot_dict_keyiterator_next.lookup, h⟩
theorem turn_vals {kvs : List (Key × V)} (it : Addr) (hod : o.data = .dict es ep) : Turn P w K tg (Itd d o kvs) [it] it (fun i h => h.IsValIter it d i kvs.length ep) where
  mem := by simp
  obj := fun i h st b hb => by
    have e : b = it := by simpa using hb
    subst e
    obtain ⟨oi, e, c, dd⟩ := st
    exact ⟨oi, e, fun v z => by rw [dd] at z; cases z⟩
  keep := fun i h h' st k => st.at fun oi e => k it (by simp) oi e
  item := by
    intro X hP hw hK hc i pins s σ H E I hf st hg
    subst hP hw hK
    obtain ⟨hd, hi⟩ := hg
    obtain ⟨f0, f1, f2, f3, f4, f5⟩ := hf it (by simp)
    obtain ⟨hs, hgd, hx, es', ep', vs, hdt, hsz, kv, hm⟩ := I.frzK hd
    obtain ⟨rfl, rfl⟩ := dict_ep hod hdt
    obtain ⟨⟨k, v⟩, hkv⟩ : ∃ p, kvs[i]? = some p := ⟨kvs[i], List.getElem?_eq_getElem hi⟩
    obtain ⟨u, hu, ru⟩ := kv_get kv hkv
    have hl : kvs.length = vs.length := Paired.length kv
    rw [hl] at st
    refine wpAny_pyNext_values_item st hm hu fun h' st' sb => ?_
    have I1 : Inv X pins σ H { s with heap := h' } := I.turned (t' := s.toks) (fun b ob hb e => (sb.2 b hb).trans e) f0 f1 f3 f4 f5
    obtain ⟨oi, e, c, dd⟩ := id st'
    refine ⟨u, rfl, go_of (s := { s with heap := h' }) e c dd (by decide) ⟨v, H, I1, ru, ⟨rfl, k, hkv⟩, ?_, fun b hb => (hf b hb).1⟩⟩
    show h'.IsValIter it d (i + 1) kvs.length _
    rw [hl]
    exact st'
  done := by
    intro X hP hw hK hc i pins s σ H E I hf st hg
    subst hP hw hK
    obtain ⟨hd, hi⟩ := hg
    obtain ⟨f0, f1, f2, f3, f4, f5⟩ := hf it (by simp)
    obtain ⟨hs, hgd, hx, es', ep', vs, hdt, hsz, kv, hm⟩ := I.frzK hd
    obtain ⟨rfl, rfl⟩ := dict_ep hod hdt
    have hl : kvs.length = vs.length := Paired.length kv
    rw [hl] at st
    exact wpAny_pyNext_values_end (I.ok.hd hc) st hm (List.getElem?_eq_none (by omega)) fun h' eb => ⟨rfl, I.turned (t' := s.toks) (fun b ob hb e => eb b ob hb e) f0 f1 f3 f4 f5⟩
  self := fun A i s Q E st h => wpAny_pyIter_valiter st h
theorem turn_items {kvs : List (Key × V)} {elts : List Expr} {kk : Nat} {tpos : Pos} (it : Addr) (hod : o.data = .dict es ep) :
    Turn P w K (.Tuple elts kk tpos) (Iti d o kvs) [it] it (fun i h => ∃ ok ov, IsItemIter h it d i kvs.length ep ok ov) where
  mem := by simp
  obj := fun i h st b hb => by
    have e : b = it := by simpa using hb
    subst e
    obtain ⟨ok, ov, e⟩ := st
    exact ⟨_, e, fun v z => nomatch z⟩
  keep := fun i h h' st k => let ⟨ok, ov, e⟩ := st; ⟨ok, ov, k it (by simp) _ e⟩
  item := by
    intro X hP hw hK hc i pins s σ H E I hf st hg
    subst hP hw hK
    obtain ⟨hd, hi⟩ := hg
    obtain ⟨hs, hgd, hx, es', ep', vs, hdt, hsz, kv, hm⟩ := I.frzK hd
    obtain ⟨rfl, rfl⟩ := dict_ep hod hdt
    obtain ⟨⟨k, v⟩, hkv⟩ : ∃ p, kvs[i]? = some p := ⟨kvs[i], List.getElem?_eq_getElem hi⟩
    obtain ⟨u, hu, ru⟩ := kv_get kv hkv
    have hl : kvs.length = vs.length := Paired.length kv
    obtain ⟨ok, ov, he⟩ := st
    rw [hl] at he
    have hlt : it < s.heap.objs.size := Heap.lt_size he
    refine wpAny_pyNext_items_item he hm hu fun key h' hkey ho hT hz hk => ?_
    refine ⟨_, rfl, wpAny_letOwnedTupleGo_items (s := { s with heap := h' }) ho fun h'' he' sb => ?_⟩
    have hT2 : h''.get? s.heap.objs.size = some { cls := .type "tuple", data := .seq #[key, u] } := (sb.2 _ (Nat.ne_of_gt hlt)).trans hT
    have new : ObjOk X.prog X.w (upd H s.heap.objs.size (.tup [kV k, v])) h'' s.heap.objs.size (.tup [kV k, v]) :=
      ⟨by show 2 ≤ sizeLine; decide, [key, u], .cons (relV_key (show keyIs k key = true from hkey)) (.cons ru .nil), ⟨_, hT2, rfl, _, rfl⟩⟩
    have I1 : Inv X pins σ (upd H s.heap.objs.size (.tup [kV k, v])) { s with heap := h'' } :=
      I.turnedNew (t' := s.toks) (ch := [it]) (fun b ob hb e => (sb.2 b (by simpa using hb)).trans (hk b ob (by simpa using hb) e)) hf (Nat.le_refl _) new
    refine ⟨.ref s.heap.objs.size, _, I1, rfl, ⟨_, k, v, hkv, rfl, I.hok.fresh (Nat.le_refl _), rfl⟩, ⟨key, u, ?_⟩, fun b hb => ?_⟩
    · rw [hl]; exact he'
    · have e : b = it := by simpa using hb
      rw [e, upd_ne (Nat.ne_of_lt hlt)]
      exact (hf it (by simp)).1
  done := by
    intro X hP hw hK hc i pins s σ H E I hf st hg
    subst hP hw hK
    obtain ⟨hd, hi⟩ := hg
    obtain ⟨f0, f1, f2, f3, f4, f5⟩ := hf it (by simp)
    obtain ⟨hs, hgd, hx, es', ep', vs, hdt, hsz, kv, hm⟩ := I.frzK hd
    obtain ⟨rfl, rfl⟩ := dict_ep hod hdt
    have hl : kvs.length = vs.length := Paired.length kv
    obtain ⟨ok, ov, he⟩ := st
    rw [hl] at he
    exact wpAny_pyNext_items_end (I.ok.hd hc) he hm (List.getElem?_eq_none (by omega)) fun h' eb => ⟨rfl, I.turned (t' := s.toks) (fun b ob hb e => eb b ob hb e) f0 f1 f3 f4 f5⟩
  self := fun A i s Q E st h => let ⟨_, _, e⟩ := st; PySem.W.kcp_self e h
end

/-! ### for k in d, d.keys(), d.values(), d.items() -/
/-- the dict is locked (tLock, or by the caller) -/
def iKeys (td : TE) : TI := fun σ H R => td σ H fun x H1 => ∃ d o, x = .ref d ∧ ((∃ kvs, H1 d = some (.frz o (.dK kvs)) ∧ R (Itk d o kvs) H1) ∨ ∃ kvs, H1 d = some (.frz o (.dT kvs)) ∧ R (Itkt d o kvs) H1)
def iVals (td : TE) : TI := fun σ H R => td σ H fun x H1 => ∃ d o kvs, x = .ref d ∧ H1 d = some (.frz o (.dK kvs)) ∧ R (Itd d o kvs) H1
def iItems (td : TE) : TI := fun σ H R => td σ H fun x H1 => ∃ d o kvs, x = .ref d ∧ H1 d = some (.frz o (.dK kvs)) ∧ R (Iti d o kvs) H1
def iKeysM (td : TE) : TI := fun σ H R => td σ H fun x H1 => ∃ d o kvs, x = .ref d ∧ H1 d = some (.frz o (.dK kvs)) ∧ R (Itk d o kvs) H1
section
variable {X : Cx} {tg e : Expr} {td : TE} {apos cpos : Pos}
theorem pi_keys (he : PE X e td) : PI X tg e (iKeys td) := by
  intro pins s σ H R I h
  refine thn (he pins s σ H _ I h) fun u s1 ⟨x, H1, I1, rx, d, o, ex, q⟩ => ?_
  subst ex
  obtain rfl : u = Value.ref d := rx
  rcases q with ⟨kvs, hd, q⟩ | ⟨kvs, hd, q⟩
  · obtain ⟨hs, hgd, hx, es, ep, vs, hdt, hsz, kv, hm⟩ := I1.frzK hd
    refine iter_keys hs hgd hx hdt (pi_one (tk := s1.toks) I1 _ (turn_keys _ hdt) ⟨_, Heap.get?_push_size _ rfl, rfl, ?_⟩ q)
    rw [hsz] <;> rfl
  · obtain ⟨hs, hgd, hx, es, ep, hdt, hsz, ent⟩ := I1.frzT hd
    refine iter_keys hs hgd hx hdt (pi_one (tk := s1.toks) I1 _ (turn_keysT _ hdt) ⟨_, Heap.get?_push_size _ rfl, rfl, ?_⟩ q)
    rw [hsz] <;> rfl
theorem pi_values (he : PE X e td) (hbase : attributeBase e "values" X.env (eval e X.env) = eval e X.env := by rfl) (hline : (apos.endLine == cpos.line) = true := by rfl) : PI X tg (.Call (.Attribute e "values" apos) [] [] cpos) (iVals td) := by
  intro pins s σ H R I h
  refine wpAny_Call_method (T := "dict") (id := "dict.values") hbase rfl hline F.plainAttrs_dict F.slot_dict_values F.type_dict_values (thn (he pins s σ H _ I h) fun u s1 ⟨x, H1, I1, rx, d, o, kvs, ex, hd, q⟩ => ?_)
  subst ex
  obtain rfl : u = Value.ref d := rx
  obtain ⟨hs, hgd, hx, es, ep, vs, hdt, hsz, kv, hm⟩ := I1.frzK hd
  have hl : kvs.length = vs.length := Paired.length kv
  refine ⟨hm.dictOf.typeIs, hm.dictOf.mapOf.noDict, ?_⟩
  have I2 : Inv X pins σ H1 { s1 with heap := s1.heap.push { cls := .type "dict_values", data := .fields #[.ref d] } } := I1.kept (t' := s1.toks) fun b ob q => Heap.get?_push_of_some _ q
  have fin : wpAny (model X.prog X.w) X.A (pyIter (.ref s1.heap.objs.size)) (PIE X pins σ tg R) X.xe { s1 with heap := s1.heap.push { cls := .type "dict_values", data := .fields #[.ref d] } } := by
    refine wpAny_pyIter_values (d := d) (knd := mixKind X.prog X.w) ⟨_, Heap.get?_push_size _ rfl, rfl, rfl⟩ (hm.push _) (pi_one (tk := s1.toks) I2 _ (turn_vals _ hdt) ⟨_, Heap.get?_push_size _ rfl, rfl, ?_⟩ q)
    rw [hl] <;> rfl
  show wpAny _ _ (callWith cpos (.builtin "dict.values") [.ref d] [] []) _ X.xe s1
  exact method_meetsIn F.slot_dict_values F.entry_dict_values rfl (PySem.evalArgs_none ⟨rfl, hm.dictOf.typeIs, F.args_dict_values_1 _, _, meets_dict_values (mixKind X.prog X.w) d hs, ⟨vs, hm.dictOf⟩, fin⟩)
theorem pi_items {elts : List Expr} {kk : Nat} {tpos : Pos} (he : PE X e td) (hbase : attributeBase e "items" X.env (eval e X.env) = eval e X.env := by rfl) (hline : (apos.endLine == cpos.line) = true := by rfl) :
    PI X (.Tuple elts kk tpos) (.Call (.Attribute e "items" apos) [] [] cpos) (iItems td) := by
  intro pins s σ H R I h
  refine wpAny_Call_method (T := "dict") (id := "dict.items") hbase rfl hline F.plainAttrs_dict F.slot_dict_items F.type_dict_items (thn (he pins s σ H _ I h) fun u s1 ⟨x, H1, I1, rx, d, o, kvs, ex, hd, q⟩ => ?_)
  subst ex
  obtain rfl : u = Value.ref d := rx
  obtain ⟨hs, hgd, hx, es, ep, vs, hdt, hsz, kv, hm⟩ := I1.frzK hd
  have hl : kvs.length = vs.length := Paired.length kv
  refine ⟨hm.dictOf.typeIs, hm.dictOf.mapOf.noDict, ?_⟩
  have I2 : Inv X pins σ H1 { s1 with heap := s1.heap.push { cls := .type "dict_items", data := .fields #[.ref d] } } := I1.kept (t' := s1.toks) fun b ob q => Heap.get?_push_of_some _ q
  have fin : wpAny (model X.prog X.w) X.A (pyIter (.ref s1.heap.objs.size)) (PIE X pins σ (.Tuple elts kk tpos) R) X.xe { s1 with heap := s1.heap.push { cls := .type "dict_items", data := .fields #[.ref d] } } := by
    refine wpAny_pyIter_items (d := d) (knd := mixKind X.prog X.w) ⟨_, Heap.get?_push_size _ rfl, rfl, rfl⟩ (hm.push _) (pi_one (tk := s1.toks) I2 _ (turn_items _ hdt) ⟨.none, .none, ?_⟩ q)
    rw [hl]
    exact Heap.get?_push_size _ rfl
  show wpAny _ _ (callWith cpos (.builtin "dict.items") [.ref d] [] []) _ X.xe s1
  exact method_meetsIn F.slot_dict_items F.entry_dict_items rfl (PySem.evalArgs_none ⟨rfl, hm.dictOf.typeIs, F.args_dict_items_1 _, _, meets_dict_items (mixKind X.prog X.w) d hs, ⟨vs, hm.dictOf⟩, fin⟩)
theorem pi_keysM (he : PE X e td) (hbase : attributeBase e "keys" X.env (eval e X.env) = eval e X.env := by rfl) (hline : (apos.endLine == cpos.line) = true := by rfl) : PI X tg (.Call (.Attribute e "keys" apos) [] [] cpos) (iKeysM td) := by
  intro pins s σ H R I h
  refine wpAny_Call_method (T := "dict") (id := "dict.keys") hbase rfl hline F.plainAttrs_dict F.slot_dict_keys F.type_dict_keys (thn (he pins s σ H _ I h) fun u s1 ⟨x, H1, I1, rx, d, o, kvs, ex, hd, q⟩ => ?_)
  subst ex
  obtain rfl : u = Value.ref d := rx
  obtain ⟨hs, hgd, hx, es, ep, vs, hdt, hsz, kv, hm⟩ := I1.frzK hd
  have hl : kvs.length = vs.length := Paired.length kv
  refine ⟨hm.dictOf.typeIs, hm.dictOf.mapOf.noDict, ?_⟩
  have I2 : Inv X pins σ H1 { s1 with heap := s1.heap.push { cls := .type "dict_keys", data := .fields #[.ref d] } } := I1.kept (t' := s1.toks) fun b ob q => Heap.get?_push_of_some _ q
  have fin : wpAny (model X.prog X.w) X.A (pyIter (.ref s1.heap.objs.size)) (PIE X pins σ tg R) X.xe { s1 with heap := s1.heap.push { cls := .type "dict_keys", data := .fields #[.ref d] } } := by
    refine PySem.W.kdl_pyIter_keys (d := d) (knd := mixKind X.prog X.w) ⟨_, Heap.get?_push_size _ rfl, rfl, rfl⟩ (hm.push _) (pi_one (tk := s1.toks) I2 _ (turn_keys _ hdt) ⟨_, Heap.get?_push_size _ rfl, rfl, ?_⟩ q)
    rw [hl] <;> rfl
  show wpAny _ _ (callWith cpos (.builtin "dict.keys") [.ref d] [] []) _ X.xe s1
  exact method_meetsIn F.slot_dict_keys F.entry_dict_keys rfl (PySem.evalArgs_none ⟨rfl, hm.dictOf.typeIs, F.args_dict_keys_1 _, _, PySem.W.kdl_meets_keys (mixKind X.prog X.w) d hs, ⟨vs, hm.dictOf⟩, fin⟩)
end

/-! ### enumerate(list) -/
/-- the list at a as it stands at each turn, each item in a new pair -/
def Ite (K : PySem.W.Frag) (a : Addr) : It :=
  ⟨fun i H => ∃ (xs : List V) (x : V), SqL K H a xs ∧ xs[i]? = some x, fun i H v H' => ∃ T x, v = .ref T ∧ H T = none ∧ H' = upd H T (.tup [.int (i : Nat), x]) ∧ ∀ xs, SqL K H a xs → xs[i]? = some x, fun i H => ∃ xs : List V, SqL K H a xs ∧ xs.length ≤ i⟩
theorem turn_enum {P : Program} {w : World} {K : PySem.W.Frag} {elts : List Expr} {kk : Nat} {tpos : Pos} (a e it : Addr) :
    Turn P w K (.Tuple elts kk tpos) (Ite K a) [e, it] e (fun i h => (∃ old, IsEnum h e it ((i : Nat) : Int) old) ∧ h.IsListIter it a i ∧ e ≠ it) where
  mem := by simp
  obj := fun i h st b hb => by
    obtain ⟨⟨old, he⟩, ⟨o, ho, hc, hd⟩, _⟩ := st
    have e' : b = e ∨ b = it := by simpa using hb
    rcases e' with z | z
    · rw [z]; exact ⟨_, he, fun v q => nomatch q⟩
    · rw [z]; exact ⟨o, ho, fun v q => by rw [hd] at q; cases q⟩
  keep := fun i h h' st k => let ⟨⟨old, he⟩, hi, hne⟩ := st; ⟨⟨old, k e (by simp) _ he⟩, hi.at fun o q => k it (by simp) o q, hne⟩
  item := by
    intro X hP hw hK hc i pins s σ H E I hf st hg
    subst hP hw hK
    obtain ⟨⟨old, he⟩, hit, hne⟩ := st
    obtain ⟨xs, x, hq, hx⟩ := hg
    obtain ⟨its, rv, p, hz⟩ := I.list hq
    obtain ⟨u, hu, ru⟩ := rv.get hx
    have hel : e < s.heap.objs.size := Heap.lt_size he
    have hil : it < s.heap.objs.size := by obtain ⟨_, q, _⟩ := hit; exact Heap.lt_size q
    refine wpAny_pyNext_enum_item he hit p.isList (x := u) (by simpa using hu) hne fun h' ho hit' hT hsz hk => ?_
    refine ⟨_, rfl, wpAny_letOwnedTupleGo_enum (s := { s with heap := h', toks := s.toks + 1 }) ho fun h'' he' sb => ?_⟩
    have hT2 : h''.get? s.heap.objs.size = some { cls := .type "tuple", data := .seq #[.int i s.toks, u] } := (sb.2 _ (Nat.ne_of_gt hel)).trans hT
    have new : ObjOk X.prog X.w (upd H s.heap.objs.size (.tup [.int (i : Nat), x])) h'' s.heap.objs.size (.tup [.int (i : Nat), x]) :=
      ⟨by show 2 ≤ sizeLine; decide, [.int i s.toks, u], .cons ⟨_, rfl⟩ (.cons ru .nil), ⟨_, hT2, rfl, _, rfl⟩⟩
    have I1 : Inv X pins σ (upd H s.heap.objs.size (.tup [.int (i : Nat), x])) { s with heap := h'', toks := s.toks + 1 } :=
      I.turnedNew (ch := [e, it]) (fun b ob hb q => (sb.2 b (fun z => hb (by simp [z]))).trans (hk b ob (fun z => hb (by simp [z])) (fun z => hb (by simp [z])) q)) hf (Nat.le_refl _) new
    refine ⟨.ref s.heap.objs.size, _, I1, rfl, ⟨_, x, rfl, I.hok.fresh (Nat.le_refl _), rfl, fun ys hy => by rw [I.list_inj hy hq]; exact hx⟩, ⟨⟨u, ?_⟩, hit'.at fun o q => (sb.2 it (Ne.symm hne)).trans q, hne⟩, fun b hb => ?_⟩
    · have e1 : ((i + 1 : Nat) : Int) = (i : Int) + 1 := by omega
      rw [e1]; exact he'
    · have hb' : b < s.heap.objs.size := by
        have e' : b = e ∨ b = it := by simpa using hb
        rcases e' with z | z
        · rw [z]; exact hel
        · rw [z]; exact hil
      rw [upd_ne (Nat.ne_of_lt hb')]
      exact (hf b hb).1
  done := by
    intro X hP hw hK hc i pins s σ H E I hf st hg
    subst hP hw hK
    obtain ⟨⟨old, he⟩, hit, hne⟩ := st
    obtain ⟨xs, hq, hx⟩ := hg
    obtain ⟨its, rv, p, hz⟩ := I.list hq
    obtain ⟨f0, f1, f2, f3, f4, f5⟩ := hf it (by simp)
    have hl := rv.length
    exact wpAny_pyNext_enum_end (I.ok.hd hc) he hit p.isList (by simp; omega) fun h' eb => ⟨rfl, I.turned (t' := s.toks) (fun b o hb q => eb b o hb q) f0 f1 f3 f4 f5⟩
  self := fun A i s Q E st h => let ⟨⟨_, he⟩, _⟩ := st; wpAny_pyIter_enum he h
def iEnum (K : PySem.W.Frag) (ta : TA) : TI := fun σ H R => ta σ H fun vs H1 => ∃ a xs, vs = [.ref a] ∧ SqL K H1 a xs ∧ R (Ite K a) H1
theorem pi_enum {X : Cx} {e : Expr} {ta : TA} {p pos tpos : Pos} {elts : List Expr} {kk : Nat} (hg : Gl X "enumerate") (hm : X.mg "enumerate" = none) (ha : PA X [e] ta) (hs : starEach [e] X.env = [(false, eval e X.env)] := by rfl) :
    PI X (.Tuple elts kk tpos) (.Call (.Name "enumerate" p) [e] [] pos) (iEnum X.K ta) := by
  intro pins s σ H R I h
  refine Call_ (ld_blt I hg hm boot_enumerate (PyProof.Rows.callWith_type1 (thn (ha pos pins s σ H _ I h) fun us s1 ⟨vs, H1, I1, r1, q1⟩ => ?_) hs rfl))
  obtain ⟨a, xs, ex, hq, q⟩ := q1
  subst ex
  cases r1 with
  | cons r rr =>
    cases rr
    cases r
    obtain ⟨its, rv, p', hz⟩ := I1.list hq
    refine call_enumerate_list p'.isList fun h' he hit hsz hk => wpAny_pyIter_enum he ?_
    have I2 : Inv X pins σ H1 { s1 with heap := h' } := I1.kept (t' := s1.toks) hk
    refine ⟨s1.heap.objs.size + 1, [s1.heap.objs.size + 1, s1.heap.objs.size], _, _, H1, rfl, I2, turn_enum a (s1.heap.objs.size + 1) s1.heap.objs.size, ⟨⟨.none, he⟩, hit, Nat.succ_ne_self _⟩, fun b hb => ?_, q⟩
    have e' : b = s1.heap.objs.size + 1 ∨ b = s1.heap.objs.size := by simpa using hb
    have hle : s1.heap.objs.size ≤ b := by
      rcases e' with z | z
      · rw [z]; exact Nat.le_add_right _ _
      · rw [z]; exact Nat.le_refl _
    exact I1.fpOk hle (I1.hok.fresh hle)
/-! ### zip(list, list) -/
theorem boot_zip5 : bootBuiltins "zip" = some (.type "zip") := by decide +kernel
/-- the lists at a and b as they stand at each turn, the items in new pairs -/
def Itz (K : PySem.W.Frag) (a b : Addr) : It :=
  ⟨fun i H => ∃ (xs ys : List V) (x y : V), SqL K H a xs ∧ SqL K H b ys ∧ xs[i]? = some x ∧ ys[i]? = some y,
    fun i H v H' => ∃ T x y, v = .ref T ∧ H T = none ∧ H' = upd H T (.tup [x, y]) ∧ (∀ xs, SqL K H a xs → xs[i]? = some x) ∧ ∀ ys, SqL K H b ys → ys[i]? = some y,
    fun i H => ∃ xs ys : List V, SqL K H a xs ∧ SqL K H b ys ∧ (xs.length ≤ i ∨ ys.length ≤ i)⟩
theorem turn_zip {P : Program} {w : World} {K : PySem.W.Frag} {elts : List Expr} {kk : Nat} {tpos : Pos} {a b z TI TO i1 i2 : Addr} (D : ZipApart z TI TO i1 i2 a b) :
    Turn P w K (.Tuple elts kk tpos) (Itz K a b) [z, TI, TO, i1, i2] z (fun i h => IsZip h z TI TO .none ∧ IsPair h TI (.ref i1) (.ref i2) ∧ (∃ x y, IsPair h TO x y) ∧ h.IsListIter i1 a i ∧ h.IsListIter i2 b i) where
  mem := by simp
  obj := fun i h st c hc => by
    obtain ⟨hz, hTI, ⟨x, y, hTO⟩, ⟨o1, e1, _, d1⟩, ⟨o2, e2, _, d2⟩⟩ := st
    have e' : c = z ∨ c = TI ∨ c = TO ∨ c = i1 ∨ c = i2 := by simpa using hc
    rcases e' with q | q | q | q | q
    · rw [q]; exact ⟨_, hz, fun v q => nomatch q⟩
    · rw [q]; exact ⟨_, hTI, fun v q => nomatch q⟩
    · rw [q]; exact ⟨_, hTO, fun v q => nomatch q⟩
    · rw [q]; exact ⟨o1, e1, fun v q => by rw [d1] at q; cases q⟩
    · rw [q]; exact ⟨o2, e2, fun v q => by rw [d2] at q; cases q⟩
  keep := fun i h h' st k => by
    obtain ⟨hz, hTI, ⟨x, y, hTO⟩, h1, h2⟩ := st
    exact ⟨k z (by simp) _ hz, k TI (by simp) _ hTI, ⟨x, y, k TO (by simp) _ hTO⟩, h1.at fun o q => k i1 (by simp) o q, h2.at fun o q => k i2 (by simp) o q⟩
  item := by
    intro X hP hw hK hc i pins s σ H E I hf st hg
    subst hP hw hK
    obtain ⟨hz, hTI, ⟨x0, y0, hTO⟩, h1, h2⟩ := st
    obtain ⟨xs, ys, x, y, hqx, hqy, hx, hy⟩ := hg
    obtain ⟨its, rv, p, _⟩ := I.list hqx
    obtain ⟨its2, rv2, p2, _⟩ := I.list hqy
    obtain ⟨u, hu, ru⟩ := rv.get hx
    obtain ⟨u2, hu2, ru2⟩ := rv2.get hy
    have hzl : z < s.heap.objs.size := Heap.lt_size hz
    refine wpAny_pyNext_zip_item D hz hTI hTO h1 h2 p.isList p2.isList (x := u) (y := u2) (by simpa using hu) (by simpa using hu2) fun h' z' TO' h1' h2' hT hsz hk => ?_
    refine ⟨_, rfl, wpAny_letOwnedTupleGo_zip (s := { s with heap := h' }) z' fun h'' z'' sb => ?_⟩
    have hT2 : h''.get? s.heap.objs.size = some { cls := .type "tuple", data := .seq #[u, u2] } := (sb.2 _ (Nat.ne_of_gt hzl)).trans hT
    have new : ObjOk X.prog X.w (upd H s.heap.objs.size (.tup [x, y])) h'' s.heap.objs.size (.tup [x, y]) :=
      ⟨by show 2 ≤ sizeLine; decide, [u, u2], .cons ru (.cons ru2 .nil), ⟨_, hT2, rfl, _, rfl⟩⟩
    have I1 : Inv X pins σ (upd H s.heap.objs.size (.tup [x, y])) { s with heap := h'' } :=
      I.turnedNew (t' := s.toks) (ch := [z, TI, TO, i1, i2]) (fun c o hb q => (sb.2 c (fun q' => hb (by simp [q']))).trans (hk c o (fun q' => hb (by simp [q'])) (fun q' => hb (by simp [q'])) (fun q' => hb (by simp [q'])) (fun q' => hb (by simp [q'])) q)) hf (Nat.le_refl _) new
    refine ⟨.ref s.heap.objs.size, _, I1, rfl, ⟨_, x, y, rfl, I.hok.fresh (Nat.le_refl _), rfl, fun l hl => by rw [I.list_inj hl hqx]; exact hx, fun l hl => by rw [I.list_inj hl hqy]; exact hy⟩, ⟨z'', ?_, ⟨u, u2, ?_⟩, ?_, ?_⟩, fun c hcm => ?_⟩
    · exact (sb.2 _ D.TIz).trans (hk _ _ D.TIz D.TITO D.TIi1 D.TIi2 hTI)
    · exact (sb.2 _ D.TOz).trans TO'
    · exact h1'.at fun o q => (sb.2 _ D.i1z).trans q
    · exact h2'.at fun o q => (sb.2 _ D.i2z).trans q
    · have hlt : c < s.heap.objs.size := by
        have e' : c = z ∨ c = TI ∨ c = TO ∨ c = i1 ∨ c = i2 := by simpa using hcm
        rcases e' with q | q | q | q | q
        · rw [q]; exact hzl
        · rw [q]; exact Heap.lt_size hTI
        · rw [q]; exact Heap.lt_size hTO
        · rw [q]; obtain ⟨_, e1, _⟩ := h1; exact Heap.lt_size e1
        · rw [q]; obtain ⟨_, e2, _⟩ := h2; exact Heap.lt_size e2
      rw [upd_ne (Nat.ne_of_lt hlt)]
      exact (hf c hcm).1
  done := by
    intro X hP hw hK hc i pins s σ H E I hf st hg
    subst hP hw hK
    obtain ⟨hz, hTI, ⟨x0, y0, hTO⟩, h1, h2⟩ := st
    obtain ⟨xs, ys, hqx, hqy, hend⟩ := hg
    obtain ⟨its, rv, p, _⟩ := I.list hqx
    obtain ⟨its2, rv2, p2, _⟩ := I.list hqy
    have l1 := rv.length
    have l2 := rv2.length
    have he : its.toArray[i]? = none ∨ its2.toArray[i]? = none := by
      rcases hend with q | q
      · exact .inl (by simp; omega)
      · exact .inr (by simp; omega)
    exact wpAny_pyNext_zip_end (I.ok.hd hc) D hz hTI hTO h1 h2 p.isList p2.isList he fun h' hk => ⟨rfl, I.turnedL (t' := s.toks) (ch := [z, TI, TO, i1, i2]) (fun c o hb q =>
      hk c o (fun q' => hb (by simp [q'])) (fun q' => hb (by simp [q'])) (fun q' => hb (by simp [q'])) (fun q' => hb (by simp [q'])) q) hf⟩
  self := fun A i s Q E st h => wpAny_pyIter_zip st.1 h
def iZip (K : PySem.W.Frag) (ta : TA) : TI := fun σ H R => ta σ H fun vs H1 => ∃ a b xs ys, vs = [.ref a, .ref b] ∧ SqL K H1 a xs ∧ SqL K H1 b ys ∧ R (Itz K a b) H1
theorem pi_zip {X : Cx} {e e2 : Expr} {ta : TA} {p pos tpos : Pos} {elts : List Expr} {kk : Nat} (hg : Gl X "zip") (hm : X.mg "zip" = none) (ha : PA X [e, e2] ta)
    (hs : starEach [e, e2] X.env = (false, eval e X.env) :: starEach [e2] X.env := by rfl) (hpl : (backTo pos (starEach [e2] X.env)).any (·.1) = false := by rfl) :
    PI X (.Tuple elts kk tpos) (.Call (.Name "zip" p) [e, e2] [] pos) (iZip X.K ta) := by
  intro pins s σ H R I h
  refine Call_ (ld_blt I hg hm boot_zip5 (PyProof.Rows.callWith_type1 (thn (ha pos pins s σ H _ I h) fun us s1 ⟨vs, H1, I1, r1, q1⟩ => ?_) hs hpl))
  obtain ⟨a, b, xs, ys, ex, hqx, hqy, q⟩ := q1
  subst ex
  cases r1 with
  | cons r rr =>
    cases rr with
    | cons r' rr =>
      cases rr
      cases r
      cases r'
      obtain ⟨its, rv, p1, _⟩ := I1.list hqx
      obtain ⟨its2, rv2, p2, _⟩ := I1.list hqy
      have la : a < s1.heap.objs.size := p1.lt
      have lb : b < s1.heap.objs.size := p2.lt
      refine call_zip_2 p1.isList p2.isList fun h' hz hTI hTO h1 h2 hsz hk => wpAny_pyIter_zip hz ?_
      have I2 : Inv X pins σ H1 { s1 with heap := h' } := I1.kept (t' := s1.toks) hk
      refine ⟨s1.heap.objs.size + 4, [s1.heap.objs.size + 4, s1.heap.objs.size + 2, s1.heap.objs.size + 3, s1.heap.objs.size, s1.heap.objs.size + 1], _, _, H1, rfl, I2, turn_zip (PySem.W.ktu_apart s1.heap.objs.size a b la lb), ⟨hz, hTI, ⟨_, _, hTO⟩, h1, h2⟩, fun c hcm => ?_, q⟩
      have e' : c = s1.heap.objs.size + 4 ∨ c = s1.heap.objs.size + 2 ∨ c = s1.heap.objs.size + 3 ∨ c = s1.heap.objs.size ∨ c = s1.heap.objs.size + 1 := by simpa using hcm
      have hle : s1.heap.objs.size ≤ c := by
        rcases e' with z | z | z | z | z
        · rw [z]; exact Nat.le_add_right _ _
        · rw [z]; exact Nat.le_add_right _ _
        · rw [z]; exact Nat.le_add_right _ _
        · rw [z]; exact Nat.le_refl _
        · rw [z]; exact Nat.le_add_right _ _
      exact I1.fpOk hle (I1.hok.fresh hle)
end L2

section 
namespace Bits
open PySem PyProof.Rows

theorem nat_and_mul_pow (k : Nat) : ∀ a b : Nat, a < 2 ^ k → a &&& (b * 2 ^ k) = 0 := by
  induction k with
  | zero =>
    intro a b h
    have h0 : a = 0 := by
      rw [Nat.pow_zero] at h
      omega
    subst h0
    simp
  | succ k ih =>
    intro a b h
    have hm : (b * 2 ^ (k + 1)) = (b * 2 ^ k) * 2 := by rw [Nat.pow_succ, Nat.mul_assoc]
    have hlt : a / 2 < 2 ^ k := by
      rw [Nat.pow_succ] at h
      generalize 2 ^ k = m at h ⊢
      omega
    have i := ih (a / 2) b hlt
    rw [hm]
    generalize b * 2 ^ k = B at i ⊢
    have e : (a &&& (B * 2)) / 2 = a / 2 &&& (B * 2) / 2 := Nat.and_div_two
    have e2 : (B * 2) / 2 = B := by omega
    have o := @Nat.and_mod_two_eq_one a (B * 2)
    rw [e2, i] at e
    omega

theorem natCast_mul_pow (m k : Nat) : (m : Int) * 2 ^ k = ((m * 2 ^ k : Nat) : Int) := by
  rw [two_pow_cast]
  first
    | exact (Int.natCast_mul _ _).symm
    | simp

/-- low bits a, high part b: (b << k) | a -/
theorem bitOr_join {a b : Int} {k : Nat} (h0 : 0 ≤ a) (h1 : a < 2 ^ k) (hb : 0 ≤ b) : Builtin.bitOr a (b * 2 ^ k) = a + b * 2 ^ k := by
  obtain ⟨n, rfl⟩ := Int.eq_ofNat_of_zero_le h0
  obtain ⟨m, rfl⟩ := Int.eq_ofNat_of_zero_le hb
  have hn : n < 2 ^ k := by
    rw [two_pow_cast] at h1
    omega
  have e : Builtin.bitAnd (n : Int) ((m * 2 ^ k : Nat) : Int) = 0 := by
    rw [bitAnd_pp (by omega) (by omega), Int.toNat_natCast, Int.toNat_natCast, nat_and_mul_pow k n m hn] <;> rfl
  rw [natCast_mul_pow, bitOr_and, e]
  omega
theorem bitOr_join' {a b : Int} {k : Nat} (h0 : 0 ≤ a) (h1 : a < 2 ^ k) (hb : 0 ≤ b) : Builtin.bitOr (b * 2 ^ k) a = a + b * 2 ^ k := by
  rw [bitOr_comm]
  exact bitOr_join h0 h1 hb

/-- x & ((1 << k) - 1) -/
theorem bitAnd_mask {x : Int} (k : Nat) (hx : 0 ≤ x) : Builtin.bitAnd x (2 ^ k - 1) = x % 2 ^ k := by
  obtain ⟨n, rfl⟩ := Int.eq_ofNat_of_zero_le hx
  have hp : 0 < 2 ^ k := Nat.two_pow_pos k
  rw [two_pow_cast]
  have e : ((2 ^ k : Nat) : Int) - 1 = ((2 ^ k - 1 : Nat) : Int) := by
    generalize (2 : Nat) ^ k = m at hp
    omega
  rw [e, bitAnd_pp (by omega) (by omega), Int.toNat_natCast, Int.toNat_natCast, Nat.and_two_pow_sub_one_eq_mod]
  first
    | rfl
    | exact Int.natCast_emod _ _
    | simp

/-- (x >> i) & 1 -/
theorem bit_at {x : Int} (i : Nat) : Builtin.bitAnd (x.fdiv (2 ^ i)) 1 = x / 2 ^ i % 2 := by
  have hp : (0 : Int) ≤ 2 ^ i := by
    rw [two_pow_cast]
    exact Int.natCast_nonneg _
  rw [Int.fdiv_eq_ediv_of_nonneg _ hp, bitAnd_m1]

theorem nat_xor_add_and (m : Nat) : ∀ n : Nat, (m ^^^ n) + 2 * (m &&& n) = m + n := by
  induction m using Nat.strongRecOn with
  | _ m ih =>
    intro n
    by_cases h0 : m = 0
    · subst h0
      simp
    · have ih' := ih (m / 2) (by omega) (n / 2)
      rw [← Nat.xor_div_two, ← Nat.and_div_two] at ih'
      have o1 := @Nat.xor_mod_two_eq_one m n
      have a1 := @Nat.and_mod_two_eq_one m n
      omega

theorem bitXor_pp {x y : Int} (hx : 0 ≤ x) (hy : 0 ≤ y) : Builtin.bitXor x y = ((x.toNat ^^^ y.toNat : Nat) : Int) := by
  have e := nat_xor_add_and x.toNat y.toNat
  rw [bitXor_and, bitAnd_pp hx hy]
  omega
theorem bitOr_pp {x y : Int} (hx : 0 ≤ x) (hy : 0 ≤ y) : Builtin.bitOr x y = ((x.toNat ||| y.toNat : Nat) : Int) := by
  have e := nat_or_add_and x.toNat y.toNat
  rw [bitOr_and, bitAnd_pp hx hy]
  omega
theorem bitXor_nonneg {x y : Int} (hx : 0 ≤ x) (hy : 0 ≤ y) : 0 ≤ Builtin.bitXor x y := by
  rw [bitXor_pp hx hy]
  omega
theorem bitOr_nonneg {x y : Int} (hx : 0 ≤ x) (hy : 0 ≤ y) : 0 ≤ Builtin.bitOr x y := by
  rw [bitOr_pp hx hy]
  omega

end Bits
end 

section 
namespace TL
open PySem PySem.Builtin PySem.Builtin.Str PySem.StrLaws

abbrev tl (x : Str) : List Nat := x.cps.toList
theorem len_tl (x : Str) : x.length = (tl x).length := by simp [tl, Str.length]
theorem ext_tl {x y : Str} (h : tl x = tl y) : x = y := Str.ext' (Array.toList_inj.mp h)
theorem tl_append (x y : Str) : tl (x ++ y) = tl x ++ tl y := by
  show (x ++ y).cps.toList = _
  rw [Str.cps_append, Array.toList_append]
theorem tl_mk (l : List Nat) : tl ⟨l.toArray⟩ = l := rfl
theorem mk_tl (x : Str) : (⟨(tl x).toArray⟩ : Str) = x := ext_tl rfl
theorem map_tl_inj : ∀ {l m : List Str}, l.map tl = m.map tl → l = m
  | [], [], _ => rfl
  | [], _ :: _, h => by simp at h
  | _ :: _, [], h => by simp at h
  | x :: l, y :: m, h => by
    rw [List.map_cons, List.map_cons] at h
    injection h with h1 h2
    rw [ext_tl h1, map_tl_inj h2]
theorem tl_ofString (s : String) : tl (Str.ofString s) = s.toList.map Char.toNat := PyProof.Rows.signs_ofString s

/-! ### the list functions -/
/-- S stands at the head of l -/
def pre (S l : List Nat) : Bool := l.take S.length == S
/-- l cut at each S from the left; k signs are still to be passed over -/
def spl (S : List Nat) : Nat → List Nat → List Nat → List (List Nat)
  | _, acc, [] => [acc]
  | 0, acc, c :: r => if pre S (c :: r) = true then acc :: spl S (S.length - 1) [] r else spl S 0 (acc ++ [c]) r
  | k + 1, acc, _ :: r => spl S k acc r
/-- what stands before the first S, and behind it -/
def par (S : List Nat) : List Nat → List Nat → Option (List Nat × List Nat)
  | _, [] => none
  | acc, c :: r => if pre S (c :: r) = true then some (acc, (c :: r).drop S.length) else par S (acc ++ [c]) r

theorem spl_nil (S : List Nat) (k : Nat) (acc : List Nat) : spl S k acc [] = [acc] := by cases k <;> rfl
theorem spl_hit {S acc r : List Nat} {c : Nat} (h : pre S (c :: r) = true) : spl S 0 acc (c :: r) = acc :: spl S (S.length - 1) [] r := by
  show (if pre S (c :: r) = true then acc :: spl S (S.length - 1) [] r else spl S 0 (acc ++ [c]) r) = _
  rw [if_pos h]
theorem spl_miss {S acc r : List Nat} {c : Nat} (h : pre S (c :: r) = false) : spl S 0 acc (c :: r) = spl S 0 (acc ++ [c]) r := by
  show (if pre S (c :: r) = true then acc :: spl S (S.length - 1) [] r else spl S 0 (acc ++ [c]) r) = _
  rw [if_neg (by rw [h]; exact Bool.false_ne_true)]
theorem spl_pass (S : List Nat) : ∀ (k : Nat) (acc l : List Nat), spl S k acc l = spl S 0 acc (l.drop k)
  | 0, _, _ => by rw [List.drop_zero]
  | k + 1, acc, [] => by rw [List.drop_nil, spl_nil, spl_nil]
  | k + 1, acc, c :: r => by
    show spl S k acc r = spl S 0 acc (r.drop k)
    exact spl_pass S k acc r
theorem par_hit {S acc r : List Nat} {c : Nat} (h : pre S (c :: r) = true) : par S acc (c :: r) = some (acc, (c :: r).drop S.length) := by
  show (if pre S (c :: r) = true then some (acc, (c :: r).drop S.length) else par S (acc ++ [c]) r) = _
  rw [if_pos h]
theorem par_miss {S acc r : List Nat} {c : Nat} (h : pre S (c :: r) = false) : par S acc (c :: r) = par S (acc ++ [c]) r := by
  show (if pre S (c :: r) = true then some (acc, (c :: r).drop S.length) else par S (acc ++ [c]) r) = _
  rw [if_neg (by rw [h]; exact Bool.false_ne_true)]

theorem pre_nil {S : List Nat} (hS : S ≠ []) : pre S [] = false := by
  cases S with
  | nil => exact absurd rfl hS
  | cons s S => rfl
theorem pre_of_head {s c : Nat} (S r : List Nat) (h : c ≠ s) : pre (s :: S) (c :: r) = false := by
  cases hp : pre (s :: S) (c :: r) with
  | false => rfl
  | true =>
    have e : (c :: r).take (s :: S).length = s :: S := eq_of_beq hp
    rw [List.length_cons, List.take_succ_cons] at e
    injection e with e1 e2
    exact absurd e1 h
theorem pre_self (S r : List Nat) : pre S (S ++ r) = true := by
  show ((S ++ r).take S.length == S) = true
  have e : (S ++ r).take S.length = S := List.take_left
  rw [e] <;> exact beq_self_eq_true S

theorem getElem_drop_cons {L : List Nat} {a : Nat} (h : a < L.length) : ∃ c, L.drop a = c :: L.drop (a + 1) := ⟨L[a], List.drop_eq_getElem_cons h⟩
theorem spl_run (S L : List Nat) : ∀ (m a : Nat) (acc : List Nat), a + m ≤ L.length → (∀ k, a ≤ k → k < a + m → pre S (L.drop k) = false) →
    spl S 0 acc (L.drop a) = spl S 0 (acc ++ (L.drop a).take m) (L.drop (a + m))
  | 0, a, acc, _, _ => by rw [List.take_zero, List.append_nil, Nat.add_zero]
  | m + 1, a, acc, h, hn => by
    have hlt : a < L.length := by omega
    obtain ⟨c, e⟩ := getElem_drop_cons hlt
    have h0 := hn a (Nat.le_refl _) (by omega)
    have ih := spl_run S L m (a + 1) (acc ++ [c]) (by omega) (fun k h1 h2 => hn k (by omega) (by omega))
    have e2 : a + 1 + m = a + (m + 1) := by omega
    rw [e2] at ih
    rw [e] at h0
    rw [e, spl_miss h0, ih, List.take_succ_cons, List.append_assoc] <;> rfl
theorem par_run (S L : List Nat) : ∀ (m a : Nat) (acc : List Nat), a + m ≤ L.length → (∀ k, a ≤ k → k < a + m → pre S (L.drop k) = false) →
    par S acc (L.drop a) = par S (acc ++ (L.drop a).take m) (L.drop (a + m))
  | 0, a, acc, _, _ => by rw [List.take_zero, List.append_nil, Nat.add_zero]
  | m + 1, a, acc, h, hn => by
    have hlt : a < L.length := by omega
    obtain ⟨c, e⟩ := getElem_drop_cons hlt
    have h0 := hn a (Nat.le_refl _) (by omega)
    have ih := par_run S L m (a + 1) (acc ++ [c]) (by omega) (fun k h1 h2 => hn k (by omega) (by omega))
    have e2 : a + 1 + m = a + (m + 1) := by omega
    rw [e2] at ih
    rw [e] at h0
    rw [e, par_miss h0, ih, List.take_succ_cons, List.append_assoc] <;> rfl
theorem drop_two (L : List Nat) (a b : Nat) : (L.drop a).drop b = L.drop (a + b) := by
  first
    | rw [List.drop_drop]
    | rw [List.drop_drop, Nat.add_comm]
theorem spl_at {S L : List Nat} (hS : S ≠ []) {c : Nat} {acc : List Nat} (h : pre S (L.drop c) = true) : spl S 0 acc (L.drop c) = acc :: spl S 0 [] (L.drop (c + S.length)) := by
  rw [← drop_two]
  cases e : L.drop c with
  | nil => rw [e, pre_nil hS] at h; cases h
  | cons d r =>
    rw [e] at h
    rw [spl_hit h, spl_pass]
    cases S with
    | nil => exact absurd rfl hS
    | cons s S => rfl
theorem par_at {S L : List Nat} (hS : S ≠ []) {c : Nat} {acc : List Nat} (h : pre S (L.drop c) = true) : par S acc (L.drop c) = some (acc, L.drop (c + S.length)) := by
  rw [← drop_two]
  cases e : L.drop c with
  | nil => rw [e, pre_nil hS] at h; cases h
  | cons d r =>
    rw [e] at h
    rw [par_hit h]

/-! ### the model's split and partition are these -/
theorem at_iff {x y : Str} (hy : tl y ≠ []) (i : Nat) : At x y x.length i ↔ pre (tl y) ((tl x).drop i) = true := by
  have hx := len_tl x
  have hl := len_tl y
  constructor
  · intro h
    have h2 := h.2
    rw [subAt_eq, hl] at h2
    exact h2
  · intro h
    have e : ((tl x).drop i).take (tl y).length = tl y := eq_of_beq h
    have e1 := congrArg List.length e
    rw [List.length_take, List.length_drop] at e1
    have e2 : 0 < (tl y).length := List.length_pos_iff.mpr hy
    refine ⟨by omega, ?_⟩
    rw [subAt_eq, hl]
    exact h
theorem no_at {x y : Str} (hy : tl y ≠ []) {i : Nat} (h : ¬ At x y x.length i) : pre (tl y) ((tl x).drop i) = false := by
  cases hp : pre (tl y) ((tl x).drop i) with
  | false => rfl
  | true => exact absurd ((at_iff hy i).mpr hp) h
theorem len1 {y : Str} (hy : tl y ≠ []) : 1 ≤ y.length := by
  have e2 : 0 < (tl y).length := List.length_pos_iff.mpr hy
  rw [len_tl y]
  exact e2
theorem tl_strSub (x : Str) (i j : Nat) : tl (strSub x i j) = ((tl x).drop i).take (j - i) := strSub_toList x i j
theorem tl_strSub_end (x : Str) (i : Nat) : tl (strSub x i x.length) = (tl x).drop i := by
  rw [tl_strSub, len_tl x]
  exact List.take_of_length_le (by rw [List.length_drop] <;> omega)

theorem parts_spl {x y : Str} (hy : tl y ≠ []) : ∀ (cuts : List Nat) (a f : Nat), a ≤ (tl x).length → ChainG x y x.length a cuts f → (∀ k, f ≤ k → ¬ At x y x.length k) →
    (partsFrom x y.length a cuts).map tl = spl (tl y) 0 [] ((tl x).drop a)
  | [], a, f, ha, h, hn => by
    have e : f = a := h
    subst e
    show [tl (strSub x f x.length)] = _
    have run := spl_run (tl y) (tl x) ((tl x).length - f) f [] (by omega) (fun k h1 _ => no_at hy (hn k h1))
    have e2 : f + ((tl x).length - f) = (tl x).length := by omega
    rw [e2, List.drop_length, spl_nil, List.nil_append, List.take_of_length_le (by rw [List.length_drop] <;> omega)] at run
    rw [run, tl_strSub_end]
  | c :: r, a, f, ha, h, hn => by
    obtain ⟨h1, h2, h3, h4⟩ := h
    have hc : c + y.length ≤ x.length := h2.1
    have hx := len_tl x
    have hl := len_tl y
    have ih := parts_spl hy r (c + y.length) f (by omega) h4 hn
    show tl (strSub x a c) :: (partsFrom x y.length (c + y.length) r).map tl = _
    have run := spl_run (tl y) (tl x) (c - a) a [] (by omega) (fun k k1 k2 => no_at hy (h3 k k1 (by omega)))
    have e2 : a + (c - a) = c := by omega
    rw [e2, List.nil_append, spl_at hy ((at_iff hy c).mp h2)] at run
    rw [run, ih, tl_strSub, hl]

/-- hk: by kind_ok where the separator is plain -/
theorem split_spl (x y : Str) (hy : tl y ≠ []) (hk : ¬ Builtin.Str.strKind x < Builtin.Str.strKind y) : (Txt.split x y).map tl = spl (tl y) 0 [] (tl x) := by
  obtain ⟨f, g, hn⟩ := occ_tight x y (len1 hy)
  have key := parts_spl hy _ 0 f (Nat.zero_le _) g hn
  rw [List.drop_zero] at key
  have none_case : occurrences x y 0 x.length (x.length + 1) = [] → [x].map tl = spl (tl y) 0 [] (tl x) := fun ho => by
    rw [ho] at key
    rw [← key]
    show [tl x] = [tl (strSub x 0 x.length)]
    rw [sub_whole]
  unfold Txt.split
  by_cases h1 : (decide (x.length < y.length) || decide (Builtin.Str.strKind x < Builtin.Str.strKind y)) = true
  · rw [if_pos h1]
    have hlt : x.length < y.length := by
      simp only [Bool.or_eq_true, decide_eq_true_eq] at h1
      rcases h1 with h | h
      · exact h
      · exact absurd h hk
    refine none_case ?_
    cases ho : occurrences x y 0 x.length (x.length + 1) with
    | nil => rfl
    | cons c r =>
      rw [ho] at g
      have hc : c + y.length ≤ x.length := g.2.1.1
      omega
  · rw [if_neg h1]
    by_cases h2 : (occurrences x y 0 x.length (x.length + 1)).isEmpty = true
    · rw [if_pos h2]
      exact none_case (List.isEmpty_iff.mp h2)
    · rw [if_neg h2, partsBetween_eq]
      exact key
theorem kind_ok {x y : Str} (h : y.cps.all (· < 256) = true) : ¬ Builtin.Str.strKind x < Builtin.Str.strKind y := by
  have e : Builtin.Str.strKind y = 1 := by unfold PySem.Builtin.Str.strKind; rw [if_pos h]
  rw [e]
  unfold PySem.Builtin.Str.strKind
  split
  · omega
  · split <;> omega

theorem partition_par (x y : Str) (hy : tl y ≠ []) :
    Txt.partition x y = (match par (tl y) [] (tl x) with | some (a, b) => (⟨a.toArray⟩, y, ⟨b.toArray⟩) | none => (x, Str.empty, Str.empty)) := by
  have hx := len_tl x
  have hl := len_tl y
  rcases PyProof.Rows.partition_whole x y with ⟨e, hn⟩ | ⟨i, e, hi, hn⟩
  · have run := par_run (tl y) (tl x) (tl x).length 0 [] (by omega) (fun k _ _ => no_at hy (hn k))
    rw [List.drop_zero, Nat.zero_add, List.drop_length] at run
    rw [e, run] <;> rfl
  · have hb : i + y.length ≤ x.length := hi.1
    have run := par_run (tl y) (tl x) i 0 [] (by omega) (fun k _ k2 => no_at hy (hn k (by omega)))
    rw [List.drop_zero, Nat.zero_add, List.nil_append, par_at hy ((at_iff hy i).mp hi)] at run
    rw [e, run]
    have e1 : strSub x 0 i = ⟨((tl x).take i).toArray⟩ := ext_tl (by rw [tl_strSub, List.drop_zero, Nat.sub_zero])
    have e2 : strSub x (i + y.length) x.length = ⟨((tl x).drop (i + (tl y).length)).toArray⟩ := ext_tl (by rw [tl_strSub_end, hl])
    rw [e1, e2] <;> rfl

/-! ### computing spl and par -/
/-- a part that the separator does not begin in, then the separator -/
theorem spl_part {S p rest acc : List Nat} (hS : S ≠ []) (h : ∀ i, i < p.length → pre S ((p ++ (S ++ rest)).drop i) = false) :
    spl S 0 acc (p ++ (S ++ rest)) = (acc ++ p) :: spl S 0 [] rest := by
  have run := spl_run S (p ++ (S ++ rest)) p.length 0 acc (by rw [List.length_append]; omega) (fun k _ k2 => h k (by omega))
  have ed : (p ++ (S ++ rest)).drop p.length = S ++ rest := List.drop_left
  rw [List.drop_zero, Nat.zero_add, List.take_left] at run
  rw [run, spl_at hS (by rw [ed]; exact pre_self S rest), ← drop_two, ed, List.drop_left]
theorem spl_last {S p acc : List Nat} (h : ∀ i, i < p.length → pre S (p.drop i) = false) : spl S 0 acc p = [acc ++ p] := by
  have run := spl_run S p p.length 0 acc (by omega) (fun k _ k2 => h k (by omega))
  rw [List.drop_zero, Nat.zero_add, List.drop_length, spl_nil, List.take_length] at run
  exact run
theorem par_part {S p rest acc : List Nat} (hS : S ≠ []) (h : ∀ i, i < p.length → pre S ((p ++ (S ++ rest)).drop i) = false) :
    par S acc (p ++ (S ++ rest)) = some (acc ++ p, rest) := by
  have run := par_run S (p ++ (S ++ rest)) p.length 0 acc (by rw [List.length_append]; omega) (fun k _ k2 => h k (by omega))
  have ed : (p ++ (S ++ rest)).drop p.length = S ++ rest := List.drop_left
  rw [List.drop_zero, Nat.zero_add, List.take_left] at run
  rw [run, par_at hS (by rw [ed]; exact pre_self S rest), ← drop_two, ed, List.drop_left]
theorem par_none {S p acc : List Nat} (h : ∀ i, i < p.length → pre S (p.drop i) = false) : par S acc p = none := by
  have run := par_run S p p.length 0 acc (by omega) (fun k _ k2 => h k (by omega))
  rw [List.drop_zero, Nat.zero_add, List.drop_length] at run
  exact run
/-- the separator's first sign is not in the part -/
theorem free_of {s : Nat} {S p q : List Nat} (h : s ∉ p) : ∀ i, i < p.length → pre (s :: S) ((p ++ q).drop i) = false := fun i hi => by
  have hlt : i < (p ++ q).length := by rw [List.length_append]; omega
  have e : (p ++ q).drop i = (p ++ q)[i] :: (p ++ q).drop (i + 1) := List.drop_eq_getElem_cons hlt
  rw [e]
  refine pre_of_head _ _ fun z => h ?_
  have e1 : (p ++ q)[i] = p[i] := List.getElem_append_left hi
  rw [← z, e1]
  exact List.getElem_mem hi
theorem spl_part1 {s : Nat} {S p rest acc : List Nat} (h : s ∉ p) : spl (s :: S) 0 acc (p ++ (s :: S ++ rest)) = (acc ++ p) :: spl (s :: S) 0 [] rest :=
  spl_part (by simp) (free_of h)
theorem spl_last1 {s : Nat} {S p acc : List Nat} (h : s ∉ p) : spl (s :: S) 0 acc p = [acc ++ p] := spl_last fun i hi => by
  have z := free_of (S := S) (q := []) h i hi
  rw [List.append_nil] at z
  exact z
theorem par_part1 {s : Nat} {S p rest acc : List Nat} (h : s ∉ p) : par (s :: S) acc (p ++ (s :: S ++ rest)) = some (acc ++ p, rest) := par_part (by simp) (free_of h)
theorem par_none1 {s : Nat} {S p acc : List Nat} (h : s ∉ p) : par (s :: S) acc p = none := par_none fun i hi => by
  have z := free_of (S := S) (q := []) h i hi
  rw [List.append_nil] at z
  exact z

/-- joined lists -/
def joinL (S : List Nat) : List (List Nat) → List Nat
  | [] => []
  | [p] => p
  | p :: q :: r => p ++ (S ++ joinL S (q :: r))
theorem tl_join (y : Str) : ∀ parts : List Str, tl (Str.join y parts) = joinL (tl y) (parts.map tl)
  | [] => rfl
  | [_] => rfl
  | x :: z :: r => by
    show tl (x ++ y ++ Str.join y (z :: r)) = tl x ++ (tl y ++ joinL (tl y) ((z :: r).map tl))
    rw [tl_append, tl_append, tl_join y (z :: r), List.append_assoc]
theorem spl_join {s : Nat} {S : List Nat} : ∀ {parts : List (List Nat)}, parts ≠ [] → (∀ p ∈ parts, s ∉ p) → spl (s :: S) 0 [] (joinL (s :: S) parts) = parts
  | [], h, _ => absurd rfl h
  | [p], _, hp => by
    show spl (s :: S) 0 [] p = [p]
    rw [spl_last1 (hp p (List.mem_singleton.mpr rfl)), List.nil_append]
  | p :: q :: r, _, hp => by
    show spl (s :: S) 0 [] (p ++ (s :: S ++ joinL (s :: S) (q :: r))) = p :: q :: r
    rw [spl_part1 (hp p (List.mem_cons_self ..)), List.nil_append, spl_join (by simp) fun z hz => hp z (List.mem_cons_of_mem _ hz)]
theorem join_eq (y : Str) (parts : List Str) : Txt.join y parts = Str.join y parts := glued_eq_join y parts
/-- THE READ-BACK: a joined text, split -/
theorem split_join {y : Str} {s : Nat} {S : List Nat} (ey : tl y = s :: S) (hk : y.cps.all (· < 256) = true) {parts : List Str} (hne : parts ≠ []) (hp : ∀ p ∈ parts, s ∉ tl p) :
    Txt.split (Txt.join y parts) y = parts := by
  refine map_tl_inj ?_
  rw [split_spl _ y (by rw [ey]; simp) (kind_ok hk), join_eq, tl_join, ey]
  refine spl_join (fun e => hne (List.map_eq_nil_iff.mp e)) fun p h => ?_
  obtain ⟨z, hz, rfl⟩ := List.mem_map.mp h
  exact hp z hz
/-- a text cut at its first separator -/
theorem partition_app {y : Str} {s : Nat} {S : List Nat} (ey : tl y = s :: S) {a b : Str} (h : s ∉ tl a) : Txt.partition (a ++ y ++ b) y = (a, y, b) := by
  rw [partition_par _ y (by rw [ey]; simp), tl_append, tl_append, List.append_assoc, ey, par_part1 h]
  show ((⟨([] ++ tl a).toArray⟩ : Str), y, (⟨(tl b).toArray⟩ : Str)) = _
  rw [List.nil_append, mk_tl, mk_tl]
theorem partition_none {y : Str} {s : Nat} {S : List Nat} (ey : tl y = s :: S) {a : Str} (h : s ∉ tl a) : Txt.partition a y = (a, Str.empty, Str.empty) := by
  rw [partition_par _ y (by rw [ey]; simp), ey, par_none1 h]

/-! ### digits -/
/-- the signs of a number -/
def numL (n : Nat) : List Nat := (Nat.toDigits 10 n).map Char.toNat
theorem tl_num (n : Nat) : tl (Str.ofString (toString ((n : Nat) : Int))) = numL n := PySem.W.KIN.signs_num n
theorem digitChar_nat : ∀ d : Nat, d < 10 → (Nat.digitChar d).toNat = 48 + d := by decide
theorem numL_lt {n : Nat} (h : n < 10) : numL n = [48 + n] := by
  unfold numL
  rw [Nat.toDigits_of_lt_base h]
  show [(Nat.digitChar n).toNat] = _
  rw [digitChar_nat n h]
theorem numL_step {n : Nat} (h : 10 ≤ n) : numL n = numL (n / 10) ++ [48 + n % 10] := by
  have hm : n % 10 < 10 := Nat.mod_lt n (by decide)
  have t : Nat.toDigits 10 (n / 10) ++ Nat.toDigits 10 (n % 10) = Nat.toDigits 10 (10 * (n / 10) + n % 10) := Nat.toDigits_append_toDigits (by decide) (by omega) hm
  rw [Nat.div_add_mod] at t
  show (Nat.toDigits 10 n).map Char.toNat = _
  rw [← t, List.map_append, Nat.toDigits_of_lt_base hm]
  show (Nat.toDigits 10 (n / 10)).map Char.toNat ++ [(Nat.digitChar (n % 10)).toNat] = _
  rw [digitChar_nat _ hm] <;> rfl
theorem numL_digits (n : Nat) : NumText.AllDigits (numL n) := by
  induction n using Nat.strongRecOn with
  | _ n ih =>
    by_cases h : n < 10
    · rw [numL_lt h]
      intro c hc
      rw [List.mem_singleton.mp hc]
      omega
    · rw [numL_step (by omega)]
      intro c hc
      rcases List.mem_append.mp hc with hc | hc
      · exact ih (n / 10) (by omega) c hc
      · have hm : n % 10 < 10 := Nat.mod_lt n (by decide)
        rw [List.mem_singleton.mp hc]
        omega
theorem numL_ne (n : Nat) : numL n ≠ [] := by
  by_cases h : n < 10
  · rw [numL_lt h]
    simp
  · rw [numL_step (by omega)]
    simp
theorem numL_free {n s : Nat} (h : s < 48 ∨ 57 < s) : s ∉ numL n := fun hm => by
  have r := numL_digits n s hm
  omega
theorem numL_val (n : Nat) : NumText.digitsVal (numL n) = n := PySem.W.KIN.val_back n
theorem numL_inj {m n : Nat} (h : numL m = numL n) : m = n := by
  have e := congrArg NumText.digitsVal h
  rw [numL_val, numL_val] at e
  exact e
theorem numL_len {n k : Nat} (hk : 0 < k) (h : n < 10 ^ k) : (numL n).length ≤ k := by
  have z := PyProof.Rows.toString_length_le (v := (n : Int)) (by omega) hk (by
    have e : ((10 : Int) ^ k) = ((10 ^ k : Nat) : Int) := by
      first
        | exact (Int.natCast_pow 10 k).symm
        | simp
    rw [e]
    first | exact Int.ofNat_lt.mpr h | omega)
  rw [len_tl, tl_num] at z
  exact z
/-- int(str(n)) -/
theorem int_num {n : Nat} (h : (numL n).length ≤ 4300) : intText? (Str.ofString (toString ((n : Nat) : Int))) = some (n : Int) := by
  have e := intText_digits (x := Str.ofString (toString ((n : Nat) : Int))) (by rw [show (Str.ofString (toString ((n : Nat) : Int))).cps.toList = numL n from tl_num n]; exact numL_digits n)
    (by rw [show (Str.ofString (toString ((n : Nat) : Int))).cps.toList = numL n from tl_num n]; exact numL_ne n) (by rw [len_tl, tl_num]; exact h)
  rw [show (Str.ofString (toString ((n : Nat) : Int))).cps.toList = numL n from tl_num n, numL_val] at e
  exact e
/-- a program's own loop over digits: total = total * 10 + (ord(sign) - ord("0")) -/
theorem fold_digits : ∀ (l : List Nat) (a : Nat), NumText.AllDigits l → l.foldl (fun (t : Int) (c : Nat) => t * 10 + ((c : Int) - 48)) (a : Int) = ((l.foldl (fun acc c => acc * 10 + (c - 48)) a : Nat) : Int)
  | [], _, _ => rfl
  | c :: r, a, h => by
    have hc := h.head
    rw [List.foldl_cons, List.foldl_cons, ← fold_digits r _ h.tail]
    have e : (a : Int) * 10 + ((c : Int) - 48) = ((a * 10 + (c - 48) : Nat) : Int) := by omega
    rw [e]
theorem fold_num (n : Nat) : (numL n).foldl (fun (t : Int) (c : Nat) => t * 10 + ((c : Int) - 48)) 0 = (n : Int) := by
  have e := fold_digits (numL n) 0 (numL_digits n)
  have v := numL_val n
  unfold NumText.digitsVal at v
  rw [v] at e
  exact e

/-! ### words: x.split() -/
def wstep (st : List (List Nat) × List Nat) (c : Nat) : List (List Nat) × List Nat :=
  if Unicode.isSpace c = true then (if st.2 = [] then st else (st.1 ++ [st.2], [])) else (st.1, st.2 ++ [c])
def wfin (st : List (List Nat) × List Nat) : List (List Nat) := if st.2 = [] then st.1 else st.1 ++ [st.2]
theorem len0_tl (x : Str) : x.length = 0 ↔ tl x = [] := by
  rw [len_tl]
  exact List.length_eq_zero_iff
theorem step_tl (ws : List Str) (u : Str) (c : Nat) : ((KWd.step (ws, u) c).1.map tl, tl (KWd.step (ws, u) c).2) = wstep (ws.map tl, tl u) c := by
  by_cases hc : Unicode.isSpace c = true
  · by_cases hu : u.length = 0
    · have a : KWd.step (ws, u) c = (ws, u) := (if_pos hc).trans (if_pos hu)
      have b : wstep (ws.map tl, tl u) c = (ws.map tl, tl u) := (if_pos hc).trans (if_pos ((len0_tl u).mp hu))
      rw [a, b] <;> rfl
    · have a : KWd.step (ws, u) c = (ws ++ [u], Str.empty) := (if_pos hc).trans (if_neg hu)
      have b : wstep (ws.map tl, tl u) c = (ws.map tl ++ [tl u], []) := (if_pos hc).trans (if_neg fun z => hu ((len0_tl u).mpr z))
      rw [a, b]
      show ((ws ++ [u]).map tl, ([] : List Nat)) = _
      rw [List.map_append] <;> rfl
  · have a : KWd.step (ws, u) c = (ws, u ++ ⟨#[c]⟩) := if_neg hc
    have b : wstep (ws.map tl, tl u) c = (ws.map tl, tl u ++ [c]) := if_neg hc
    rw [a, b]
    show (ws.map tl, tl (u ++ ⟨#[c]⟩)) = _
    rw [tl_append] <;> rfl
theorem scan_tl : ∀ (l : List Nat) (st : KWd.St), ((l.foldl KWd.step st).1.map tl, tl (l.foldl KWd.step st).2) = l.foldl wstep (st.1.map tl, tl st.2)
  | [], _ => rfl
  | c :: r, (ws, u) => by
    show ((r.foldl KWd.step (KWd.step (ws, u) c)).1.map tl, tl (r.foldl KWd.step (KWd.step (ws, u) c)).2) = r.foldl wstep (wstep (ws.map tl, tl u) c)
    exact (scan_tl r (KWd.step (ws, u) c)).trans (congrArg (fun z => r.foldl wstep z) (step_tl ws u c))
theorem fin_tl : ∀ q : KWd.St, (KWd.fin q).map tl = wfin (q.1.map tl, tl q.2)
  | (ws, u) => by
    show (if u.length = 0 then ws else ws ++ [u]).map tl = (if tl u = [] then ws.map tl else ws.map tl ++ [tl u])
    by_cases hu : u.length = 0
    · rw [if_pos hu, if_pos ((len0_tl u).mp hu)]
    · rw [if_neg hu, if_neg (fun z => hu ((len0_tl u).mpr z)), List.map_append] <;> rfl
theorem words_tl (x : Str) : (Txt.words x).map tl = wfin ((tl x).foldl wstep ([], [])) := by
  rw [KWd.words_scan]
  exact (fin_tl (KWd.scan x)).trans (congrArg wfin (scan_tl (tl x) ([], Str.empty)))
/-- a run of signs that are no blanks -/
theorem wfold_word : ∀ (p : List Nat) (ws : List (List Nat)) (u : List Nat), (∀ c ∈ p, Unicode.isSpace c = false) → p.foldl wstep (ws, u) = (ws, u ++ p)
  | [], ws, u, _ => by rw [List.append_nil] <;> rfl
  | c :: r, ws, u, h => by
    have hc := h c (List.mem_cons_self ..)
    rw [List.foldl_cons]
    have e : wstep (ws, u) c = (ws, u ++ [c]) := if_neg (by rw [hc]; exact Bool.false_ne_true)
    rw [e, wfold_word r ws (u ++ [c]) fun d hd => h d (List.mem_cons_of_mem _ hd), List.append_assoc] <;> rfl
theorem isSpace_plain {c : Nat} (h1 : 33 ≤ c) (h2 : c ≤ 126) : Unicode.isSpace c = false := PySem.W.KWk.nosp h1 h2
/-- words joined by one blank -/
theorem wfold_join : ∀ (ps : List (List Nat)) (ws : List (List Nat)), ps ≠ [] → (∀ p ∈ ps, p ≠ [] ∧ ∀ c ∈ p, Unicode.isSpace c = false) → wfin ((joinL [32] ps).foldl wstep (ws, [])) = ws ++ ps
  | [], _, h, _ => absurd rfl h
  | [p], ws, _, h => by
    obtain ⟨h1, h2⟩ := h p (List.mem_singleton.mpr rfl)
    show wfin (p.foldl wstep (ws, [])) = _
    rw [wfold_word p ws [] h2, List.nil_append]
    exact if_neg h1
  | p :: q :: r, ws, _, h => by
    obtain ⟨h1, h2⟩ := h p (List.mem_cons_self ..)
    show wfin ((p ++ ([32] ++ joinL [32] (q :: r))).foldl wstep (ws, [])) = _
    rw [List.foldl_append, wfold_word p ws [] h2, List.nil_append, List.foldl_append]
    have e : [32].foldl wstep (ws, p) = (ws ++ [p], []) := by
      have hs : Unicode.isSpace 32 = true := by decide +kernel
      have a : wstep (ws, p) 32 = (if p = [] then (ws, p) else (ws ++ [p], [])) := if_pos hs
      exact a.trans (if_neg h1)
    rw [e, wfold_join (q :: r) (ws ++ [p]) (by simp) fun z hz => h z (List.mem_cons_of_mem _ hz), List.append_assoc] <;> rfl
end TL
end 

namespace L2
open PySem PySem.Spec PyProof.Rows

theorem notLong {n : Nat} (h : n ≤ 16777216) : Builtin.Str.tooLong n = false := by
  have e : (2 : Nat) ^ 24 = 16777216 := by decide
  unfold Builtin.Str.tooLong sizeLine
  exact decide_eq_false (by omega)

/-- a list of texts, of numbered texts -/
theorem vals_strs : ∀ l : List (Str × Tok), Vals ((l.map (·.1)).map V.str) (strValues l)
  | [] => .nil
  | p :: r => .cons ⟨p.2, rfl⟩ (vals_strs r)
theorem strs_of_vals : ∀ {ys : List Str} {us : List Value}, Vals (ys.map V.str) us → StrsAre us ys
  | [], _, .nil => .nil
  | y :: ys, _, .cons r t => by
    obtain ⟨k, rfl⟩ := r
    exact .cons y k (strs_of_vals t)

/-- a new list of texts, tracked -/
def rNewStrs (ys : List Str) : Hp → VK → Prop := fun H Q => ∀ p, H p = none → Q (.ref p) (upd H p (.lst (ys.map V.str)))

section
variable {X : Cx} {pins : List (Addr × Obj)} {σ : St} {H : Hp} {s : Shared} {Q : VK}
theorem laid_strs {l : List (Str × Tok)} {ys : List Str} {k : Nat} (I : Inv X pins σ H s) (e : l.map (·.1) = ys) (hz : ys.length ≤ sizeLine) (h : rNewStrs ys H Q) :
    EP X pins σ Q (.ref s.heap.objs.size) { s with toks := k, heap := s.heap.push { cls := .type "list", data := .seq (strValues l).toArray } } := by
  have hp := I.hok.fresh (Nat.le_refl _)
  refine ⟨.ref s.heap.objs.size, upd H s.heap.objs.size (.lst (ys.map V.str)), I.laid (fun b u q => Heap.get?_push_of_some _ q) (Nat.le_refl _) ⟨by rw [List.length_map]; exact hz, strValues l, _, ?_, Heap.get?_push_size _ rfl⟩, rfl, h _ hp⟩
  rw [← e]
  exact vals_strs l
theorem laid_parts {x y z : Str} {t u v : Tok} {k : Nat} (I : Inv X pins σ H s) (h : ∀ p, H p = none → Q (.ref p) (upd H p (.tup [.str x, .str y, .str z]))) :
    EP X pins σ Q (.ref s.heap.objs.size) { s with toks := k, heap := s.heap.push { cls := .type "tuple", data := .seq [Value.str x t, .str y u, .str z v].toArray } } := by
  have hp := I.hok.fresh (Nat.le_refl _)
  exact ⟨.ref s.heap.objs.size, upd H s.heap.objs.size (.tup [.str x, .str y, .str z]), I.laid (fun b u q => Heap.get?_push_of_some _ q) (Nat.le_refl _)
    ⟨by show 3 ≤ sizeLine; decide, [Value.str x t, .str y u, .str z v], .cons ⟨t, rfl⟩ (.cons ⟨u, rfl⟩ (.cons ⟨v, rfl⟩ .nil)), _, Heap.get?_push_size _ rfl, rfl, _, rfl⟩, rfl, h _ hp⟩
end

section
variable {X : Cx}

/-- x.split(sep) -/
theorem mt_split : MtR X "str.split" (fun x xs H Q => ∃ a b, x = .str a ∧ xs = [.str b] ∧ (b.length == 0) = false ∧ a.length + 2 ≤ sizeLine ∧ rNewStrs (Txt.split a b) H Q) := by
  intro pins s σ H x xs v us Q I rx rs h
  obtain ⟨a, b, rfl, rfl, hb, hz, h⟩ := h
  obtain ⟨t, rfl⟩ := rx
  cases rs with
  | cons r1 rs =>
    cases rs
    obtain ⟨u, rfl⟩ := r1
    have hl : (Txt.split a b).length ≤ sizeLine := Nat.le_trans (PyProof.Rows.split_le a b) hz
    have hn : (Builtin.Str.partsBetween a (Builtin.Str.occurrences a b 0 a.length (a.length + 1)) b.length).length ≤ sizeLine := by
      have e1 := StrLaws.occ_length_le a b 0 a.length (a.length + 1)
      rw [length_partsBetween]; omega
    cases h1 : (decide (a.length < b.length) || decide (Builtin.Str.strKind a < Builtin.Str.strKind b))
    · cases hf : (Builtin.Str.occurrences a b 0 a.length (a.length + 1)).isEmpty
      · refine call_meets F.slot_str_split (typeIs_str _ _ _) F.entry_str_split (F.args_str_split_2 _ _) (meets_str_split_sep a b t u h1 hb hf (by omega) hn) ?_
        show EP X pins σ Q (.ref s.heap.objs.size) { s with toks := _, heap := s.heap.push { cls := .type "list", data := .seq (strsFrom s.toks (Builtin.Str.partsBetween a (Builtin.Str.occurrences a b 0 a.length (a.length + 1)) b.length)).toArray } }
        rw [strsFrom_eq]
        exact laid_strs (ys := Txt.split a b) I ((numbered_texts _ _).trans ((if_neg (ne_true_of_eq_false h1)).trans (if_neg (ne_true_of_eq_false hf))).symm) hl h
      · refine call_meets F.slot_str_split (typeIs_str _ _ _) F.entry_str_split (F.args_str_split_2 _ _) (meets_str_split_not_found a b t u h1 hb hf) ?_
        exact laid_strs (l := [(a, t)]) (ys := Txt.split a b) (k := s.toks) I ((if_neg (ne_true_of_eq_false h1)).trans (if_pos hf)).symm hl h
    · refine call_meets F.slot_str_split (typeIs_str _ _ _) F.entry_str_split (F.args_str_split_2 _ _) (meets_str_split_cannot_occur a b t u h1) ?_
      exact laid_strs (l := [(a, t)]) (ys := Txt.split a b) (k := s.toks) I (if_pos h1).symm hl h

theorem words_le (x : Str) : (Txt.words x).length ≤ x.length + 1 := by
  have e1 := StrLaws.words_weight x
  omega
/-- x.split() -/
theorem mt_words : MtR X "str.split" (fun x xs H Q => ∃ a, x = .str a ∧ xs = [] ∧ a.length + 2 ≤ sizeLine ∧ rNewStrs (Txt.words a) H Q) := by
  intro pins s σ H x xs v us Q I rx rs h
  obtain ⟨a, rfl, rfl, hz, h⟩ := h
  obtain ⟨t, rfl⟩ := rx
  cases rs
  have hl : (Txt.words a).length ≤ sizeLine := Nat.le_trans (words_le a) (by omega)
  have hn : (Builtin.Str.spaceWords a (a.length + 1)).length ≤ sizeLine := by
    have e1 := (StrLaws.sw_weight a).1
    have e2 := StrLaws.len_le_wsum (Builtin.Str.spaceWords a (a.length + 1))
    omega
  refine call_meets F.slot_str_split (typeIs_str _ _ _) F.entry_str_split (F.args_str_split_1 _) (meets_str_split_space a t (by omega) hn) ?_
  cases hw : Builtin.Str.spaceWords a (a.length + 1) == [(0, a.length)]
  · simp only [Bool.false_eq_true, if_false]
    rw [strsFrom_eq]
    exact laid_strs (ys := Txt.words a) I ((numbered_texts _ _).trans (if_neg (ne_true_of_eq_false hw)).symm) hl h
  · simp only [if_true]
    exact laid_strs (l := [(a, t)]) (ys := Txt.words a) (k := s.toks) I (if_pos hw).symm hl h

/-- x.partition(sep) -/
theorem mt_partition : MtR X "str.partition" (fun x xs H Q => ∃ a b, x = .str a ∧ xs = [.str b] ∧ (b.length == 0) = false ∧ a.length ≤ sizeLine ∧
    ∀ p, H p = none → Q (.ref p) (upd H p (.tup [.str (Txt.partition a b).1, .str (Txt.partition a b).2.1, .str (Txt.partition a b).2.2]))) := by
  intro pins s σ H x xs v us Q I rx rs h
  obtain ⟨a, b, rfl, rfl, hb, hz, h⟩ := h
  obtain ⟨t, rfl⟩ := rx
  cases rs with
  | cons r1 rs =>
    cases rs
    obtain ⟨u, rfl⟩ := r1
    refine call_meets F.slot_str_partition (typeIs_str _ _ _) F.entry_str_partition (F.args_str_partition_2 _ _) (meets_str_partition a b t u hb hz) ?_
    unfold Txt.partition at h
    revert h
    cases Builtin.Str.occurrences a b 0 a.length 1 with
    | nil => intro h; exact laid_parts I h
    | cons i r => intro h; exact laid_parts I h

/-- sep.join(a list | a tuple of texts) -/
theorem mt_join : MtR X "str.join" (fun x xs H Q => ∃ a p, ∃ ys : List Str, x = .str a ∧ xs = [.ref p] ∧ (SqL X.K H p (ys.map V.str) ∨ SqT X.K H p (ys.map V.str)) ∧
    (ys.map (·.length)).sum + ys.length * a.length ≤ 16777216 ∧ Q (.str (Txt.join a ys)) H) := by
  intro pins s σ H x xs v us Q I rx rs h
  obtain ⟨a, p, ys, rfl, rfl, hp, hz, h⟩ := h
  obtain ⟨t, rfl⟩ := rx
  cases rs with
  | cons r1 rs =>
    cases rs
    cases r1
    rcases hp with hp | hp
    · obtain ⟨its, r, ⟨o, n, ho, hc, _, hd⟩, _⟩ := I.list hp
      exact PyProof.Rows.join_list (items := its.toArray) ⟨o, ho, hc, n, hd⟩ (by rw [List.toList_toArray]; exact strs_of_vals r) hz fun t' k => ⟨.str _, H, I.tok k, ⟨t', rfl⟩, h⟩
    · obtain ⟨its, r, ht, _⟩ := I.tuple hp
      exact PyProof.Rows.join_tuple (items := its.toArray) ht (by rw [List.toList_toArray]; exact strs_of_vals r) hz fun t' k => ⟨.str _, H, I.tok k, ⟨t', rfl⟩, h⟩

/-! ### of a text alone -/
theorem mt0 {id : String} {C : Str → Prop} {g : Str → V} (rule : ∀ (a : Str) (t : Tok) (s : Shared) (Q : Value → Shared → Prop), C a → (∀ (u : Value) (k : Nat), RelV (g a) u → Q u { s with toks := k }) →
    wpAny (model X.prog X.w) X.A (call (.builtin id) [.str a t]) Q X.xe s) : MtR X id (fun x xs H Q => ∃ a, x = .str a ∧ xs = [] ∧ C a ∧ Q (g a) H) := by
  intro pins s σ H x xs v us Q I rx rs h
  obtain ⟨a, rfl, rfl, hc, h⟩ := h
  obtain ⟨t, rfl⟩ := rx
  cases rs
  exact rule a t s _ hc fun u k r => ⟨g a, H, I.tok k, r, h⟩
theorem mt_strip : MtR X "str.strip" (fun x xs H Q => ∃ a, x = .str a ∧ xs = [] ∧ a.length ≤ sizeLine ∧ Q (.str (Txt.strip a)) H) :=
  mt0 (C := fun a => a.length ≤ sizeLine) (g := fun a => .str (Txt.strip a)) fun _ _ _ _ hc h => PySem.SC.strip (fun t' k => h _ k ⟨t', rfl⟩) hc
theorem mt_lstrip : MtR X "str.lstrip" (fun x xs H Q => ∃ a, x = .str a ∧ xs = [] ∧ a.length ≤ sizeLine ∧ Q (.str (Txt.lstrip a)) H) :=
  mt0 (C := fun a => a.length ≤ sizeLine) (g := fun a => .str (Txt.lstrip a)) fun _ _ _ _ hc h => PySem.SC.lstrip (fun t' k => h _ k ⟨t', rfl⟩) hc
theorem mt_rstrip : MtR X "str.rstrip" (fun x xs H Q => ∃ a, x = .str a ∧ xs = [] ∧ a.length ≤ sizeLine ∧ Q (.str (Txt.rstrip a)) H) :=
  mt0 (C := fun a => a.length ≤ sizeLine) (g := fun a => .str (Txt.rstrip a)) fun _ _ _ _ hc h => PySem.SC.rstrip (fun t' k => h _ k ⟨t', rfl⟩) hc
theorem mt_lower : MtR X "str.lower" (fun x xs H Q => ∃ a, x = .str a ∧ xs = [] ∧ a.length ≤ 5592405 ∧ Q (.str (Txt.lower a)) H) :=
  mt0 (C := fun a => a.length ≤ 5592405) (g := fun a => .str (Txt.lower a)) fun a _ s _ hc h =>
    PySem.SC.lower (notLong (by have h1 : a.length ≤ 5592405 := hc; have := PyProof.Rows.len_lower a; omega)) (h _ (s.toks + 1) ⟨_, rfl⟩)
theorem mt_upper : MtR X "str.upper" (fun x xs H Q => ∃ a, x = .str a ∧ xs = [] ∧ a.length ≤ 5592405 ∧ Q (.str (Txt.upper a)) H) :=
  mt0 (C := fun a => a.length ≤ 5592405) (g := fun a => .str (Txt.upper a)) fun a _ s _ hc h =>
    PySem.SC.upper (notLong (by have h1 : a.length ≤ 5592405 := hc; have := PyProof.Rows.len_upper a; omega)) (h _ (s.toks + 1) ⟨_, rfl⟩)
theorem mt_isdigit : MtR X "str.isdigit" (fun x xs H Q => ∃ a, x = .str a ∧ xs = [] ∧ True ∧ Q (.bl (Txt.isdigit a)) H) :=
  mt0 (C := fun _ => True) (g := fun a => .bl (Txt.isdigit a)) fun _ _ s _ _ h => PySem.SC.isdigit (h _ s.toks rfl)
theorem mt_isalpha : MtR X "str.isalpha" (fun x xs H Q => ∃ a, x = .str a ∧ xs = [] ∧ True ∧ Q (.bl (Txt.isalpha a)) H) :=
  mt0 (C := fun _ => True) (g := fun a => .bl (Txt.isalpha a)) fun _ _ s _ _ h => PySem.SC.isalpha (h _ s.toks rfl)
theorem mt_isalnum : MtR X "str.isalnum" (fun x xs H Q => ∃ a, x = .str a ∧ xs = [] ∧ True ∧ Q (.bl (Txt.isalnum a)) H) :=
  mt0 (C := fun _ => True) (g := fun a => .bl (Txt.isalnum a)) fun _ _ s _ _ h => PySem.SC.isalnum (h _ s.toks rfl)
theorem mt_isspace : MtR X "str.isspace" (fun x xs H Q => ∃ a, x = .str a ∧ xs = [] ∧ True ∧ Q (.bl (Txt.isspace a)) H) :=
  mt0 (C := fun _ => True) (g := fun a => .bl (Txt.isspace a)) fun _ _ s _ _ h => PySem.SC.isspace (h _ s.toks rfl)

/-! ### of a text and a text -/
theorem mt1 {id : String} {g : Str → Str → V} (rule : ∀ (a b : Str) (t u : Tok) (s : Shared) (Q : Value → Shared → Prop), (∀ (v : Value) (k : Nat), RelV (g a b) v → Q v { s with toks := k }) →
    wpAny (model X.prog X.w) X.A (call (.builtin id) [.str a t, .str b u]) Q X.xe s) : MtR X id (fun x xs H Q => ∃ a b, x = .str a ∧ xs = [.str b] ∧ Q (g a b) H) := by
  intro pins s σ H x xs v us Q I rx rs h
  obtain ⟨a, b, rfl, rfl, h⟩ := h
  obtain ⟨t, rfl⟩ := rx
  cases rs with
  | cons r1 rs =>
    cases rs
    obtain ⟨u, rfl⟩ := r1
    exact rule a b t u s _ fun v k r => ⟨g a b, H, I.tok k, r, h⟩
theorem mt_startswith : MtR X "str.startswith" (fun x xs H Q => ∃ a b, x = .str a ∧ xs = [.str b] ∧ Q (.bl (Txt.startswith a b)) H) :=
  mt1 (g := fun a b => .bl (Txt.startswith a b)) fun _ _ _ _ s _ h => PySem.SC.startswith (h _ s.toks rfl)
theorem mt_endswith : MtR X "str.endswith" (fun x xs H Q => ∃ a b, x = .str a ∧ xs = [.str b] ∧ Q (.bl (Txt.endswith a b)) H) :=
  mt1 (g := fun a b => .bl (Txt.endswith a b)) fun _ _ _ _ s _ h => PySem.SC.endswith (h _ s.toks rfl)
theorem mt_find : MtR X "str.find" (fun x xs H Q => ∃ a b, x = .str a ∧ xs = [.str b] ∧ Q (.int (Txt.find a b)) H) :=
  mt1 (g := fun a b => .int (Txt.find a b)) fun _ _ _ _ s _ h => PySem.SC.find (h _ (s.toks + 1) ⟨_, rfl⟩)
theorem mt_count : MtR X "str.count" (fun x xs H Q => ∃ a b, x = .str a ∧ xs = [.str b] ∧ Q (.int (Txt.count a b)) H) :=
  mt1 (g := fun a b => .int (Txt.count a b)) fun _ _ _ _ s _ h => PySem.SC.count (h _ (s.toks + 1) ⟨_, rfl⟩)

/-- int(text) -/
theorem call_int_str : CallR X (.type "int") (fun xs H Q => ∃ a n, xs = [.str a] ∧ PySem.intText? a = some n ∧ a.length ≤ 640 ∧ Q (.int n) H) := by
  intro pins s σ H xs us Q I rs h
  obtain ⟨a, n, rfl, hn, hl, h⟩ := h
  cases rs with
  | cons r1 rs =>
    cases rs
    obtain ⟨t, rfl⟩ := r1
    exact PySem.W.KIN.call_text hn hl ⟨.int n, H, I.tok _, ⟨_, rfl⟩, h⟩
end

section
variable {X : Cx} {o e : Expr} {to te : TE}
def tM0 (r : V → List V → Hp → VK → Prop) (to : TE) : TE := fun σ H Q => to σ H fun x H1 => (∃ a, x = .str a) ∧ r x [] H1 Q
def tM1 (r : V → List V → Hp → VK → Prop) (to te : TE) : TE := fun σ H Q => to σ H fun x H1 => (∃ a, x = .str a) ∧ te σ H1 fun y H2 => r x [y] H2 Q
theorem pe_m0 {id : String} {name : Str} {apos pos : Pos} {r : V → List V → Hp → VK → Prop} (slot : Slot "str" name id) (ty : typeOf (.builtin id) = pure (.type "method_descriptor")) (rule : MtR X id r) (ho : PE X o to)
    (hbase : attributeBase o name X.env (eval o X.env) = eval o X.env := by rfl) (hline : (apos.endLine == pos.line) = true := by rfl) : PE X (.Call (.Attribute o name apos) [] [] pos) (tM0 r to) := by
  intro pins s σ H Q I h
  refine PySem.Call_method0 hbase hline (thn (ho pins s σ H _ I h) fun v s1 ⟨x, H1, I1, r1, q1⟩ => ?_)
  obtain ⟨⟨a, rfl⟩, q1⟩ := q1
  obtain ⟨t, rfl⟩ := _root_.id r1
  exact ⟨"str", _, F.plainAttrs_str, slot, ty, typeIs_str _ _ _, (fun _ e => nomatch e), Calls.callWith_builtin rfl (PySem.evalArgs_none (rule pins s1 σ H1 _ [] _ [] Q I1 r1 .nil q1))⟩
theorem pe_m1 {id : String} {name : Str} {apos pos : Pos} {r : V → List V → Hp → VK → Prop} (slot : Slot "str" name id) (ty : typeOf (.builtin id) = pure (.type "method_descriptor")) (rule : MtR X id r) (ho : PE X o to) (he : PE X e te)
    (hs : starEach [e] X.env = [(false, eval e X.env)] := by rfl) (hbase : attributeBase o name X.env (eval o X.env) = eval o X.env := by rfl) (hline : (apos.endLine == pos.line) = true := by rfl) :
    PE X (.Call (.Attribute o name apos) [e] [] pos) (tM1 r to te) := by
  intro pins s σ H Q I h
  refine PySem.Call_method1 hbase hs hline (thn (ho pins s σ H _ I h) fun v s1 ⟨x, H1, I1, r1, q1⟩ => ?_)
  obtain ⟨⟨a, rfl⟩, q1⟩ := q1
  obtain ⟨t, rfl⟩ := _root_.id r1
  refine ⟨"str", _, F.plainAttrs_str, slot, ty, typeIs_str _ _ _, (fun _ e => nomatch e), Calls.callWith_builtin rfl (Calls.evalArgs_plain (Calls.spliced_cons ?_))⟩
  exact thn (he pins s1 σ H1 _ I1 q1) fun u s2 ⟨y, H2, I2, r2, q2⟩ => Calls.spliced_nil (rule pins s2 σ H2 _ [y] _ [u] Q I2 r1 (.cons r2 .nil) q2)

theorem pe_split {apos pos : Pos} (ho : PE X o to) (he : PE X e te) (hs : starEach [e] X.env = [(false, eval e X.env)] := by rfl) (hbase : attributeBase o "split" X.env (eval o X.env) = eval o X.env := by rfl) (hline : (apos.endLine == pos.line) = true := by rfl) :
    PE X (.Call (.Attribute o "split" apos) [e] [] pos) (tM1 (fun x xs H Q => ∃ a b, x = .str a ∧ xs = [.str b] ∧ (b.length == 0) = false ∧ a.length + 2 ≤ sizeLine ∧ rNewStrs (Txt.split a b) H Q) to te) :=
  pe_m1 F.slot_str_split F.type_str_split mt_split ho he hs hbase hline
theorem pe_words {apos pos : Pos} (ho : PE X o to) (hbase : attributeBase o "split" X.env (eval o X.env) = eval o X.env := by rfl) (hline : (apos.endLine == pos.line) = true := by rfl) :
    PE X (.Call (.Attribute o "split" apos) [] [] pos) (tM0 (fun x xs H Q => ∃ a, x = .str a ∧ xs = [] ∧ a.length + 2 ≤ sizeLine ∧ rNewStrs (Txt.words a) H Q) to) :=
  pe_m0 F.slot_str_split F.type_str_split mt_words ho hbase hline
theorem pe_partition {apos pos : Pos} (ho : PE X o to) (he : PE X e te) (hs : starEach [e] X.env = [(false, eval e X.env)] := by rfl) (hbase : attributeBase o "partition" X.env (eval o X.env) = eval o X.env := by rfl) (hline : (apos.endLine == pos.line) = true := by rfl) :
    PE X (.Call (.Attribute o "partition" apos) [e] [] pos) (tM1 (fun x xs H Q => ∃ a b, x = .str a ∧ xs = [.str b] ∧ (b.length == 0) = false ∧ a.length ≤ sizeLine ∧
      ∀ p, H p = none → Q (.ref p) (upd H p (.tup [.str (Txt.partition a b).1, .str (Txt.partition a b).2.1, .str (Txt.partition a b).2.2]))) to te) :=
  pe_m1 F.slot_str_partition F.type_str_partition mt_partition ho he hs hbase hline
theorem pe_join {apos pos : Pos} (ho : PE X o to) (he : PE X e te) (hs : starEach [e] X.env = [(false, eval e X.env)] := by rfl) (hbase : attributeBase o "join" X.env (eval o X.env) = eval o X.env := by rfl) (hline : (apos.endLine == pos.line) = true := by rfl) :
    PE X (.Call (.Attribute o "join" apos) [e] [] pos) (tM1 (fun x xs H Q => ∃ a p, ∃ ys : List Str, x = .str a ∧ xs = [.ref p] ∧ (SqL X.K H p (ys.map V.str) ∨ SqT X.K H p (ys.map V.str)) ∧
      (ys.map (·.length)).sum + ys.length * a.length ≤ 16777216 ∧ Q (.str (Txt.join a ys)) H) to te) :=
  pe_m1 F.slot_str_join F.type_str_join mt_join ho he hs hbase hline
theorem pe_strip {apos pos : Pos} (ho : PE X o to) (hbase : attributeBase o "strip" X.env (eval o X.env) = eval o X.env := by rfl) (hline : (apos.endLine == pos.line) = true := by rfl) :
    PE X (.Call (.Attribute o "strip" apos) [] [] pos) (tM0 (fun x xs H Q => ∃ a, x = .str a ∧ xs = [] ∧ a.length ≤ sizeLine ∧ Q (.str (Txt.strip a)) H) to) :=
  pe_m0 F.slot_str_strip F.type_str_strip mt_strip ho hbase hline
theorem pe_lower {apos pos : Pos} (ho : PE X o to) (hbase : attributeBase o "lower" X.env (eval o X.env) = eval o X.env := by rfl) (hline : (apos.endLine == pos.line) = true := by rfl) :
    PE X (.Call (.Attribute o "lower" apos) [] [] pos) (tM0 (fun x xs H Q => ∃ a, x = .str a ∧ xs = [] ∧ a.length ≤ 5592405 ∧ Q (.str (Txt.lower a)) H) to) :=
  pe_m0 F.slot_str_lower F.type_str_lower mt_lower ho hbase hline
theorem pe_upper {apos pos : Pos} (ho : PE X o to) (hbase : attributeBase o "upper" X.env (eval o X.env) = eval o X.env := by rfl) (hline : (apos.endLine == pos.line) = true := by rfl) :
    PE X (.Call (.Attribute o "upper" apos) [] [] pos) (tM0 (fun x xs H Q => ∃ a, x = .str a ∧ xs = [] ∧ a.length ≤ 5592405 ∧ Q (.str (Txt.upper a)) H) to) :=
  pe_m0 F.slot_str_upper F.type_str_upper mt_upper ho hbase hline
end
end L2

namespace L2
open PySem PySem.Spec PyProof.Rows

section
variable {X : Cx}
theorem op_le_str : OpR X (compareOp .LtE) (fun x y H Q => ∃ i j, x = .str i ∧ y = .str j ∧ Q (.bl (!decide (j.cps.toList < i.cps.toList))) H) := by
  intro pins s σ H x y v u Q I rx ry h
  obtain ⟨i, j, rfl, rfl, q⟩ := h
  obtain ⟨t, rfl⟩ := rx
  obtain ⟨t', rfl⟩ := ry
  exact PySem.P.le_str (fin_bl I q rfl)
theorem op_gt_str : OpR X (compareOp .Gt) (fun x y H Q => ∃ i j, x = .str i ∧ y = .str j ∧ Q (.bl (decide (j.cps.toList < i.cps.toList))) H) := by
  intro pins s σ H x y v u Q I rx ry h
  obtain ⟨i, j, rfl, rfl, q⟩ := h
  obtain ⟨t, rfl⟩ := rx
  obtain ⟨t', rfl⟩ := ry
  exact PySem.P.gt_str (fin_bl I q rfl)
theorem op_ge_str : OpR X (compareOp .GtE) (fun x y H Q => ∃ i j, x = .str i ∧ y = .str j ∧ Q (.bl (!decide (i.cps.toList < j.cps.toList))) H) := by
  intro pins s σ H x y v u Q I rx ry h
  obtain ⟨i, j, rfl, rfl, q⟩ := h
  obtain ⟨t, rfl⟩ := rx
  obtain ⟨t', rfl⟩ := ry
  exact PySem.P.ge_str (fin_bl I q rfl)
/-- one sign in a text -/
theorem op_in_sign : OpR X (compareOp .In) (fun x y H Q => ∃ (c : Nat) (z : Str), x = .str ⟨#[c]⟩ ∧ y = .str z ∧ Q (.bl (decide (c ∈ z.cps.toList))) H) := by
  intro pins s σ H x y v u Q I rx ry h
  obtain ⟨c, z, rfl, rfl, q⟩ := h
  obtain ⟨t, rfl⟩ := rx
  obtain ⟨t', rfl⟩ := ry
  exact PyProof.Rows.in_str (fin_bl I q (PySem.StrLaws.found_one z c).symm)
theorem op_notIn_sign : OpR X (compareOp .NotIn) (fun x y H Q => ∃ (c : Nat) (z : Str), x = .str ⟨#[c]⟩ ∧ y = .str z ∧ Q (.bl (!decide (c ∈ z.cps.toList))) H) := by
  intro pins s σ H x y v u Q I rx ry h
  obtain ⟨c, z, rfl, rfl, q⟩ := h
  obtain ⟨t, rfl⟩ := rx
  obtain ⟨t', rfl⟩ := ry
  exact PyProof.Rows.notIn_str (fin_bl I q (congrArg Bool.not (PySem.StrLaws.found_one z c).symm))
end

/-! ### slices of a text -/
theorem IsPart.raw {v : Value} {o : Option Int} (p : IsPart v o) : ∃ l : Option (Int × Tok), v = partValue l ∧ l.map (·.1) = o := by
  cases p with
  | none => exact ⟨none, rfl, rfl⟩
  | int i t => exact ⟨some (i, t), rfl, rfl⟩

/-- a part, clipped, as the text's slice reckons it -/
def clipS (n d : Nat) : Option Int → Int
  | none => (d : Int)
  | some i => max 0 (min (if i < 0 then i + (n : Int) else i) (n : Int))
theorem clipS_eq (n d : Nat) (o : Option Int) : clipS n d o = ((HT.sIx n d o : Nat) : Int) := by
  cases o with
  | none => rfl
  | some v =>
    show max (0 : Int) (min (if v < 0 then v + (n : Int) else v) (n : Int)) = (((if v < 0 then (v + (n : Int)).toNat else min v.toNat n) : Nat) : Int)
    by_cases hv : v < 0
    · simp only [if_pos hv]
      omega
    · simp only [if_neg hv]
      omega
theorem sidx_clip (a b : Option Int) (n : Nat) : Builtin.Str.strSliceIndices a b 1 n = sliceRange (clipS n 0 a) (clipS n n b) 1 := by
  have h1 : ((1 : Int) > 0) = True := by simp
  cases a <;> cases b <;> first
    | rfl
    | (simp only [Builtin.Str.strSliceIndices, clipS, h1, if_true]; rfl)
    | simp [Builtin.Str.strSliceIndices, clipS]
theorem sidx (a b : Option Int) (n : Nat) : Builtin.Str.strSliceIndices a b 1 n = (List.range (HT.sIx n n b - HT.sIx n 0 a)).map (fun k => HT.sIx n 0 a + k) := by
  rw [sidx_clip, clipS_eq, clipS_eq]
  generalize HT.sIx n 0 a = p
  generalize HT.sIx n n b = q
  simp only [sliceRange, show ((1 : Int) > 0) = True from by simp, if_true]
  by_cases hlt : (p : Int) < q
  · have e3 : (((q : Int) - p + 1 - 1) / 1).toNat = q - p := by first | omega | (simp; done) | (simp; omega)
    simp only [hlt, if_true, e3]
    refine List.map_congr_left fun k _ => ?_
    omega
  · have : q - p = 0 := by omega
    simp [hlt, this]

/-- z[lo:hi] -/
def cutS (z : Str) (lo hi : Option Int) : Str :=
  ⟨((z.cps.toList.drop (HT.sIx z.length 0 lo)).take (HT.sIx z.length z.length hi - HT.sIx z.length 0 lo)).toArray⟩
theorem sliceText_cut (z : Str) (lo hi : Option Int) : PySem.StrLaws.sliceText z lo hi = cutS z lo hi := by
  have h1 : HT.sIx z.length 0 lo ≤ z.length := HT.sIx_le _ _ (Nat.zero_le _) _
  have h2 : HT.sIx z.length z.length hi ≤ z.length := HT.sIx_le _ _ (Nat.le_refl _) _
  have hp : HT.sIx z.length 0 lo ≤ max (HT.sIx z.length 0 lo) (HT.sIx z.length z.length hi) := Nat.le_max_left _ _
  have hq : max (HT.sIx z.length 0 lo) (HT.sIx z.length z.length hi) ≤ z.length := Nat.max_le.mpr ⟨h1, h2⟩
  have hd : max (HT.sIx z.length 0 lo) (HT.sIx z.length z.length hi) - HT.sIx z.length 0 lo = HT.sIx z.length z.length hi - HT.sIx z.length 0 lo := by omega
  have e : Builtin.Str.strSliceIndices lo hi 1 z.length =
      Builtin.Str.strSliceIndices (some ((HT.sIx z.length 0 lo : Nat) : Int)) (some ((max (HT.sIx z.length 0 lo) (HT.sIx z.length z.length hi) : Nat) : Int)) 1 z.length := by
    rw [PySem.StrLaws.strSliceIndices_plain hp hq, hd, sidx]
  have e2 : PySem.StrLaws.sliceText z lo hi =
      PySem.StrLaws.sliceText z (some ((HT.sIx z.length 0 lo : Nat) : Int)) (some ((max (HT.sIx z.length 0 lo) (HT.sIx z.length z.length hi) : Nat) : Int)) := by
    unfold PySem.StrLaws.sliceText
    rw [e]
  rw [e2, PySem.StrLaws.sliceText_nat z hp hq, hd]
  rfl
theorem cutS_length (z : Str) (lo hi : Option Int) : (cutS z lo hi).length ≤ z.length := by
  show (((z.cps.toList.drop (HT.sIx z.length 0 lo)).take (HT.sIx z.length z.length hi - HT.sIx z.length 0 lo)).toArray).size ≤ z.cps.size
  rw [List.size_toArray, List.length_take, List.length_drop, Array.length_toList]
  omega
def rSlS : V → Option Int → Option Int → Hp → VK → Prop := fun x lo hi H Q => ∃ z, x = .str z ∧ z.length ≤ sizeLine ∧ Q (.str (cutS z lo hi)) H
theorem sl_str {X : Cx} : SlR X rSlS := by
  intro pins s σ H x v vl vu lo hi sl Q I rx hs pl pu h
  obtain ⟨z, rfl, hz, q⟩ := h
  obtain ⟨t, rfl⟩ := rx
  obtain ⟨os, hos, hcs, hds⟩ := hs
  obtain ⟨l, rfl, rfl⟩ := IsPart.raw pl
  obtain ⟨u, rfl, rfl⟩ := IsPart.raw pu
  refine ⟨"str", _, F.slot_str_getitem.lookup, typeIs_str _ _ _, ?_⟩
  refine wpAny_getItem_str_slice (l := l) (u := u) (st := none) ⟨os, hos, hcs, hds⟩ rfl ?_
  have hl : (PySem.StrLaws.sliceText z (l.map (·.1)) (u.map (·.1))).length ≤ sizeLine := by
    rw [sliceText_cut]
    exact Nat.le_trans (cutS_length z _ _) hz
  rw [← sliceText_cut] at q
  unfold PySem.StrLaws.sliceText at q hl
  show Made.post (if ((1 : Int) == 1 && (Builtin.Str.strSliceIndices (l.map (·.1)) (u.map (·.1)) 1 z.length).length == z.length) = true then Made.val (.str z t)
    else Made.str ⟨((Builtin.Str.strSliceIndices (l.map (·.1)) (u.map (·.1)) 1 z.length).filterMap (z.cps[·]?)).toArray⟩) (EP X pins σ Q) s
  by_cases c : ((1 : Int) == 1 && (Builtin.Str.strSliceIndices (l.map (·.1)) (u.map (·.1)) 1 z.length).length == z.length) = true
  · rw [if_pos c] at q ⊢
    exact ⟨.str z, H, I, ⟨t, rfl⟩, q⟩
  · rw [if_neg c] at q hl ⊢
    exact ⟨hl, .str _, H, I.tok _, ⟨_, rfl⟩, q⟩
end L2

namespace Att
open PySem PySem.W PySem.Calls PyProof.Rows

/-! ### the script -/
theorem ints_of_wellAll {P : Params} {h : Heap} : ∀ (ns : List Int) (vs : List Value), WellAll P h vs (ns.map WData.int) → IntsAre vs ns := by
  intro ns
  induction ns with
  | nil =>
    intro vs w
    rw [List.map_nil] at w
    cases w
    exact .nil
  | cons n ns ih =>
    intro vs w
    rw [List.map_cons] at w
    cases w with
    | cons a b =>
      cases a
      exact .cons _ _ (ih _ b)

theorem script_of {l : OpenLaw} {n : Nat} (hn : l.most = some n) {P : Params} {h : Heap} {args : List WData} {vals : List Value}
    (hpre : l.row.toRowW.claim.pre args = true) (hwl : WellAll P h vals args) :
    ∃ a vs ns, vals = [Value.ref a] ∧ args = [WData.list (ns.map WData.int)] ∧ h.get? a = some { cls := .type "list", data := .seq vs.toArray } ∧ IntsAre vs ns ∧ ns.length ≤ n := by
  have hsh : WShape.hasAll [] args [.list .int] = true := (pre_splitW hpre).1
  have hc : l.pre.holds [] { args := args } = true := (pre_splitW hpre).2
  obtain ⟨d, r, rfl, h1, h2⟩ := hasAllW_cons hsh
  obtain rfl := hasAllW_nil h2
  obtain ⟨xs, rfl, h3⟩ := hasW_list h1
  obtain ⟨ns, rfl⟩ := items_int h3
  have hlen : ns.length ≤ n := by
    unfold OpenLaw.pre at hc
    have h4 : (WTm.not (.lt (.lit (.int (n : Int))) (.len (.arg 0)))).holds [] { args := [.list (ns.map .int)] } = true := by
      have h4 := (holds_andW hc).1
      rw [hn] at h4
      exact h4
    have h5 := condW_of h4 (w_not (w_lt w_lit (w_len_list (w_arg rfl))))
    rw [List.length_map] at h5
    refine Nat.le_of_not_lt fun q => ?_
    have q' : (n : Int) < ((ns.length : Nat) : Int) := by omega
    first
      | (rw [decide_eq_true q'] at h5; exact absurd h5 (by decide))
      | (simp at h5; omega)
  cases hwl with
  | cons w1 w2 =>
    cases w2
    cases w1 with
    | list ho hall => exact ⟨_, _, ns, rfl, rfl, ho, ints_of_wellAll ns _ hall, hlen⟩

theorem post_true (l : OpenLaw) (args : List WData) : l.row.toRowW.claim.post args (.bool true) args = true :=
  postW_of (r := l.row.toRowW) (X := (true == true))
    (show WShape.has [] (.bool true) .bool = true by first | rfl | decide | simp [WShape.has, WShape.arms, WShape.armsAll])
    (show (WTm.eq .res (.lit (.bool true))).value [] { args := args, res := some (.bool true), after := args } = some (.bool (true == true)) from w_eq_bool (w_res rfl) w_lit) rfl

/-! ### the attachment: holds_open's last premise (the goal 'hc' behind k_head) from a wpAny of the law's body -/
theorem attach {l : OpenLaw} {n : Nat} {q : Program} {loose : List Str} {XP : (Str → Option Value) → Heap → Prop} {YP : World → Heap → Prop} {d : DefRec} {x : Str}
    (hn : l.most = some n) (hdf : d.params.defaults = [])
    (hbind : ∀ pm cd doc v : Value, bindArgs (docDef d.name d.params d.body d.scope pm cd doc) ⟨[v], []⟩ = pure [(x, v)])
    (hx : d.scope.names.lookup x = some .local ∨ d.scope.names.lookup x = some .cell)
    (hk : d.scope.kind = .function) (hco : d.scope.isCoroutine = false) (hgen : d.scope.isGenerator = false)
    (body : ∀ (w : World) (s₀ s₁ s : Shared) (mg mb : Str → Option Value) (fa : Addr) (o : Obj) (pm cd doc : Value) (a : Addr) (vs : List Value) (ns : List Int),
      Ground q loose [] XP w s₀ mg mb s₁.heap → YP w s₁.heap →
      s₁.heap.get? fa = some o → o.data = .func (docDef d.name d.params d.body d.scope pm cd doc) → s₁.heap.CodeRec cd d.name → mg d.name = some (.ref fa) →
      s₁.heap.get? a = some { cls := .type "list", data := .seq vs.toArray } → IntsAre vs ns → ns.length ≤ n →
      s.gens = #[] → s.os = s₁.os →
      Fr s₁.heap s₁.heap.objs.size s.heap (bindL (envOfC d.name d.scope s₁.heap.objs.size fa cd).kindOf [(x, .ref a)] fun _ => none) →
      Cl s₁.heap.objs.size (cellsFrom (s₁.heap.objs.size + 1) d.scope.names []) s.heap (bindC (envOfC d.name d.scope s₁.heap.objs.size fa cd).kindOf [(x, .ref a)] fun _ => none) →
      wpAny (model l.prog w) (callerA.deeper (envOfC d.name d.scope s₁.heap.objs.size fa cd)) (execs d.body (envOfC d.name d.scope s₁.heap.objs.size fa cd))
        (fun f s' => f = .ret (.bool true) ∧ OldK s₁.heap s'.heap ∧ s'.os = s₁.os ∧ AllBare s'.gens) (fun _ _ => False) s) :
    WalkO q loose XP YP l.row.toRowW d [] (fun f vs => PySem.call f vs) := by
  intro w s₀ s₁ mg mb G Y fa o pm cd doc dV kV ho hd hcd hD hmg hg args vals as hpre hlay hrd hwl hlo
  obtain rfl : dV = .none := Dflts.none hD hdf
  obtain rfl : kV = .none := Dflts.noKw hD
  obtain ⟨a, vs, ns, rfl, rfl, hobj, hints, hlen⟩ := script_of hn hpre hwl
  refine enter_call ?_
  refine call_cells_ret (o := o) (by rw [depth_caller]; decide) ho (fd_plain hd) G.T.nolimit hcd (hbind pm cd doc (.ref a)) (fun y hy => ?_) (fun h₁ tk F X => ?_) hco hgen hk
  · obtain rfl : y = (x, Value.ref a) := List.mem_singleton.mp hy
    rcases hx with e | e
    · exact .inl e
    · exact .inr ⟨e, cellsFrom_some _ _ _ (.inl e)⟩
  · refine wpAny_mono (body w s₀ s₁ { s₁ with heap := h₁, toks := tk } mg mb fa o pm cd doc a vs ns G Y ho (fd_plain hd) hcd hmg hobj hints hlen hg rfl F X) (fun f s' hq => ?_) (fun _ _ hq => hq)
    obtain ⟨rfl, h2, h3, h4⟩ := hq
    exact ⟨.inl ⟨.bool true, .bool true, [], rfl, fun _ => rfl, .bool true, post_true l _, fun _ => ⟨List.Pairwise.nil, fun _ hm => (nomatch hm)⟩⟩, h2, h3, h4⟩

/-- the same from a codeAny of the CALL (for a layer whose function contracts speak of calls) -/
theorem attach_call {l : OpenLaw} {n : Nat} {q : Program} {loose : List Str} {XP : (Str → Option Value) → Heap → Prop} {YP : World → Heap → Prop} {d : DefRec}
    (hn : l.most = some n) (hdf : d.params.defaults = [])
    (call : ∀ (w : World) (s₀ s₁ : Shared) (mg mb : Str → Option Value) (fa : Addr) (o : Obj) (pm cd doc : Value) (a : Addr) (vs : List Value) (ns : List Int),
      Ground q loose [] XP w s₀ mg mb s₁.heap → YP w s₁.heap →
      s₁.heap.get? fa = some o → o.data = .func (docDef d.name d.params d.body d.scope pm cd doc) → s₁.heap.CodeRec cd d.name → mg d.name = some (.ref fa) →
      s₁.heap.get? a = some { cls := .type "list", data := .seq vs.toArray } → IntsAre vs ns → ns.length ≤ n → s₁.gens = #[] →
      codeAny (model l.prog w) callerA (.call (.ref fa) ⟨[.ref a], []⟩) (fun r s' => r = .ok (.ret (.bool true)) ∧ OldK s₁.heap s'.heap ∧ s'.os = s₁.os ∧ AllBare s'.gens) s₁) :
    WalkO q loose XP YP l.row.toRowW d [] (fun f vs => PySem.call f vs) := by
  intro w s₀ s₁ mg mb G Y fa o pm cd doc dV kV ho hd hcd hD hmg hg args vals as hpre hlay hrd hwl hlo
  obtain rfl : dV = .none := Dflts.none hD hdf
  obtain rfl : kV = .none := Dflts.noKw hD
  obtain ⟨a, vs, ns, rfl, rfl, hobj, hints, hlen⟩ := script_of hn hpre hwl
  refine enter_call (codeAny_mono (call w s₀ s₁ mg mb fa o pm cd doc a vs ns G Y ho (fd_plain hd) hcd hmg hobj hints hlen hg) fun r s' hq => ?_)
  obtain ⟨rfl, h2, h3, h4⟩ := hq
  exact ⟨.inl ⟨.bool true, .bool true, [], rfl, fun _ => rfl, .bool true, post_true l _, fun _ => ⟨List.Pairwise.nil, fun _ hm => (nomatch hm)⟩⟩, h2, h3, h4⟩

/-- the same where the top left finished generators (o_head chose holds_openN): nothing may have changed at all and no generator may be left -/
theorem attachN {l : OpenLaw} {n : Nat} {q : Program} {loose : List Str} {XP : (Str → Option Value) → Heap → Prop} {YP : World → Heap → Prop} {d : DefRec} {x : Str}
    (hn : l.most = some n) (hdf : d.params.defaults = [])
    (hbind : ∀ pm cd doc v : Value, bindArgs (docDef d.name d.params d.body d.scope pm cd doc) ⟨[v], []⟩ = pure [(x, v)])
    (hx : d.scope.names.lookup x = some .local ∨ d.scope.names.lookup x = some .cell)
    (hk : d.scope.kind = .function) (hco : d.scope.isCoroutine = false) (hgen : d.scope.isGenerator = false)
    (body : ∀ (w : World) (s₀ s₁ s : Shared) (mg mb : Str → Option Value) (fa : Addr) (o : Obj) (pm cd doc : Value) (a : Addr) (vs : List Value) (ns : List Int),
      Ground q loose [] XP w s₀ mg mb s₁.heap → YP w s₁.heap →
      s₁.heap.get? fa = some o → o.data = .func (docDef d.name d.params d.body d.scope pm cd doc) → s₁.heap.CodeRec cd d.name → mg d.name = some (.ref fa) →
      s₁.heap.get? a = some { cls := .type "list", data := .seq vs.toArray } → IntsAre vs ns → ns.length ≤ n →
      s.gens = #[] → s.os = s₁.os →
      Fr s₁.heap s₁.heap.objs.size s.heap (bindL (envOfC d.name d.scope s₁.heap.objs.size fa cd).kindOf [(x, .ref a)] fun _ => none) →
      Cl s₁.heap.objs.size (cellsFrom (s₁.heap.objs.size + 1) d.scope.names []) s.heap (bindC (envOfC d.name d.scope s₁.heap.objs.size fa cd).kindOf [(x, .ref a)] fun _ => none) →
      wpAny (model l.prog w) (callerA.deeper (envOfC d.name d.scope s₁.heap.objs.size fa cd)) (execs d.body (envOfC d.name d.scope s₁.heap.objs.size fa cd))
        (fun f s' => f = .ret (.bool true) ∧ (∀ b o, s₁.heap.get? b = some o → s'.heap.get? b = some o) ∧ s'.os = s₁.os ∧ s'.gens = #[]) (fun _ _ => False) s) :
    WalkN q loose XP YP l.row.toRowW d [] (fun f vs => PySem.call f vs) := by
  intro w s₀ s₁ mg mb G Y fa o pm cd doc dV kV ho hd hcd hD hmg hg args vals as hpre hlay hrd hwl hlo
  obtain rfl : dV = .none := Dflts.none hD hdf
  obtain rfl : kV = .none := Dflts.noKw hD
  obtain ⟨a, vs, ns, rfl, rfl, hobj, hints, hlen⟩ := script_of hn hpre hwl
  refine enter_callW ?_
  refine call_cells_ret (o := o) (by rw [depth_caller]; decide) ho (fd_plain hd) G.T.nolimit hcd (hbind pm cd doc (.ref a)) (fun y hy => ?_) (fun h₁ tk F X => ?_) hco hgen hk
  · obtain rfl : y = (x, Value.ref a) := List.mem_singleton.mp hy
    rcases hx with e | e
    · exact .inl e
    · exact .inr ⟨e, cellsFrom_some _ _ _ (.inl e)⟩
  · refine wpAny_mono (body w s₀ s₁ { s₁ with heap := h₁, toks := tk } mg mb fa o pm cd doc a vs ns G Y ho (fd_plain hd) hcd hmg hobj hints hlen hg rfl F X) (fun f s' hq => ?_) (fun _ _ hq => hq)
    obtain ⟨rfl, h2, h3, h4⟩ := hq
    exact ⟨.inl ⟨.bool true, .bool true, [], rfl, fun _ => rfl, .bool true, post_true l _, fun _ => ⟨List.Pairwise.nil, fun _ hm => (nomatch hm)⟩⟩, h2, h3, h4⟩

/-! ### rules over ANY heap (no ledger) from facts about the written part K: the library's own take a ledger (News) for what they write -/
section
variable {prog : Program} {w : World} {A : Around} {E : Value → Shared → Prop} {s : Shared} {K : Frag}

/-- a def of the module, or a method (qual 'C.m'), entered: the frame is the next address; cells behind it -/
theorem call_fn {R : Result → Shared → Prop} {name qual : Str} {params : Arguments} {body : List Stmt} {scope : Scope} {dV kV doc pm cdv ct oc : Value} {an od : Option Addr} {osl : Array (Option Value)} {f : Addr} {args : Args} {binds : List (Str × Value)}
    (X : K.In s.heap) (hlim : s.heap.NoLimit) (ho : K.lookup f = some ⟨oc, od, .func (fnOf name qual params body scope dV kV doc pm an cdv ct), osl⟩) (hcd : codeIn K cdv qual = true) (hroom : A.depth < recursionLimit)
    (hbind : BindsTo s (fnOf name qual params body scope dV kV doc pm an cdv ct) args binds)
    (hkind : (binds.all fun y => scope.names.lookup y.1 == some .local || scope.names.lookup y.1 == some .cell) = true)
    (h : ∀ s₁, InCallC s s.heap.objs.size (bindL (envOfC qual scope s.heap.objs.size f cdv).kindOf binds fun _ => none) (cellsFrom (s.heap.objs.size + 1) scope.names [])
        (bindC (envOfC qual scope s.heap.objs.size f cdv).kindOf binds fun _ => none) s₁ →
      wpAny (model prog w) (A.deeper (envOfC qual scope s.heap.objs.size f cdv)) (execs body (envOfC qual scope s.heap.objs.size f cdv))
        (fun fl s' => R (.ok (.ret (match fl with | .ret v => v | _ => .none))) s')
        (fun e s' => wpAny (model prog w) (A.deeper (envOfC qual scope s.heap.objs.size f cdv)) (leaving (envOfC qual scope s.heap.objs.size f cdv) e) (fun _ s'' => R (.error e) s'') (fun e' s'' => R (.error e') s'') s') s₁)
    (hco : scope.isCoroutine = false) (hgen : scope.isGenerator = false) (hk : scope.kind = .function) : codeAny (model prog w) A (.call (.ref f) args) R s := by
  refine codeAny_call_function hroom (X _ _ ho) rfl hco hgen rfl (codeRec_of X hcd) (hbind _ _ _ _ ?_)
  refine wpAny_newFunctionEnv_cells hk (kindsX hkind _) fun env he s₁ x => ?_
  subst he
  exact ⟨hlim.keeps x.toInCall.keep, codeAny_func (h s₁ x)⟩

/-- C(..): dict at size, instance at size + 1, then __init__ -/
theorem make_obj {R : Result → Shared → Prop} {C fI : Addr} {rest : List Value} {kw : List (Str × Value)}
    (X : K.In s.heap) (hm : makesIn K C = true) (hi : findIn K (.ref C) "__init__" = some (some (.ref fI))) (hf : isFn K (.ref fI) = true)
    (h : codeAny (model prog w) (A.under (.builtin "type.__call__" ⟨.ref C :: rest, kw⟩)) (.call (.ref fI) ⟨.ref (s.heap.objs.size + 1) :: rest, kw⟩) (InitBack (s.heap.objs.size + 1) R)
      { s with heap := (s.heap.push emptyDict).push (instObj C s.heap.objs.size) }) : codeAny (model prog w) A (.call (.ref C) ⟨rest, kw⟩) R s := by
  obtain ⟨hh, g, d, t, os⟩ := s
  exact make_core (makes_of X hm) (looks_findIn X hi) (fun self => bind_fn X self (beq_iff_eq.mp hf)) (.inl rfl) h

/-- x.name where the instance's dict holds the name and the class does not -/
theorem get_field {x C : Addr} {ox : Obj} {es : List DictEntry} {n : Nat} {name : Str} {expr : Bool} {v : Value} {Q : Value → Shared → Prop}
    (X : K.In s.heap) (I : PySem.W.InstAt s.heap x ox C (some (dictOf es n))) (hg : plainGet K C name = true) (hh : hasDictIn K C = true) (ha : findIn K (.ref C) name = some none)
    (hl : getL name es = some (some v)) (hv : handedIn v = true) (h : Q v { s with toks := s.toks + 1 }) : wpAny (model prog w) A (getAttr (.ref x) name expr) Q E s :=
  get_value X I (plainGet_of hg).1 (findObj_own hh ha rfl hl) hv h

/-- x.m(..): the method found in the class -/
theorem get_method {x C f : Addr} {ox : Obj} {es : List DictEntry} {n : Nat} {name : Str} {pl : Sem Bool} {Q : Value × List Value → Shared → Prop}
    (X : K.In s.heap) (I : PySem.W.InstAt s.heap x ox C (some (dictOf es n))) (hg : plainGet K C name = true) (hf : findIn K (.ref C) name = some (some (.ref f))) (ht : isFn K (.ref f) = true)
    (hl : getL name es = some none) (h : Q (.ref f, [.ref x]) s) : wpAny (model prog w) A (getMethod (.ref x) name pl) Q E s :=
  method_fn X I (plainGet_of hg).1 (plainGet_of hg).2 hf (beq_iff_eq.mp ht) (by show (lookIn name (dictOf es n)).map _ = _; rw [lookIn_dict, hl]; rfl) h

/-! the whole heap as the ledger: makes every rule that writes through a ledger a rule over any heap -/
def noObjs (h : Heap) : Heap := { h with objs := #[] }
theorem noObjs_get (h : Heap) (b : Addr) : (noObjs h).get? b = none := by
  cases e : (noObjs h).get? b with
  | none => rfl
  | some o => exact absurd (Heap.lt_size e) (Nat.not_lt_zero _)
def ledger (h : Heap) (L d : Addr) : List (Addr × Obj) := (List.range h.objs.size).filterMap fun a => if a = L ∨ a = d then none else (h.get? a).map fun o => (a, o)
theorem mem_ledger {h : Heap} {L d a : Addr} {o : Obj} : (a, o) ∈ ledger h L d ↔ a ≠ L ∧ a ≠ d ∧ h.get? a = some o := by
  unfold ledger
  rw [List.mem_filterMap]
  constructor
  · rintro ⟨b, _, e⟩
    split at e
    · cases e
    · rename_i hb
      obtain ⟨o', ho, e'⟩ := Option.map_eq_some_iff.mp e
      cases e'
      exact ⟨fun q => hb (.inl q), fun q => hb (.inr q), ho⟩
  · rintro ⟨n1, n2, ho⟩
    refine ⟨a, List.mem_range.mpr (Heap.lt_size ho), ?_⟩
    rw [if_neg (show ¬ (a = L ∨ a = d) from fun q => q.elim n1 n2), ho] <;> rfl
theorem news_ledger {h : Heap} {L d : Addr} {od : Obj} (hne : d ≠ L) (ho : h.get? d = some od) : News (noObjs h) L h ([] ++ (d, od) :: ledger h L d) := by
  rintro ⟨a, o⟩ hp
  rcases List.mem_cons.mp hp with e | hp
  · cases e
    exact ⟨ho, hne, noObjs_get _ _⟩
  · obtain ⟨n1, n2, e⟩ := mem_ledger.mp hp
    exact ⟨e, n1, noObjs_get _ _⟩
theorem fr_all {h : Heap} {L : Addr} {m : Str → Option Value} (n : h.Ns L m) : Fr (noObjs h) L h m :=
  ⟨n, fun b o e => (by rw [noObjs_get] at e; cases e), Nat.zero_le _⟩
/-- Upd of the head entry (for append_K, setItem_K ..) -/
theorem upd_ledger {h : Heap} {L d : Addr} {o o' : Obj} : Upd d o o' ((d, o) :: ledger h L d) ((d, o') :: ledger h L d) :=
  .head fun ⟨_, _⟩ hp => (mem_ledger.mp hp).2.1

/-- x.name = v over any heap: L is any namespace of the heap (the frame's, say): its map stays, its object is not told; all else but the dict stays -/
theorem set_field {x C dx L : Addr} {ox : Obj} {m : Str → Option Value} {es es' : List DictEntry} {n n' : Nat} {name : Str} {v : Value} {Q : Unit → Shared → Prop}
    (X : K.In s.heap) (I : PySem.W.InstAt s.heap x ox C (some (dictOf es n))) (hd : ox.dict = some dx) (hL : s.heap.Ns L m) (hne : dx ≠ L)
    (hs : findIn K (.ref C) "__setattr__" = some (some (.builtin "object.__setattr__"))) (hp : plainOver K C = true) (ht : takerIn K C name = some none) (hh : hasDictIn K C = true) (hl : (getL name es).isSome = true)
    (e : (putL name (PyData.keyHash w.params name) (.str name (s.toks + 1)) v es, putN name es n) = (es', n')) (hz : es'.length ≤ 1000)
    (h : ∀ h' : Heap, h'.Ns L m → h'.get? dx = some (dictOf es' n') → (∀ b o, b ≠ dx → b ≠ L → s.heap.get? b = some o → h'.get? b = some o) → Q () { s with heap := h', toks := s.toks + 2 }) :
    wpAny (model prog w) A (setAttr (.ref x) name v) Q E s := by
  obtain ⟨e1, e2⟩ := Prod.mk.inj e
  have hdx : s.heap.get? dx = some (dictOf es n) := by
    have := I.dict
    rw [hd] at this
    exact this
  refine set_plain X I hs (osa_dict (s := { s with toks := s.toks + 1 }) (h₀ := noObjs s.heap) (L := L) (m := m) (od := dictOf es n) (od' := dictOf es' n') (es := es') (n := n') (pre := []) (post := ledger s.heap L dx)
    (fr_all hL) (news_ledger hne hdx) X I hd hp ht hh hl (fun _ q => nomatch q) (fun ⟨_, _⟩ q => (mem_ledger.mp q).2.1) (by rw [putName_dict, e1, e2]) rfl hz fun h' F' N' => ?_)
  exact h h' F'.ns (N'.get (List.Mem.head _)) fun b o n1 n2 ho => N'.get (List.Mem.tail _ (mem_ledger.mpr ⟨n2, n1, ho⟩))
end
end Att

namespace L2
open PySem PySem.Spec PyProof.Rows

theorem vals_ints : ∀ {vs : List Value} {ns : List Int}, IntsAre vs ns → Vals (ns.map V.int) vs
  | _, _, .nil => .nil
  | _, _, .cons n t h => .cons ⟨t, rfl⟩ (vals_ints h)

/-- nothing is tracked but the script, known to the object (or it is an object of the module) -/
def Only (H : Hp) : Prop := ∀ b, H b = none ∨ ∃ o xs, H b = some (.frz o (.lst xs))

/-- THE HEAD: the law's promise, at the heap behind the top. F, the promise of the law's def, may use that base is part of the heap (so K.In base, base.Ns mainGlobals mg stand in Mod) -/
theorem law_call {P : Program} {w : World} {K : PySem.W.Frag} {mg mb : Str → Option Value} {CX : CXT} {k : Nat} {fa a : Addr} {fd : FuncData} {x : Str} {sp : Sp} {s₁ : Shared} {vs : List Value} {ns : List Int}
    (KX : K.In s₁.heap) (hns : s₁.heap.Ns mainGlobals mg) (hb : s₁.heap.Ns builtinsNs mb) (hbb : ∀ x : Str, x ≠ "__name__" → mb x = bootBuiltins x) (hlim : s₁.heap.NoLimit) (hg : s₁.gens = #[])
    (ha : s₁.heap.get? a = some { cls := .type "list", data := .seq vs.toArray }) (hi : IntsAre vs ns) (hl : ns.length ≤ sizeLine) (hr : Room k callerA)
    (F : ∀ base : Heap, K.In base → base.Ns mainGlobals mg → FnOk P w K mg base CX k fa fd [x] sp) (hbind : ∀ (s : Shared) (u : Value), BindsTo s fd ⟨[u], []⟩ [(x, u)])
    (hsp : ∀ H : Hp, Only H → SqL K H a (ns.map V.int) → sp [.ref a] H (fun v _ => v = .bl true) fun _ _ _ => False)
    (hCX : ∀ H e s', CX [] H s₁ (fun _ _ _ => False) e s' → False) :
    codeAny (model P w) callerA (.call (.ref fa) ⟨[.ref a], []⟩) (fun r s' => r = .ok (.ret (.bool true)) ∧ OldK s₁.heap s'.heap ∧ s'.os = s₁.os ∧ AllBare s'.gens) s₁ := by
  have rv := vals_ints hi
  have lenV := hi.length
  -- from an abstract heap in which nothing but the script may be tracked
  have core : ∀ H : Hp, Only H → SqL K H a (ns.map V.int) → HOk P w H s₁.heap → (∀ b, H b ≠ none → b = a) → (H a ≠ none → K.lookup a = none) →
      codeAny (model P w) callerA (.call (.ref fa) ⟨[.ref a], []⟩) (fun r s' => r = .ok (.ret (.bool true)) ∧ OldK s₁.heap s'.heap ∧ s'.os = s₁.os ∧ AllBare s'.gens) s₁ := by
    intro H hO hS hok hA hK
    have base_of : ∀ {b : Addr} {o : Obj}, s₁.heap.get? b = some o → H b = none → (hidT s₁.heap H).get? b = some o := fun e n => hidT_get e n
    have noA : ∀ {b : Addr} {o : Obj} {es : Array DictEntry} {ep : Nat}, s₁.heap.get? b = some o → o.data = .dict es ep → H b = none := fun {b o es ep} e d => by
      cases q : H b with
      | none => rfl
      | some u =>
        have e' : b = a := hA b (by rw [q]; simp)
        subst e'
        rw [ha] at e; cases e
        have d' : Data.seq vs.toArray _ = Data.dict es ep := d
        cases d'
    have nsK : ∀ {b : Addr} {m : Str → Option Value}, s₁.heap.Ns b m → (hidT s₁.heap H).Ns b m := fun {b m} ⟨o, es, ep, e, d, r⟩ => ⟨o, es, ep, base_of e (noA e d), d, r⟩
    have hKb : K.In (hidT s₁.heap H) := fun b o e => base_of (KX b o e) (by
      cases q : H b with
      | none => rfl
      | some u =>
        have e' : b = a := hA b (by rw [q]; simp)
        subst e'
        rw [hK (by rw [q]; simp)] at e; cases e)
    have hM : Mod K mg (hidT s₁.heap H) := ⟨hKb, nsK hns, ⟨mb, nsK hb, hbb⟩, let ⟨mc, h1, h2⟩ := hlim; ⟨mc, nsK h1, h2⟩⟩
    have e0 : Env0 P w K mg (hidT s₁.heap H) callerA [] s₁ H := ⟨rfl, hM, fun b o e => of_hidT e, Nat.le_of_eq (hidT_size _ _), trivial, fun b hb => absurd (show b ∈ ([] : List Addr) from hb) (by simp), hok, .of_eq hg⟩
    refine codeAny_mono ((F _ hKb (nsK hns)).run callerA [] s₁ H ⟨[.ref a], []⟩ [.ref a] [.ref a] _ _ hr e0 (hbind s₁ (.ref a)) (.cons rfl .nil) (hsp H hO hS)) fun r s' h => ?_
    cases r with
    | error e => exact (hCX H e s' h).elim
    | ok fl =>
      cases fl with
      | next => exact False.elim h
      | brk => exact False.elim h
      | cont => exact False.elim h
      | ret u =>
        obtain ⟨v, H', os, bare, un, hok', r', q⟩ := h
        have q' : v = .bl true := q
        subst q'
        obtain rfl : u = Value.bool true := r'
        refine ⟨rfl, OldK.of_keep fun b o e => ?_, os, bare⟩
        cases q : H b with
        | none => exact un.keep b o e q (by intro z; exact absurd (show b ∈ ([] : List Addr) from z) (by simp)) (by simp)
        | some u =>
          rcases hO b with z | ⟨ob, xs, z⟩
          · rw [q] at z; cases z
          · have z2 := un.frzs b ob _ z
            obtain ⟨e1, _⟩ := hok b _ z
            obtain ⟨e2, _⟩ := hok' b _ z2
            rw [e] at e1; cases e1
            exact e2
  cases hk : K.lookup a with
  | some o =>
    -- the script is one of the module's own objects
    have e := KX a o hk
    rw [ha] at e
    cases e
    refine core (fun _ => none) (fun _ => .inl rfl) (.inr ⟨_, vs.toArray, _, hk, rfl, rfl, rfl, by rw [List.size_toArray, lenV]; exact hl, by simpa using rv⟩) (fun b u z => by have z' : (none : Option HO) = some u := z; cases z') (fun b z => absurd rfl z) fun z => absurd rfl z
  | none =>
    refine core (fun b => if b = a then some (.frz { cls := .type "list", data := .seq vs.toArray } (.lst (ns.map V.int))) else none) (fun b => ?_) (.inl (.inr ⟨{ cls := .type "list", data := .seq vs.toArray }, if_pos rfl⟩)) (fun b u z => ?_) (fun b z => ?_) fun _ => hk
    · by_cases hb : b = a
      · exact .inr ⟨_, _, if_pos hb⟩
      · exact .inl (if_neg hb)
    · by_cases hb : b = a
      · have z' := (if_pos hb).symm.trans z
        cases z'
        subst hb
        exact ⟨ha, by rw [List.length_map]; exact hl, vs, _, rv, ha⟩
      · have z' := (if_neg hb).symm.trans z
        cases z'
    · by_cases hb : b = a
      · exact hb
      · exact absurd (if_neg hb) z
end L2

namespace L2
open PySem PySem.Spec PyProof.Rows

abbrev KOf {K : PySem.W.Frag} {h : Heap} (_ : K.In h) : PySem.W.Frag := K

/-- the goal that k_head leaves (case hc), from the law's promise. F gives the function object fd (K's own) once, then the promise over every base -/
theorem walk_of {l : PySem.W.OpenLaw} {n k : Nat} {q : Program} {loose : List Str} {XP : (Str → Option Value) → Heap → Prop} {YP : World → Heap → Prop} {d : DefRec} {K : Params → PySem.W.Frag} {CX : World → CXT} {sp : World → Sp} {x : Str}
    (hn : l.most = some n) (hn2 : n ≤ sizeLine) (hdf : d.params.defaults = []) (hr : Room k callerA)
    (hY : ∀ (w : World) (h : Heap), YP w h → (K w.params).In h)
    (F : ∀ (w : World) (mg : Str → Option Value) (fa : Addr) (h : Heap), (K w.params).In h → h.Ns mainGlobals mg → mg d.name = some (.ref fa) →
      ∃ fd : FuncData, (∀ (s : Shared) (u : Value), BindsTo s fd ⟨[u], []⟩ [(x, u)]) ∧
        ∀ base : Heap, (K w.params).In base → base.Ns mainGlobals mg → FnOk l.prog w (K w.params) mg base (CX w) k fa fd [x] (sp w))
    (hsp : ∀ (w : World) (H : Hp) (a : Addr) (ns : List Int), ns.length ≤ n → Only H → SqL (K w.params) H a (ns.map V.int) → sp w [.ref a] H (fun v _ => v = .bl true) fun _ _ _ => False)
    (hCX : ∀ (w : World) (H : Hp) (s : Shared) (e : Value) (s' : Shared), CX w [] H s (fun _ _ _ => False) e s' → False) :
    PySem.W.WalkO q loose XP YP l.row.toRowW d [] (fun f vs => PySem.call f vs) := by
  refine Att.attach_call hn hdf fun w s₀ s₁ mg mb fa o pm cd doc a vs ns G Y ho hd hcd hmg hobj hints hlen hg => ?_
  have KX := hY w _ Y
  obtain ⟨fd, hb, hF⟩ := F w mg fa _ KX G.T.g hmg
  exact law_call KX G.T.g G.T.b G.T.builtins G.T.nolimit hg hobj hints (Nat.le_trans hlen hn2) hr hF hb (fun H hO hS => hsp w H a ns hlen hO hS) fun H e s' => hCX w H s₁ e s'
/-- the same where the promise hangs on the written part alone: (sp := My.sp_law), no hole under a binder -/
theorem walk_ofK {l : PySem.W.OpenLaw} {n k : Nat} {q : Program} {loose : List Str} {XP : (Str → Option Value) → Heap → Prop} {YP : World → Heap → Prop} {d : DefRec} {K : Params → PySem.W.Frag} {CX : CXT} {sp : PySem.W.Frag → Sp} {x : Str}
    (hn : l.most = some n) (hn2 : n ≤ sizeLine) (hdf : d.params.defaults = []) (hr : Room k callerA)
    (hY : ∀ (w : World) (h : Heap), YP w h → (K w.params).In h)
    (F : ∀ (w : World) (mg : Str → Option Value) (fa : Addr) (h : Heap), (K w.params).In h → h.Ns mainGlobals mg → mg d.name = some (.ref fa) →
      ∃ fd : FuncData, (∀ (s : Shared) (u : Value), BindsTo s fd ⟨[u], []⟩ [(x, u)]) ∧
        ∀ base : Heap, (K w.params).In base → base.Ns mainGlobals mg → FnOk l.prog w (K w.params) mg base CX k fa fd [x] (sp (K w.params)))
    (hsp : ∀ (K : PySem.W.Frag) (H : Hp) (a : Addr) (ns : List Int), ns.length ≤ n → Only H → SqL K H a (ns.map V.int) → sp K [.ref a] H (fun v _ => v = .bl true) fun _ _ _ => False)
    (hCX : ∀ (H : Hp) (s : Shared) (e : Value) (s' : Shared), CX [] H s (fun _ _ _ => False) e s' → False) :
    PySem.W.WalkO q loose XP YP l.row.toRowW d [] (fun f vs => PySem.call f vs) :=
  walk_of (K := K) (CX := fun _ => CX) (sp := fun w => sp (K w.params)) hn hn2 hdf hr hY F (fun w H a ns h1 h2 h3 => hsp (K w.params) H a ns h1 h2 h3) fun _ H s e s' => hCX H s e s'
end L2

/- THE LAST THEOREM (shape; LID, My.* are yours):
   My.Adr: a structure of the addresses that your layer names (classes, functions); My.Txt K t: a structure (Prop) of the equations over K;
   My.txt_mk : {K} {implicit addresses ..} (e1 : nsIn K mainGlobals "law" = some (some (.ref f))) (e2 : K.lookup f = some ⟨oc, od, .func (fnOf "law" "law" params body scope dV kV doc pm an cdv ct), sl⟩) (e3 : codeIn K cdv "law" = true) .. : ∃ t, My.Txt K t

set_option maxRecDepth 100000 in
set_option maxHeartbeats 0 in
theorem PySem.Challenge.cw_LID_holds : PySem.Challenge.rw_LID.Holds := by
  w_on; o_law; k_head; (case hw => w_witness2)
  k_fill
  refine L2.walk_of (l := PySem.Challenge.rw_LID) (n := 63) (k := 40) (x := "script") (CX := fun w => ..) (sp := fun _ => My.sp_law) rfl (by decide) rfl ⟨rfl, by decide, by decide⟩ (fun w h Y => PySem.W.kIn_of Y) ?F ?S ?C
  case F =>
    intro w mg fa h KX G hmg
    have T : ∃ t, My.Txt (L2.KOf KX) t := by
      dsimp only [L2.KOf]                          -- K must stand as «<heap const> w.params» for k_is
      refine' My.txt_mk ?e1 ?e2 ?e3 ..
      (case e1 => PySem.W.k_is)                    -- in the order: a name -> its address -> its object -> its parts
      (case e2 => PySem.W.k_is)
      ..
    obtain ⟨t, T⟩ := T
    have e0 := hmg.symm.trans (PySem.W.mg_of KX G T.law)
    cases e0                                       -- fa is the law's own address
    exact ⟨_, fun s u => .of_eq rfl, fun base kb nb => My.law_fn T kb nb⟩     -- if «.of_eq rfl» comes too early: refine' ⟨_, ?b, fun base kb nb => My.law_fn T kb nb⟩; exact fun s u => .of_eq rfl
  case S => exact fun w H a ns hl hO hS => ..
  case C => exact ..
(the tactic k_is has no namespace: write k_is) -/

/-! SHORT WORDS over the layer: a def of the text, its body, what a loop and a test want. -/
namespace L2
open PySem PySem.Spec PyProof.Rows

/-! ### the text by places -/
/-- the j-th statement of a class's body -/
def inClass (s : Stmt) (j : Nat) : Stmt := match s with
  | .ClassDef _ _ _ body _ _ _ _ _ _ _ => body.getD j (.Pass ⟨0, 0, 0, 0⟩)
  | _ => .Pass ⟨0, 0, 0, 0⟩
def defArgs (s : Stmt) : Arguments := match s with
  | .FunctionDef _ a _ _ _ _ _ _ _ _ => a
  | _ => { posonlyargs := [], args := [], vararg := none, kwonlyargs := [], kw_defaults := [], kwarg := none, defaults := [] }
def defBody (s : Stmt) : List Stmt := match s with
  | .FunctionDef _ _ b _ _ _ _ _ _ _ => b
  | _ => []
def defScope (s : Stmt) : Scope := match s with
  | .FunctionDef _ _ _ _ _ _ sc _ _ _ => sc
  | _ => { kind := .function, names := [], isGenerator := false, isCoroutine := false }

/-! ### no exception leaves a def -/
abbrev CX0 : CXT := fun _ _ _ _ _ _ => False
abbrev E0 : XK := fun _ _ _ => False
theorem pass0 {X : Cx} : Passes CX0 X E0 := fun _ _ _ _ _ _ _ h => h.elim

/-! ### a def (or method) of the text as it stands behind the top -/
structure Fun (K : PySem.W.Frag) (x qual : Str) (st : Stmt) (f : Addr) (fd : FuncData) : Prop where
  ex : ∃ (oc : Value) (od : Option Addr) (kV doc pm : Value) (an : Option Addr) (cdv ct : Value) (osl : Array (Option Value)),
    fd = PySem.W.fnOf x qual (defArgs st) (defBody st) (defScope st) .none kV doc pm an cdv ct ∧ K.lookup f = some ⟨oc, od, .func fd, osl⟩ ∧ PySem.W.codeIn K cdv qual = true
  kp : PySem.W.keepIn K (.ref f) = true
section
variable {P : Program} {w : World} {K : PySem.W.Frag} {mg : Str → Option Value} {base : Heap}
/-- THE RULE for a def: its body as a term of rules, and the reading of that term -/
theorem Fun.ok {x qual : Str} {st : Stmt} {f : Addr} {fd : FuncData} {N ps : List Str} {k : Nat} {sp : Sp} (F : Fun K x qual st f fd) (S : FnScope N ps (defScope st)) (len : ∀ vs H Q E, sp vs H Q E → vs.length = ps.length)
    (hbody : ∀ (cdv : Value) (A : Around) (outer : List Env) (s : Shared) (H : Hp) (vs : List V) (Q : VK) (E : XK), Room k (A.deeper (envOfC qual (defScope st) s.heap.objs.size f cdv)) → sp vs H Q E →
      ∃ t, PSs (cxOf CX0 P w K mg base N qual (defScope st) f cdv A outer s H E).nox (defBody st) t ∧ t { nx := fun _ H' => Q .non H', rt := Q } (start N vs) H) : FnOk P w K mg base CX0 (k + 1) f fd ps sp := by
  obtain ⟨oc, od, kV, doc, pm, an, cdv, ct, osl, rfl, lk, hcd⟩ := F.ex
  refine fn_of lk hcd S len fun A outer s H vs Q E hr hsp => ?_
  obtain ⟨t, h, q⟩ := hbody cdv A outer s H vs Q E hr hsp
  exact ⟨t, h.nox, q⟩
/-- how its arguments bind (no defaults): h is «fun _ _ _ _ _ _ us hl => match us, hl with | [_, _], _ => rfl», one _ a parameter -/
theorem Fun.binds {x qual : Str} {st : Stmt} {f : Addr} {fd : FuncData} {ps : List Str} (F : Fun K x qual st f fd)
    (h : ∀ (kV doc pm : Value) (an : Option Addr) (cdv ct : Value) (us : List Value), us.length = ps.length → bindArgs (PySem.W.fnOf x qual (defArgs st) (defBody st) (defScope st) .none kV doc pm an cdv ct) ⟨us, []⟩ = pure (ps.zip us)) : Binds K fd ps [] := by
  obtain ⟨oc, od, kV, doc, pm, an, cdv, ct, osl, rfl, lk, hcd⟩ := F.ex
  exact .all (h kV doc pm an cdv ct)
theorem fun_mk {x qual : Str} {st : Stmt} {f : Addr} {oc : Value} {od an : Option Addr} {osl : Array (Option Value)} {kV doc pm cdv ct : Value} (l : K.lookup f = some ⟨oc, od, .func (PySem.W.fnOf x qual (defArgs st) (defBody st) (defScope st) .none kV doc pm an cdv ct), osl⟩)
    (c : PySem.W.codeIn K cdv qual = true) (k : PySem.W.keepIn K (.ref f) = true) : Fun K x qual st f (PySem.W.fnOf x qual (defArgs st) (defBody st) (defScope st) .none kV doc pm an cdv ct) := ⟨⟨oc, od, kV, doc, pm, an, cdv, ct, osl, rfl, l, c⟩, k⟩
end
theorem hu_of {A : Around} {k : Nat} (hr : Room k A) : A.units + 1 < cLine := Nat.lt_of_le_of_lt (Nat.add_le_add_left (by decide : 1 ≤ 64) _) hr.units
theorem small1000 {n : Nat} (h : n ≤ 1000) : n < sizeLine := Nat.lt_of_le_of_lt h (by decide)

/-! ### expressions in short: the name that stands in the i-th slot -/
section
variable {X : Cx}
theorem pv (i : Nat) {x : Str} {pos : Pos} (hN : X.N[i]? = some x := by rfl) (hv : Vis X.env.scope x := by first | exact Or.inl rfl | exact Or.inr (Or.inl rfl) | exact Or.inr (Or.inr rfl)) (hd : (x == ("__debug__" : Str)) = false := by decide)
    (hcd : (x == ("__classdict__" : Str)) = false := by decide) : PE X (.Name x pos) (tVar i) := pe_var hN hv hd hcd
/-- len of a dict -/
theorem call_lenD : CallR X (.builtin "len") (fun xs H Q => ∃ a kvs, xs = [V.ref a] ∧ H a = some (.dK kvs) ∧ Q (.int kvs.length) H) := by
  intro pins s σ H xs us Q I r h
  obtain ⟨a, kvs, rfl, ha, q⟩ := h
  obtain ⟨u, rfl, ru⟩ := vals1 r
  cases ru
  exact d_len I (.inl ha) fun t s' I' => ⟨.int kvs.length, H, I', ⟨t, rfl⟩, q⟩
end

/-! ### tests -/
theorem iteF {A B : Prop} (h : B) : if false = true then A else B := by
  rw [if_neg Bool.false_ne_true]
  exact h
theorem iteT {A B : Prop} (h : A) : if true = true then A else B := by
  rw [if_pos rfl]
  exact h
theorem ite2 {c A B : Prop} [Decidable c] (h1 : c → A) (h2 : ¬ c → B) : if c then A else B := by
  by_cases h : c
  · rw [if_pos h]
    exact h1 h
  · rw [if_neg h]
    exact h2 h
theorem iteNS {c A B : Prop} [Decidable c] (hc : c) (h : B) : if (!decide c) = true then A else B := by
  rw [decide_eq_true hc]
  exact iteF h

/-! ### heaps -/
/-- all that was tracked is as it was -/
def Same (H H' : Hp) : Prop := ∀ b o, H b = some o → H' b = some o
theorem Same.refl (H : Hp) : Same H H := fun _ _ h => h
theorem Same.trans {H H1 H2 : Hp} (a : Same H H1) (b : Same H1 H2) : Same H H2 := fun c o h => b c o (a c o h)
theorem Same.free {H H' : Hp} (e : Same H H') {l : Addr} (h : H' l = Option.none) : H l = Option.none := by
  cases q : H l with
  | none => rfl
  | some o =>
    rw [e l o q] at h
    cases h
theorem Same.seq {K : PySem.W.Frag} {H H' : Hp} {a : Addr} {xs : List V} (e : Same H H') (h : SqL K H a xs) : SqL K H' a xs := by
  rcases h with (h | ⟨o, h⟩) | h
  · exact .inl (.inl (e _ _ h))
  · exact .inl (.inr ⟨o, e _ _ h⟩)
  · exact .inr h

/-! ### a dict's pairs: keys that differ -/
section
variable {κ : Type} [DecidableEq κ]
theorem valV_not {kvs : List (κ × V)} {k : κ} (h : valV kvs k = none) : ¬ k ∈ kvs.map (·.1) := by
  intro m
  obtain ⟨p, hp, e⟩ := List.mem_map.mp m
  have q : (kvs.any fun kv => decide (kv.1 = k)) = true := List.any_eq_true.mpr ⟨p, hp, decide_eq_true e⟩
  rw [valV_any, h] at q
  exact absurd q (by simp)
theorem valV_in {kvs : List (κ × V)} {k : κ} {v : V} (h : valV kvs k = some v) : k ∈ kvs.map (·.1) := by
  have q : (kvs.any fun kv => decide (kv.1 = k)) = true := by
    rw [valV_any, h]
    all_goals rfl
  obtain ⟨p, hp, e⟩ := List.any_eq_true.mp q
  exact List.mem_map.mpr ⟨p, hp, of_decide_eq_true e⟩
theorem nd_snoc : ∀ {l : List κ} {k : κ}, l.Nodup → ¬ k ∈ l → (l ++ [k]).Nodup
  | [], k, _, _ => by simp
  | a :: r, k, h, hk => by
    obtain ⟨h1, h2⟩ := List.nodup_cons.mp h
    show (a :: (r ++ [k])).Nodup
    refine List.nodup_cons.mpr ⟨fun m => ?_, nd_snoc h2 fun m => hk (List.mem_cons.mpr (Or.inr m))⟩
    rcases List.mem_append.mp m with q | q
    · exact h1 q
    · exact hk (List.mem_cons.mpr (Or.inl (List.mem_singleton.mp q).symm))
theorem nd_putK {kvs : List (κ × V)} {k : κ} (v : V) (hn : (kvs.map (·.1)).Nodup) (h : valV kvs k = none) : ((putK kvs k v).map (·.1)).Nodup := by
  rw [putK_new v h, List.map_append]
  exact nd_snoc hn (valV_not h)
theorem dropK_pos {p : κ × V} {r : List (κ × V)} {k : κ} (e : p.1 = k) : dropK (p :: r) k = dropK r k := by
  unfold dropK
  rw [List.filter_cons, if_neg (by simp [e])]
theorem dropK_neg {p : κ × V} {r : List (κ × V)} {k : κ} (e : ¬ p.1 = k) : dropK (p :: r) k = p :: dropK r k := by
  unfold dropK
  rw [List.filter_cons, if_pos (by simp [e])]
theorem dropK_no : ∀ {kvs : List (κ × V)} {k : κ}, ¬ k ∈ kvs.map (·.1) → dropK kvs k = kvs
  | [], _, _ => rfl
  | p :: r, k, h => by
    have h' : ¬ k ∈ r.map (·.1) := fun m => by
      obtain ⟨q, hq, e⟩ := List.mem_map.mp m
      exact h (List.mem_map.mpr ⟨q, List.mem_cons.mpr (Or.inr hq), e⟩)
    rw [dropK_neg fun e => h (List.mem_map.mpr ⟨p, List.mem_cons.mpr (Or.inl rfl), e⟩), dropK_no h']
theorem dropK_mem {kvs : List (κ × V)} {k : κ} {p : κ × V} (h : p ∈ dropK kvs k) : p ∈ kvs := (List.mem_filter.mp h).1
theorem nd_dropK : ∀ {kvs : List (κ × V)} {k : κ}, (kvs.map (·.1)).Nodup → ((dropK kvs k).map (·.1)).Nodup
  | [], _, _ => List.nodup_nil
  | p :: r, k, h => by
    have h : (p.1 :: r.map (·.1)).Nodup := h
    obtain ⟨h1, h2⟩ := List.nodup_cons.mp h
    by_cases e : p.1 = k
    · rw [dropK_pos e]
      exact nd_dropK h2
    · rw [dropK_neg e]
      show (p.1 :: (dropK r k).map (·.1)).Nodup
      refine List.nodup_cons.mpr ⟨fun m => h1 ?_, nd_dropK h2⟩
      obtain ⟨q, hq, eq⟩ := List.mem_map.mp m
      exact List.mem_map.mpr ⟨q, dropK_mem hq, eq⟩
theorem dropK_len : ∀ {kvs : List (κ × V)} {k : κ}, (kvs.map (·.1)).Nodup → k ∈ kvs.map (·.1) → (dropK kvs k).length + 1 = kvs.length
  | [], _, _, m => by simp at m
  | p :: r, k, h, m => by
    have h : (p.1 :: r.map (·.1)).Nodup := h
    have m : k = p.1 ∨ k ∈ r.map (·.1) := List.mem_cons.mp m
    obtain ⟨h1, h2⟩ := List.nodup_cons.mp h
    by_cases e : p.1 = k
    · subst e
      rw [dropK_pos rfl, dropK_no h1]
      all_goals rfl
    · have m' : k ∈ r.map (·.1) := m.resolve_left fun z => e z.symm
      have q := dropK_len h2 m'
      rw [dropK_neg e, List.length_cons, List.length_cons]
      omega
end
/-! ### lists -/
theorem at_of {xs : List V} {z : Int} {j : Nat} {v : V} (e : z = (j : Int)) (h : xs[j]? = some v) : atI xs z = some v := by
  rw [e]
  exact atI_nat h
theorem nd_ix {α : Type} {l : List α} (hN : l.Nodup) {i j : Nat} {x : α} (a : l[i]? = some x) (b : l[j]? = some x) : i = j := by
  obtain ⟨h1, e1⟩ := List.getElem?_eq_some_iff.mp a
  obtain ⟨h2, e2⟩ := List.getElem?_eq_some_iff.mp b
  exact (List.getElem_inj hN).mp (e1.trans e2.symm)
theorem sum_set : ∀ {l : List Int} {j : Nat} {z y : Int}, l[j]? = some z → (l.set j y).sum = l.sum - z + y
  | [], j, z, y, h => by simp at h
  | a :: r, 0, z, y, h => by
    have e : a = z := Option.some.inj h
    subst e
    show (y :: r).sum = (a :: r).sum - a + y
    rw [List.sum_cons, List.sum_cons]
    omega
  | a :: r, j + 1, z, y, h => by
    have ih := sum_set (l := r) (j := j) (z := z) (y := y) h
    show (a :: r.set j y).sum = (a :: r).sum - z + y
    rw [List.sum_cons, List.sum_cons, ih]
    omega
theorem sum_take : ∀ {l : List Int} {i : Nat} {z : Int}, l[i]? = some z → (l.take (i + 1)).sum = (l.take i).sum + z
  | [], i, z, h => by simp at h
  | a :: r, 0, z, h => by
    have e : a = z := Option.some.inj h
    subst e
    show ([a] : List Int).sum = ([] : List Int).sum + a
    rw [List.sum_cons]
    exact Int.add_comm _ _
  | a :: r, i + 1, z, h => by
    have ih := sum_take (l := r) (i := i) (z := z) h
    show (a :: r.take (i + 1)).sum = (a :: r.take i).sum + z
    rw [List.sum_cons, List.sum_cons, ih]
    omega
/-- a new instance and its __init__ leave all that was tracked as it was -/
theorem Same.made {H H1 : Hp} {x dx C : Addr} (nx : H x = Option.none) (nd : H dx = Option.none) (k : ∀ b o, (upd (upd H dx (.own x)) x (.ins C dx [])) b = some o → b ≠ x → H1 b = some o) : Same H H1 := fun b o e =>
  k b o (by rw [upd_ne (ne_of_none e nx), upd_ne (ne_of_none e nd)]; exact e) (ne_of_none e nx)
end L2

set_option Elab.async false
set_option linter.all false
set_option maxRecDepth 100000
set_option maxHeartbeats 4000000
namespace L2
open PySem PySem.Spec PyProof.Rows
section
variable {X : Cx}
/-- // by any positive divisor below 2 ^ 200 -/
def CDivB (i j : Int) : Prop := 0 < j ∧ j < 2 ^ 200
theorem CDivB.py {i j : Int} (h : CDivB i j) : Builtin.divisionGoesByPylong i j = false := by
  obtain ⟨h1, h2⟩ := h
  refine PyProof.noPylong_of_log2 ?_
  have e : j.natAbs < 2 ^ 200 := by
    have z : ((j.natAbs : Nat) : Int) < ((2 ^ 200 : Nat) : Int) := by
      rw [Int.natAbs_of_nonneg (Int.le_of_lt h1)]
      rw [Int.natCast_pow]
      exact h2
    exact Int.ofNat_lt.mp z
  have n0 : j.natAbs ≠ 0 := by omega
  have := (Nat.log2_lt n0).mpr e
  omega
theorem op_fdivB : OpR X (binaryOp .FloorDiv) (rI CDivB fun i j => .int (i / j)) := opI fun i j _ _ _ _ _ hc q => by
  have h1 : (0 : Int) < j := hc.1
  exact floordiv_int (by omega) (by rw [Int.fdiv_eq_ediv_of_nonneg i (by omega)]; exact q) (.inl hc.py)
theorem iop_fdivB : OpR X (inplaceOp .FloorDiv) (rI CDivB fun i j => .int (i / j)) := opI fun i j _ _ _ _ _ hc q => by
  have h1 : (0 : Int) < j := hc.1
  exact ifloordiv_int (by omega) (by rw [Int.fdiv_eq_ediv_of_nonneg i (by omega)]; exact q) (.inl hc.py)
/-- is True, is False of a bool -/
theorem op_isB : OpR X (compareOp .Is) (fun x y H Q => ∃ a b, x = .bl a ∧ y = .bl b ∧ Q (.bl (a == b)) H) := by
  intro pins s σ H x y v u Q I rx ry h
  obtain ⟨a, b, rfl, rfl, q⟩ := h
  cases rx
  cases ry
  exact is_bool (fin_bl I q rfl)
theorem op_isnotB : OpR X (compareOp .IsNot) (fun x y H Q => ∃ a b, x = .bl a ∧ y = .bl b ∧ Q (.bl (a != b)) H) := by
  intro pins s σ H x y v u Q I rx ry h
  obtain ⟨a, b, rfl, rfl, q⟩ := h
  cases rx
  cases ry
  exact isnot_bool (fin_bl I q rfl)
/-- a class as a value: a built-in one or an own one -/
def clsV : V → Option Value
  | .ty n => some (.type n)
  | .ref a => some (.ref a)
  | _ => Option.none
/-- isinstance(x, c) -/
theorem call_isinst : CallR X (.builtin "isinstance") (fun xs H Q => ∃ x cv c t b, xs = [x, cv] ∧ clsV cv = some c ∧ TyOf X.K H x t ∧ PySem.W.kitOne X.K t c = some b ∧ Q (.bl b) H) := by
  intro pins s σ H xs us Q I r h
  obtain ⟨x, cv, c, t, b, rfl, rc, ty, e, q⟩ := h
  obtain ⟨u, w', rfl, ru, rw'⟩ := vals2 r
  have : w' = c := by
    cases cv with
    | ty n => exact (show w' = Value.type n from rw').trans (Option.some.inj rc)
    | ref a => exact (show w' = Value.ref a from rw').trans (Option.some.inj rc)
    | non => cases rc
    | bl z => cases rc
    | int i => cases rc
    | str i => cases rc
    | byt i => cases rc
    | flt i => cases rc
  subst this
  exact isinst_ok I ru ty e fun tk => ⟨.bl b, H, I.tok _, rfl, q⟩
end
section
variable {P : Program} {w : World} {K : PySem.W.Frag} {mg : Str → Option Value} {base : Heap}
/-- a def of the module, ready to be called -/
structure CalF (P : Program) (w : World) (K : PySem.W.Frag) (mg : Str → Option Value) (base : Heap) (k : Nat) (x : Str) (ps : List Str) (sp : Sp) : Prop where
  ex : ∃ (f : Addr) (fd : FuncData), FnOk P w K mg base CX0 k f fd ps sp ∧ mg x = some (.ref f) ∧ PySem.W.keepIn K (.ref f) = true ∧ Binds K fd ps []
/-- a method of the class at C, ready to be called -/
structure CalM (P : Program) (w : World) (K : PySem.W.Frag) (mg : Str → Option Value) (base : Heap) (k : Nat) (C : Addr) (m : Str) (ps : List Str) (sp : Sp) : Prop where
  ex : ∃ (f : Addr) (fd : FuncData), FnOk P w K mg base CX0 k f fd ps sp ∧ Meth K C m f ∧ Binds K fd ps []
  cl : Cls K C
/-- the same by keywords alone: the keywords in the order ks; gV puts them in the parameters' order -/
structure CalMK (P : Program) (w : World) (K : PySem.W.Frag) (mg : Str → Option Value) (base : Heap) (k : Nat) (C : Addr) (m : Str) (ps ks : List Str) (gV : List V → List V → List V) (sp : Sp) : Prop where
  ex : ∃ (f : Addr) (fd : FuncData) (g : List Value → List Value → List Value), FnOk P w K mg base CX0 k f fd ps sp ∧ Meth K C m f ∧ KBinds K fd ps ks g gV
  cl : Cls K C
/-- a class, ready to be made -/
structure CalC (P : Program) (w : World) (K : PySem.W.Frag) (mg : Str → Option Value) (base : Heap) (k : Nat) (x : Str) (C : Addr) (ps : List Str) (sp : Sp) : Prop where
  ex : ∃ (f : Addr) (fd : FuncData), FnOk P w K mg base CX0 k f fd ps sp ∧ Mk K C f ∧ Binds K fd ps []
  mg : mg x = some (.ref C)
structure CalCK (P : Program) (w : World) (K : PySem.W.Frag) (mg : Str → Option Value) (base : Heap) (k : Nat) (x : Str) (C : Addr) (ps ks : List Str) (gV : List V → List V → List V) (sp : Sp) : Prop where
  ex : ∃ (f : Addr) (fd : FuncData) (g : List Value → List Value → List Value), FnOk P w K mg base CX0 k f fd ps sp ∧ Mk K C f ∧ KBinds K fd ps ks g gV
  mg : mg x = some (.ref C)
end
section
variable {X : Cx} {k : Nat} {C : Addr} {ps ks : List Str} {sp : Sp} {x m : Str} {p pos apos : Pos} {e o : Expr} {es : List Expr} {kws : List Keyword} {ta : TE} {t tk : TA} {gV : List V → List V → List V}
theorem pe_callF (c : CalF X.prog X.w X.K X.mg X.base k x ps sp) (hr : Room k X.A) (hg : Gl X x) (ha : PA X (e :: es) t) (hdb : (x == ("__debug__" : Str)) = false := by decide)
    (he : starEach (e :: es) X.env = (false, eval e X.env) :: starEach es X.env := by rfl) (hpl : (backTo pos (starEach es X.env)).any (·.1) = false := by rfl) : PE X (.Call (.Name x p) (e :: es) [] pos) (tCall sp [] E0 t) := by
  obtain ⟨f, fd, F, hm, hk, hb⟩ := c.ex
  exact pe_call F hr hg hm hk hb .nil pass0 ha hdb he hpl
theorem pe_methF {pl : Sem Bool} (c : CalM X.prog X.w X.K X.mg X.base k C m ps sp) (hr : Room k X.A) (ho : PE X o ta) (ha : PA X (e :: es) t)
    (hst : starEach (e :: es) X.env = (false, eval e X.env) :: starEach es X.env := by rfl) (hpl : (backTo pos (starEach es X.env)).any (·.1) = false := by rfl)
    (ht : eval (.Call (.Attribute o m apos) (e :: es) [] pos) X.env = (do
      let ov ← eval o X.env
      standAt apos.atName
      let (f, first) ← holding [ov] (getMethod ov m pl)
      callWith pos f first (backTo pos (starEach (e :: es) X.env)) (backToKw pos (keywordEach [] X.env))) := by rfl) :
    PE X (.Call (.Attribute o m apos) (e :: es) [] pos) (tMeth C m sp [] E0 ta t) := by
  obtain ⟨f, fd, F, hm, hb⟩ := c.ex
  exact pe_meth ho c.cl hm F hr hb .nil pass0 ha hst hpl ht
theorem pe_methF0 {pl : Sem Bool} (c : CalM X.prog X.w X.K X.mg X.base k C m ps sp) (hr : Room k X.A) (ho : PE X o ta)
    (ht : eval (.Call (.Attribute o m apos) [] [] pos) X.env = (do
      let ov ← eval o X.env
      standAt apos.atName
      let (f, first) ← holding [ov] (getMethod ov m pl)
      callWith pos f first (backTo pos (starEach [] X.env)) (backToKw pos (keywordEach [] X.env))) := by rfl) :
    PE X (.Call (.Attribute o m apos) [] [] pos) (tMeth C m sp [] E0 ta tNil) := by
  obtain ⟨f, fd, F, hm, hb⟩ := c.ex
  exact pe_meth0 ho c.cl hm F hr hb .nil pass0 ht
/-- o.m(k = v, ..) -/
def tMethK (C : Addr) (m : Str) (sp : Sp) (gV : List V → List V → List V) (ta : TE) (tk : TA) : TE := fun σ H Q => ta σ H fun x H1 => ∃ a dx fs, x = .ref a ∧ H1 a = some (.ins C dx fs) ∧ fs.lookup m = none ∧
  tk σ H1 fun zs H2 => sp (gV [x] zs) H2 Q E0
theorem pe_methKF {pl : Sem Bool} (c : CalMK X.prog X.w X.K X.mg X.base k C m ps ks gV sp) (hr : Room k X.A) (ho : PE X o ta) (hkw : PK X kws tk)
    (hall : (backToKw pos (keywordEach kws X.env)).all (·.1.isSome) = true := by rfl) (hks : (backToKw pos (keywordEach kws X.env)).filterMap (·.1) = ks := by rfl)
    (hpl : ((backTo pos (starEach [] X.env)).any (·.1) || (backToKw pos (keywordEach kws X.env)).any (·.1.isNone)) = false := by rfl)
    (ht : eval (.Call (.Attribute o m apos) [] kws pos) X.env = (do
      let ov ← eval o X.env
      standAt apos.atName
      let (f, first) ← holding [ov] (getMethod ov m pl)
      callWith pos f first (backTo pos (starEach [] X.env)) (backToKw pos (keywordEach kws X.env))) := by rfl) :
    PE X (.Call (.Attribute o m apos) [] kws pos) (tMethK C m sp gV ta tk) := by
  obtain ⟨f, fd, g, F, hm, hb⟩ := c.ex
  intro pins s σ H Q I h
  refine PySem.W.methodCall_KW (pl := pl) (thn (ho pins s σ H _ I h) fun u s1 ⟨x, H1, I1, rx, a, dx, fs, ex, ea, l, q⟩ => ?_) ht
  subst ex
  obtain rfl : u = Value.ref a := rx
  refine getmeth_ok I1 ea c.cl hm l ?_
  refine PySem.W.callWith_KW0 (first := [.ref a]) (h₀ := X.base) I.ok.mod.kin hm.kp hall (thn (hkw pos pins s1 σ H1 _ I1 q) fun ws s2 ⟨zs, H2, I2, rz, q2⟩ => ⟨I2.kIn, ?_⟩) hpl
  rw [hks]
  exact run_fnk (us := [.ref a]) (vs := [.ref a]) F hr hb pass0 I2 (.cons rfl .nil) rz q2
theorem pe_makeF (c : CalC X.prog X.w X.K X.mg X.base k x C ps sp) (hr : Room (k + 1) X.A) (hg : Gl X x) (ha : PA X (e :: es) t) (hdb : (x == ("__debug__" : Str)) = false := by decide)
    (he : starEach (e :: es) X.env = (false, eval e X.env) :: starEach es X.env := by rfl) (hpl : (backTo pos (starEach es X.env)).any (·.1) = false := by rfl) : PE X (.Call (.Name x p) (e :: es) [] pos) (tMake C sp [] E0 t) := by
  obtain ⟨f, fd, F, M, hb⟩ := c.ex
  exact pe_make M F hr hg c.mg hb .nil pass0 ha hdb he hpl
/-- C(k = v, ..) -/
def tMakeK (C : Addr) (sp : Sp) (gV : List V → List V → List V) (tk : TA) : TE := fun σ H Q => tk σ H fun zs H1 => ∀ x dx, H1 x = none → H1 dx = none → dx ≠ x →
  sp (gV [.ref x] zs) (upd (upd H1 dx (.own x)) x (.ins C dx [])) (fun v H2 => v = .non ∧ Q (.ref x) H2) E0
theorem pe_makeKF (c : CalCK X.prog X.w X.K X.mg X.base k x C ps ks gV sp) (hr : Room (k + 1) X.A) (hg : Gl X x) (hkw : PK X kws tk)
    (hall : (backToKw pos (keywordEach kws X.env)).all (·.1.isSome) = true := by rfl) (hks : (backToKw pos (keywordEach kws X.env)).filterMap (·.1) = ks := by rfl)
    (hpl : ((backTo pos (starEach [] X.env)).any (·.1) || (backToKw pos (keywordEach kws X.env)).any (·.1.isNone)) = false := by rfl) (hdb : (x == ("__debug__" : Str)) = false := by decide) :
    PE X (.Call (.Name x p) [] kws pos) (tMakeK C sp gV tk) := by
  obtain ⟨f, fd, g, F, M, hb⟩ := c.ex
  intro pins s σ H Q I h
  refine wpAny_Call_Name_kw (ld_glob I hg c.mg ?_ hdb)
  refine PySem.W.callWith_KW0 (first := []) (h₀ := X.base) I.ok.mod.kin M.kp hall (thn (hkw pos pins s σ H _ I h) fun ws s1 ⟨zs, H1, I1, rz, h⟩ => ⟨I1.kIn, ?_⟩) hpl
  rw [hks]
  show wpAny _ _ (call (.ref C) [] (ks.zip ws)) _ _ _
  have hq := h (s1.heap.objs.size + 1) s1.heap.objs.size (I1.hok.fresh (Nat.le_succ _)) (I1.hok.fresh (Nat.le_refl _)) (Nat.ne_of_lt (Nat.lt_succ_self _))
  have I2 := Inv.made (C := C) I1
  have r2 : Vals (gV [V.ref (s1.heap.objs.size + 1)] zs) (g [Value.ref (s1.heap.objs.size + 1)] ws) := hb.rel (.cons rfl .nil) rz
  have hl : (g [Value.ref (s1.heap.objs.size + 1)] ws).length = ps.length := by
    have e := r2.length
    rw [F.len _ _ _ _ hq] at e
    exact e.symm
  refine wpAny_call (make_map (f := f) I1.kIn M.makes M.init (beq_iff_eq.mp M.fn) (codeAny_mono (F.run _ X.stack _ _ ⟨[Value.ref (s1.heap.objs.size + 1)], ks.zip ws⟩ (g [Value.ref (s1.heap.objs.size + 1)] ws) _ _ E0 (hr.make C [] (ks.zip ws))
    (I2.env0.make C [] (ks.zip ws)) (hb.to _ [Value.ref (s1.heap.objs.size + 1)] ws I2.kIn hl) r2 hq) fun r s' hq' => ?_))
  cases r with
  | error e => exact (pass0 (X := X)) pins σ _ _ e s' I2 hq'
  | ok fl =>
    cases fl with
    | ret u =>
      obtain ⟨v, H', I3, rv, ev, q3⟩ := I2.after hq'
      subst ev
      exact ⟨rv, ⟨V.ref (s1.heap.objs.size + 1), H', I3, rfl, q3⟩⟩
    | next => exact False.elim hq'
    | brk => exact False.elim hq'
    | cont => exact False.elim hq'
end
/-! ### heaps that stay but for one address -/
def But (a : Addr) (H H' : Hp) : Prop := ∀ b o, H b = some o → b ≠ a → H' b = some o
theorem Same.but {a : Addr} {H H' : Hp} (h : Same H H') : But a H H' := fun b o e _ => h b o e
theorem But.refl (a : Addr) (H : Hp) : But a H H := fun _ _ e _ => e
theorem But.trans {a : Addr} {H H1 H2 : Hp} (h : But a H H1) (g : But a H1 H2) : But a H H2 := fun b o e n => g b o (h b o e n) n
theorem Same.upd {H : Hp} {a : Addr} {o : HO} (h : H a = Option.none) : Same H (upd H a o) := fun b u e => by
  rw [upd_ne (ne_of_none e h)]
  exact e
theorem But.upd {H : Hp} {a : Addr} {o : HO} : But a H (upd H a o) := fun b u e n => by
  rw [upd_ne n]
  exact e
theorem Same.tup {K : PySem.W.Frag} {H H' : Hp} {a : Addr} {xs : List V} (e : Same H H') (h : SqT K H a xs) : SqT K H' a xs := by
  rcases h with (h | ⟨o, h⟩) | h
  · exact .inl (.inl (e _ _ h))
  · exact .inl (.inr ⟨o, e _ _ h⟩)
  · exact .inr h
/-! ### tests that are reckoned -/
theorem ifD {c : Prop} [Decidable c] {A B : Prop} (h1 : c → A) (h2 : ¬ c → B) : if decide c = true then A else B := by
  by_cases h : c
  · rw [decide_eq_true h]; exact iteT (h1 h)
  · rw [decide_eq_false h]; exact iteF (h2 h)
theorem ifN {c : Prop} [Decidable c] {A B : Prop} (h1 : ¬ c → A) (h2 : c → B) : if (!decide c) = true then A else B := by
  by_cases h : c
  · rw [decide_eq_true h]; exact iteF (h2 h)
  · rw [decide_eq_false h]; exact iteT (h1 h)
theorem ifI {i j : Int} {A B : Prop} (h1 : i = j → A) (h2 : i ≠ j → B) : if decide (V.int i = V.int j) = true then A else B :=
  ifD (fun h => h1 (V.int.inj h)) fun h => h2 fun e => h (by rw [e])
theorem ifNI {i j : Int} {A B : Prop} (h1 : i ≠ j → A) (h2 : i = j → B) : if (!decide (V.int i = V.int j)) = true then A else B :=
  ifN (fun h => h1 fun e => h (by rw [e])) fun h => h2 (V.int.inj h)
theorem ifB {b : Bool} {A B : Prop} (h1 : b = true → A) (h2 : b = false → B) : if b = true then A else B := by
  cases b with
  | true => exact iteT (h1 rfl)
  | false => exact iteF (h2 rfl)
/-- the branch is known -/
theorem ifT {b : Bool} {A B : Prop} (h : b = true) (h1 : A) : if b = true then A else B := by rw [h]; exact iteT h1
theorem ifF {b : Bool} {A B : Prop} (h : b = false) (h1 : B) : if b = true then A else B := by rw [h]; exact iteF h1
/-- an end, its value turned -/
theorem endV {Q : VK} {v v' : V} {H : Hp} (e : v = v') (q : Q v' H) : Q v H := e ▸ q
theorem endI {Q : VK} {i j : Int} {H : Hp} (e : i = j) (q : Q (.int j) H) : Q (.int i) H := e ▸ q
theorem endB {Q : VK} {i j : Bool} {H : Hp} (e : i = j) (q : Q (.bl j) H) : Q (.bl i) H := e ▸ q
/-! ### calls by keywords: one keyword behind self; two in the other order -/
def kv1 {α : Type} : List α → List α → List α
  | [v], [z] => [v, z]
  | _, _ => []
def kv2 {α : Type} : List α → List α → List α
  | [v], [y, z] => [v, z, y]
  | _, _ => []
theorem kv1_rel {vs : List V} {us : List Value} {zs : List V} {ws : List Value} (r : Vals vs us) (q : Vals zs ws) : Vals (kv1 vs zs) (kv1 us ws) := by
  cases r with
  | nil => cases q <;> exact .nil
  | cons r1 r2 =>
    cases r2 with
    | nil =>
      cases q with
      | nil => exact .nil
      | cons q1 q2 =>
        cases q2 with
        | nil => exact .cons r1 (.cons q1 .nil)
        | cons _ _ => exact .nil
    | cons _ _ => cases q <;> exact .nil
theorem kv2_rel {vs : List V} {us : List Value} {zs : List V} {ws : List Value} (r : Vals vs us) (q : Vals zs ws) : Vals (kv2 vs zs) (kv2 us ws) := by
  cases r with
  | nil => cases q <;> exact .nil
  | cons r1 r2 =>
    cases r2 with
    | nil =>
      cases q with
      | nil => exact .nil
      | cons q1 q2 =>
        cases q2 with
        | nil => exact .nil
        | cons q3 q4 =>
          cases q4 with
          | nil => exact .cons r1 (.cons q3 (.cons q1 .nil))
          | cons _ _ => exact .nil
    | cons _ _ => cases q <;> exact .nil
section
variable {K : PySem.W.Frag} {x qual : Str} {st : Stmt} {f : Addr} {fd : FuncData} {ps : List Str}
theorem Fun.kb1 {k : Str} (F : Fun K x qual st f fd) (hp : ps.length = 2)
    (h : ∀ (kV doc pm : Value) (an : Option Addr) (cdv ct u v : Value), bindArgs (PySem.W.fnOf x qual (defArgs st) (defBody st) (defScope st) .none kV doc pm an cdv ct) ⟨[u], [(k, v)]⟩ = pure (ps.zip [u, v])) : KBinds K fd ps [k] kv1 kv1 := by
  obtain ⟨oc, od, kV, doc, pm, an, cdv, ct, osl, rfl, lk, hcd⟩ := F.ex
  refine ⟨fun s us ws _ hl => ?_, fun r q => kv1_rel r q⟩
  rw [hp] at hl
  match us, ws, hl with
  | [u], [v], _ => exact .of_eq (h kV doc pm an cdv ct u v)
theorem Fun.kb2 {k k' : Str} (F : Fun K x qual st f fd) (hp : ps.length = 3)
    (h : ∀ (kV doc pm : Value) (an : Option Addr) (cdv ct u v w : Value), bindArgs (PySem.W.fnOf x qual (defArgs st) (defBody st) (defScope st) .none kV doc pm an cdv ct) ⟨[u], [(k, v), (k', w)]⟩ = pure (ps.zip [u, w, v])) : KBinds K fd ps [k, k'] kv2 kv2 := by
  obtain ⟨oc, od, kV, doc, pm, an, cdv, ct, osl, rfl, lk, hcd⟩ := F.ex
  refine ⟨fun s us ws _ hl => ?_, fun r q => kv2_rel r q⟩
  rw [hp] at hl
  match us, ws, hl with
  | [u], [v, w], _ => exact .of_eq (h kV doc pm an cdv ct u v w)
end
end L2

set_option Elab.async false
set_option linter.all false
namespace Mth
theorem sq {d x y : Nat} (hx : d ∣ x) (hy : d ∣ y) (h1 : x ≤ y) (h2 : y < x + d) : y = x := by
  obtain ⟨a, rfl⟩ := hx
  obtain ⟨c, rfl⟩ := hy
  have h3 : d * c < d * (a + 1) := by rw [Nat.mul_add, Nat.mul_one]; exact h2
  have h4 : c < a + 1 := Nat.lt_of_mul_lt_mul_left h3
  have hd : 0 < d := by
    rcases Nat.eq_zero_or_pos d with e | e
    · subst e; simp at h2
    · exact e
  have h5 : a ≤ c := Nat.le_of_mul_le_mul_left h1 hd
  have : c = a := by omega
  rw [this]
theorem sq2 {d x y : Nat} (hx : d ∣ x) (hy : d ∣ y) (h : x < y) : x + d ≤ y := by
  obtain ⟨a, rfl⟩ := hx
  obtain ⟨c, rfl⟩ := hy
  have h4 : a < c := Nat.lt_of_mul_lt_mul_left h
  have h5 : d * (a + 1) ≤ d * c := Nat.mul_le_mul_left d h4
  rw [Nat.mul_add, Nat.mul_one] at h5
  exact h5
/-- n brought down to a multiple of d -/
def flo (d n : Nat) : Nat := n - n % d
theorem flo_le (d n : Nat) : flo d n ≤ n := Nat.sub_le _ _
theorem flo_dvd (d n : Nat) : d ∣ flo d n := Nat.dvd_sub_mod n
theorem flo_ge {d m n : Nat} (h : d ∣ m) (hm : m ≤ n) : m ≤ flo d n := by
  have hd : 0 < d ∨ d = 0 := by omega
  rcases hd with hd | hd
  · rcases Nat.lt_or_ge (flo d n) m with q | q
    · have h1 := sq2 (flo_dvd d n) h q
      have h2 : n % d < d := Nat.mod_lt _ hd
      have h3 : n % d ≤ n := Nat.mod_le _ _
      unfold flo at h1
      omega
    · exact q
  · subst hd
    unfold flo
    rw [Nat.mod_zero]
    have : m = 0 := Nat.eq_zero_of_zero_dvd h
    omega
theorem flo_lt {d n : Nat} (hd : 0 < d) : n < flo d n + d := by
  have h2 : n % d < d := Nat.mod_lt _ hd
  have h3 : n % d ≤ n := Nat.mod_le _ _
  unfold flo
  omega
def lev (b n : Nat) : Nat := if h : 2 ≤ b ∧ 0 < n ∧ n % b = 0 then lev b (n / b) + 1 else 0
termination_by n
decreasing_by exact Nat.div_lt_self h.2.1 h.1
def lp (b n : Nat) : Nat := b ^ lev b n
theorem pow_pos' {b k : Nat} (hb : 2 ≤ b) : 0 < b ^ k := Nat.pow_pos (by omega)
theorem lp_pos {b n : Nat} (hb : 2 ≤ b) : 0 < lp b n := pow_pos' hb
theorem lev_spec {b : Nat} (hb : 2 ≤ b) : ∀ n : Nat, 0 < n → b ^ lev b n ∣ n ∧ ¬ b ^ (lev b n + 1) ∣ n := by
  intro n
  induction n using Nat.strongRecOn with
  | ind n ih =>
    intro hn
    rw [lev]
    by_cases h : 2 ≤ b ∧ 0 < n ∧ n % b = 0
    · rw [dif_pos h]
      have hq : n = b * (n / b) := by
        have := Nat.div_add_mod n b
        omega
      have hp : 0 < n / b := by
        rcases Nat.eq_zero_or_pos (n / b) with e | e
        · rw [e] at hq; omega
        · exact e
      obtain ⟨h1, h2⟩ := ih (n / b) (Nat.div_lt_self hn hb) hp
      constructor
      · rw [Nat.pow_succ, Nat.mul_comm]
        conv => rhs; rw [hq]
        exact Nat.mul_dvd_mul_left b h1
      · intro q
        apply h2
        rw [Nat.pow_succ, Nat.mul_comm] at q
        conv at q => rhs; rw [hq]
        exact Nat.dvd_of_mul_dvd_mul_left (by omega) q
    · rw [dif_neg h]
      constructor
      · simp
      · intro q
        apply h
        refine ⟨hb, hn, ?_⟩
        simp at q
        exact Nat.mod_eq_zero_of_dvd q
theorem pow_dvd_le {b i j : Nat} (h : i ≤ j) : b ^ i ∣ b ^ j := Nat.pow_dvd_pow b h
theorem lev_uniq {b n k : Nat} (hb : 2 ≤ b) (hn : 0 < n) (h1 : b ^ k ∣ n) (h2 : ¬ b ^ (k + 1) ∣ n) : lev b n = k := by
  obtain ⟨g1, g2⟩ := lev_spec hb n hn
  rcases Nat.lt_trichotomy (lev b n) k with q | q | q
  · exact absurd (Nat.dvd_trans (pow_dvd_le q) h1) g2
  · exact q
  · exact absurd (Nat.dvd_trans (pow_dvd_le q) g1) h2
theorem lev_ge {b n k : Nat} (hb : 2 ≤ b) (hn : 0 < n) (h1 : b ^ k ∣ n) : k ≤ lev b n := by
  rcases Nat.lt_or_ge (lev b n) k with q | q
  · exact absurd (Nat.dvd_trans (pow_dvd_le q) h1) (lev_spec hb n hn).2
  · exact q
theorem lp_dvd {b n : Nat} (hb : 2 ≤ b) (hn : 0 < n) : lp b n ∣ n := (lev_spec hb n hn).1
theorem lp_le {b n : Nat} (hb : 2 ≤ b) (hn : 0 < n) : lp b n ≤ n := Nat.le_of_dvd hn (lp_dvd hb hn)
/-- the parent -/
def par (b n : Nat) : Nat := flo (b ^ (lev b n + 1)) n
theorem par_lt {b n : Nat} (hb : 2 ≤ b) (hn : 0 < n) : par b n < n := by
  have h1 := flo_le (b ^ (lev b n + 1)) n
  have h2 := flo_dvd (b ^ (lev b n + 1)) n
  rcases Nat.lt_or_ge (par b n) n with q | q
  · exact q
  · have e : flo (b ^ (lev b n + 1)) n = n := Nat.le_antisymm h1 q
    rw [e] at h2
    exact absurd h2 (lev_spec hb n hn).2
theorem par_dvd (b n : Nat) : b ^ (lev b n + 1) ∣ par b n := flo_dvd _ _
theorem par_le (b n : Nat) : par b n ≤ n := flo_le _ _
def chn (b n : Nat) : List Nat := if h : 2 ≤ b ∧ 0 < n then n :: chn b (par b n) else [n]
termination_by n
decreasing_by exact par_lt h.1 h.2
theorem chn_zero (b : Nat) : chn b 0 = [0] := by rw [chn]; simp
theorem chn_pos {b n : Nat} (hb : 2 ≤ b) (hn : 0 < n) : chn b n = n :: chn b (par b n) := by rw [chn, dif_pos ⟨hb, hn⟩]
theorem chn_hd {b n : Nat} (hb : 2 ≤ b) : ∃ r, chn b n = n :: r := by
  rcases Nat.eq_zero_or_pos n with e | e
  · subst e; exact ⟨[], chn_zero b⟩
  · exact ⟨_, chn_pos hb e⟩
theorem chn_mem0 {b : Nat} (hb : 2 ≤ b) : ∀ n, 0 ∈ chn b n := by
  intro n
  induction n using Nat.strongRecOn with
  | ind n ih =>
    rcases Nat.eq_zero_or_pos n with e | e
    · subst e; rw [chn_zero]; simp
    · rw [chn_pos hb e]
      exact List.mem_cons_of_mem _ (ih _ (par_lt hb e))
/-- whether m is in the chain of n -/
def hic (b n m : Nat) : Bool := decide (m = 0 ∨ (m ≤ n ∧ n < m + lp b m))
theorem chn_of_blk {b : Nat} (hb : 2 ≤ b) {m : Nat} (hm : 0 < m) : ∀ n, m ≤ n → n < m + lp b m → m ∈ chn b n := by
  intro n
  induction n using Nat.strongRecOn with
  | ind n ih =>
    intro h1 h2
    have hn : 0 < n := by omega
    rw [chn_pos hb hn]
    rcases Nat.eq_or_lt_of_le h1 with e | e
    · subst e; exact List.mem_cons_self
    · refine List.mem_cons_of_mem _ (ih _ (par_lt hb hn) ?_ (Nat.lt_of_le_of_lt (par_le b n) h2))
      refine flo_ge ?_ h1
      have hl : lev b n + 1 ≤ lev b m := by
        rcases Nat.lt_or_ge (lev b n) (lev b m) with q | q
        · exact q
        · have d1 : lp b m ∣ n := Nat.dvd_trans (pow_dvd_le q) (lp_dvd hb hn)
          have := sq (lp_dvd hb hm) d1 h1 h2
          omega
      exact Nat.dvd_trans (pow_dvd_le hl) (lp_dvd hb hm)
theorem blk_of_chn {b : Nat} (hb : 2 ≤ b) {m : Nat} (hm : 0 < m) : ∀ n, m ∈ chn b n → m ≤ n ∧ n < m + lp b m := by
  intro n
  induction n using Nat.strongRecOn with
  | ind n ih =>
    intro h
    rcases Nat.eq_zero_or_pos n with e | hn
    · subst e; rw [chn_zero] at h; simp at h; omega
    · rw [chn_pos hb hn] at h
      rcases List.mem_cons.mp h with e | h
      · subst e
        have := lp_pos (b := b) (n := m) hb
        omega
      · obtain ⟨h1, h2⟩ := ih _ (par_lt hb hn) h
        have h3 := par_le b n
        refine ⟨Nat.le_trans h1 h3, ?_⟩
        have d0 := par_dvd b n
        have hl : lev b n + 1 ≤ lev b m := by
          rcases Nat.lt_or_ge (lev b n) (lev b m) with q | q
          · exact q
          · have d1 : b ^ (lev b m + 1) ∣ par b n := Nat.dvd_trans (pow_dvd_le (by omega)) d0
            have d2 : lp b m ∣ par b n := Nat.dvd_trans (pow_dvd_le (by omega)) d1
            have e := sq (lp_dvd hb hm) d2 h1 h2
            rw [e] at d1
            exact absurd d1 (lev_spec hb m hm).2
        have d3 : b ^ (lev b n + 1) ∣ m + lp b m := Nat.dvd_add (Nat.dvd_trans (pow_dvd_le hl) (lp_dvd hb hm)) (pow_dvd_le hl)
        have h4 := sq2 d0 d3 h2
        have h5 : n < par b n + b ^ (lev b n + 1) := flo_lt (pow_pos' hb)
        omega
theorem hic_iff {b n m : Nat} (hb : 2 ≤ b) : hic b n m = true ↔ m ∈ chn b n := by
  unfold hic
  rw [decide_eq_true_iff]
  rcases Nat.eq_zero_or_pos m with e | hm
  · subst e; simp [chn_mem0 hb n]
  · constructor
    · rintro (e | ⟨h1, h2⟩)
      · omega
      · exact chn_of_blk hb hm n h1 h2
    · intro h; exact .inr (blk_of_chn hb hm n h)
/-! the chain by clearing digits -/
theorem flo_one (n : Nat) : flo 1 n = n := by unfold flo; rw [Nat.mod_one]; rfl
theorem flo_step {b j n : Nat} (hb : 2 ≤ b) : flo (b ^ (j + 1)) n ≤ flo (b ^ j) n :=
  flo_ge (Nat.dvd_trans (pow_dvd_le (Nat.le_succ j)) (flo_dvd _ _)) (flo_le _ _)
theorem flo_par {b j n : Nat} (hb : 2 ≤ b) (h : flo (b ^ (j + 1)) n < flo (b ^ j) n) : par b (flo (b ^ j) n) = flo (b ^ (j + 1)) n := by
  have hp : 0 < flo (b ^ j) n := by omega
  have hl : lev b (flo (b ^ j) n) = j := by
    refine lev_uniq hb hp (flo_dvd _ _) fun q => ?_
    have := flo_ge q (flo_le (b ^ j) n)
    omega
  unfold par
  rw [hl]
  refine Nat.le_antisymm (flo_ge (flo_dvd _ _) (Nat.le_trans (flo_le _ _) (flo_le _ _))) (flo_ge (flo_dvd _ _) (flo_step hb))
theorem flo_zero {d n : Nat} (h : n < d) : flo d n = 0 := by unfold flo; rw [Nat.mod_eq_of_lt h]; omega
/-! lengths -/
theorem chn_len {b : Nat} (hb : 2 ≤ b) : ∀ d n, 0 < n → n < b ^ (lev b n + d) → (chn b n).length ≤ d + 1 := by
  intro d
  induction d with
  | zero =>
    intro n hn h
    have := lp_le hb hn
    unfold lp at this
    simp at h
    omega
  | succ d ih =>
    intro n hn h
    rw [chn_pos hb hn, List.length_cons]
    rcases Nat.eq_zero_or_pos (par b n) with e | e
    · rw [e, chn_zero]; simp
    · have hl := lev_ge hb e (par_dvd b n)
      have h1 : par b n < b ^ (lev b (par b n) + d) := Nat.lt_of_le_of_lt (par_le b n) (Nat.lt_of_lt_of_le h (Nat.pow_le_pow_right (by omega) (by omega)))
      have := ih _ e h1
      omega
theorem pow_base {b k n : Nat} (hb : 2 ≤ b) (h : n < 2 ^ k) : n < b ^ k := Nat.lt_of_lt_of_le h (Nat.pow_le_pow_left hb k)
theorem chn_small {b n k : Nat} (hb : 2 ≤ b) (h : n < 2 ^ k) : (chn b n).length ≤ k + 1 := by
  rcases Nat.eq_zero_or_pos n with e | e
  · subst e; rw [chn_zero]; simp
  · exact chn_len hb k n e (Nat.lt_of_lt_of_le (pow_base hb h) (Nat.pow_le_pow_right (by omega) (by omega)))
theorem lt_pow_self' {b n : Nat} (hb : 2 ≤ b) : n < b ^ n := Nat.lt_pow_self (by omega)
/-! the law's own reckoning -/
theorem div_dvd {b j n : Nat} (h : b ^ j ∣ n) (hq : n / b ^ j % b = 0) : b ^ (j + 1) ∣ n := by
  obtain ⟨c, rfl⟩ := h
  rcases Nat.eq_zero_or_pos (b ^ j) with e | e
  · rw [e]; simp
  · rw [Nat.mul_div_cancel_left c e] at hq
    rw [Nat.pow_succ]
    exact Nat.mul_dvd_mul_left _ (Nat.dvd_of_mod_eq_zero hq)
theorem div_ndvd {b j n : Nat} (hb : 2 ≤ b) (h : b ^ j ∣ n) (hq : n / b ^ j % b ≠ 0) : ¬ b ^ (j + 1) ∣ n := by
  obtain ⟨c, rfl⟩ := h
  rw [Nat.mul_div_cancel_left c (pow_pos' hb)] at hq
  intro q
  rw [Nat.pow_succ] at q
  exact hq (Nat.mod_eq_zero_of_dvd (Nat.dvd_of_mul_dvd_mul_left (pow_pos' hb) q))
theorem par_law {b n : Nat} (hb : 2 ≤ b) (hn : 0 < n) : n - n / lp b n % b * lp b n = par b n := by
  unfold par flo
  congr 1
  obtain ⟨c, hc⟩ := lp_dvd hb hn
  have hp := lp_pos (b := b) (n := n) hb
  have e1 : n / lp b n = c := by
    conv => lhs; lhs; rw [hc]
    exact Nat.mul_div_cancel_left c hp
  rw [e1, Nat.pow_succ]
  show _ = n % (lp b n * b)
  conv => rhs; lhs; rw [hc]
  rw [Nat.mul_mod_mul_left, Nat.mul_comm]
end Mth

set_option Elab.async false
set_option linter.all false
set_option maxRecDepth 100000
set_option maxHeartbeats 4000000
namespace L2
open PySem PySem.Spec PyProof.Rows
section
open PySem.W
variable {prog : Program} {w : World} {A : Around} {E : Value → Shared → Prop} {s : Shared} {K : Frag} {x C f : Addr} {ox : Obj} {od : Option Obj}
theorem ifBound_ne {args : List Value} {Q : Option Value → Shared → Prop} (X : K.In s.heap) (I : InstAt s.heap x ox C od) (hs : findIn K (.ref C) "__ne__" = some (some (.builtin "object.__ne__")))
    (h : wpAny (model prog w) A (call (.builtin "object.__ne__") (.ref x :: args)) (fun v => Q (some v)) E s) : wpAny (model prog w) A (callSpecialIfBound? (.ref x) "__ne__" args) Q E s := by
  simp only [callSpecialIfBound?, bindSpecialIfBound?]
  refine wpAny_holding (wpAny_bind (wpAny_bind (wpAny_bind (I.type.here ((looks_findIn X hs).here ?_)))))
  simp only [PySem.F.cmp_object.ne.bind]
  refine wpAny_bind (wpAny_askSetting (wpAny_ite ?_))
  have fin : wpAny (model prog w) A (call (.builtin "object.__ne__") ([.ref x] ++ args) >>= fun v => pure (some v)) Q E s := wpAny_bind (wpAny_mono h (fun v s' h' => wpAny_pure h') fun _ _ h' => h')
  split
  · exact wpAny_bind (wpAny_pure (wpAny_pure fin))
  · exact wpAny_tryCatch (wpAny_bind (wpAny_pure (wpAny_pure fin)))
theorem objNe_own {y : Addr} {Q : Fin → Shared → Prop} (X : K.In s.heap) (I : InstAt s.heap x ox C od) (he : findIn K (.ref C) "__eq__" = some (some (.ref f))) (hf : isFn K (.ref f) = true) (hu : A.units < cLine)
    (hcall : wpAny (model prog w) A (call (.ref f) [.ref x, .ref y]) (fun v s' => ∃ b, v = .bool b ∧ Q (.done (.ret (.bool (!b)))) s') E s) :
    wpAny (model prog w) A (Builtin.«object.__ne__» ⟨[.ref x, .ref y], []⟩) Q E s := by
  unfold Builtin.«object.__ne__»
  repeat (first
    | with_reducible refine wpAny_cRoomFor hu ?_
    | (refine wpAny_bind (m := callSpecialIfBound? (.ref x) (Str.ofString "__eq__") [.ref y])
        (ifBound_K X I he hf (wpAny_mono hcall (fun r s' hr => by
          obtain ⟨b, rfl, hq⟩ := hr
          repeat (first | exact hq | exact wpAny_pure hq | exact wpAny_truthy_bool hq | (refine wpAny_bind (m := truthy (.bool _)) (wpAny_truthy_bool ?_)) | wp_step)) fun _ _ e => e)))
    | wp_step)
theorem ne_own {y : Addr} {oy : Obj} {dy : Option Obj} {Q : Value → Shared → Prop} (X : K.In s.heap) (I : InstAt s.heap x ox C od) (J : InstAt s.heap y oy C dy) (he : findIn K (.ref C) "__eq__" = some (some (.ref f))) (hf : isFn K (.ref f) = true)
    (hn : findIn K (.ref C) "__ne__" = some (some (.builtin "object.__ne__"))) (hm : mroIn K C (.type "object") = some true) (hu : A.units + 1 < cLine)
    (hcall : wpAny (model prog w) A.in1 (call (.ref f) [.ref x, .ref y]) (fun v s' => ∃ b, v = .bool b ∧ Q (.bool (!b)) s') E s) :
    wpAny (model prog w) A (compareOp .NotEq (.ref x) (.ref y)) Q E s := by
  have one : wpAny (model prog w) A (tryCompare (.ref x) "__ne__" (.ref y)) (fun r s' => ∃ v, r = some v ∧ Q v s') E s := by
    simp only [tryCompare]
    refine wpAny_bind (ifBound_ne X I hn (wpAny_call (codeAny_call_builtin PySem.F.cmp_object.ne.plain PySem.F.cmpEntry_ne
      (check_slot PySem.F.cmpKind_ne PySem.F.cmpSplit_ne (I.type.andThen (looks_mroIn X hm)) (PySem.F.cmpArgs_ne _ _)
        (objNe_own X I he hf hu (wpAny_mono hcall (fun v s' hv => ?_) fun _ _ e => e))))))
    obtain ⟨b, rfl, hq⟩ := hv
    first | exact ⟨b, rfl, wpAny_pure ⟨_, rfl, hq⟩⟩ | exact ⟨b, rfl, wpAny_pure (wpAny_pure ⟨_, rfl, hq⟩)⟩
  unfold compareOp richCompare
  simp only [oneThing_ref]
  refine wpAny_holding (wpAny_bind (wpAny_cRoomFor (Nat.lt_of_succ_lt hu) ?_))
  rw [cmpInfo_NotEq]
  dsimp only
  refine wpAny_bind (I.type.here (wpAny_bind (J.type.here ?_)))
  rw [show (Value.ref C != Value.ref C) = false from by simp]
  simp only [Bool.false_eq_true, if_false]
  refine wpAny_bind (wpAny_pure ?_)
  simp only [Bool.false_eq_true, if_false]
  refine wpAny_bind (wpAny_mono one (fun r s' z => ?_) fun _ _ e => e)
  obtain ⟨v, rfl, hq⟩ := z
  exact wpAny_pure hq
end
section
variable {X : Cx} {C f : Addr} {fd : FuncData} {k : Nat} {ps : List Str} {sp : Sp}
/-- x != y of two instances of one own class that has __eq__ and no __ne__ -/
theorem op_neOwn (F : FnOk X.prog X.w X.K X.mg X.base CX0 k f fd ps sp) (hr : Room (k + 1) X.A) (hb : Binds X.K fd ps []) (he : PySem.W.findIn X.K (.ref C) "__eq__" = some (some (.ref f))) (hf : PySem.W.isFn X.K (.ref f) = true)
    (hn : PySem.W.findIn X.K (.ref C) "__ne__" = some (some (.builtin "object.__ne__"))) (hm : PySem.W.mroIn X.K C (.type "object") = some true) :
    OpR X (compareOp .NotEq) (fun x y H Q => ∃ p q dx fs dy gs, x = .ref p ∧ y = .ref q ∧ H p = some (.ins C dx fs) ∧ H q = some (.ins C dy gs) ∧ sp [.ref p, .ref q] H (fun v H' => ∃ b, v = .bl b ∧ Q (.bl (!b)) H') E0) := by
  intro pins s σ H x y v u Q I rx ry h
  obtain ⟨p, q, dx, fs, dy, gs, rfl, rfl, hp, hq, h⟩ := h
  cases rx
  cases ry
  obtain ⟨mA, O, _⟩ := ins_get I.hok hp
  obtain ⟨od, J, _⟩ := O.look
  obtain ⟨mB, O', _⟩ := ins_get I.hok hq
  obtain ⟨od', J', _⟩ := O'.look
  refine ne_own I.kIn J J' he hf hn hm (by have := hr.units; omega) ?_
  have r2 : Vals [V.ref p, V.ref q] [Value.ref p, Value.ref q] := .cons rfl (.cons rfl .nil)
  have hl : ([Value.ref p, Value.ref q] ++ []).length = ps.length := by
    have e := F.len _ _ _ _ h
    rw [← e]
    rfl
  refine wpAny_call (codeAny_mono (F.run X.A.in1 X.stack s H ⟨[.ref p, .ref q], []⟩ [.ref p, .ref q] [.ref p, .ref q] _ E0 hr.in1 I.env0.in1 (hb s [.ref p, .ref q] I.kIn hl) r2 h) fun r s' hq' => ?_)
  cases r with
  | error e => exact (pass0 (X := X)) pins σ _ _ e s' I hq'
  | ok fl =>
    cases fl with
    | ret u =>
      obtain ⟨v, H', I3, rv, b, ev, q3⟩ := I.after hq'
      subst ev
      cases rv
      exact ⟨b, rfl, .bl (!b), H', I3, rfl, q3⟩
    | next => exact False.elim hq'
    | brk => exact False.elim hq'
    | cont => exact False.elim hq'
end
end L2

set_option Elab.async false
set_option linter.all false
set_option maxRecDepth 100000
set_option maxHeartbeats 4000000
namespace L2
open PySem PySem.Spec PyProof.Rows
/-! ### lists of whole numbers as data -/
def dI (i : Int) : PyData := .int i
theorem dp_ints {K : PySem.W.Frag} {H : Hp} : ∀ ns : List Int, DpAll K H (ns.map V.int) (ns.map dI)
  | [] => .nil
  | n :: r => .cons (.int n) (dp_ints r)
theorem can_ints : ∀ ns : List Int, PyData.canLayAll0 (ns.map dI) = true
  | [] => by simp [PyData.canLayAll0]
  | n :: r => by
    have := can_ints r
    simp [PyData.canLayAll0, PyData.canLay0, dI, this]
theorem dep_ints : ∀ ns : List Int, PyData.depthAll (ns.map dI) ≤ 1
  | [] => by simp [PyData.depthAll]
  | n :: r => by
    have := dep_ints r
    simp only [List.map_cons, PyData.depthAll, dI, PyData.depth]
    omega
theorem shaped_ints (ns : List Int) : SeqAt.shaped (.list (ns.map dI)) = true := by
  have h1 := can_ints ns
  have h2 := dep_ints ns
  unfold SeqAt.shaped
  rw [Bool.and_eq_true]
  exact ⟨by simp only [PyData.canLay0]; exact h1, decide_eq_true (by simp only [PyData.depth]; omega)⟩
theorem eqv_ints (ns : List Int) : PyData.eqv (.list (ns.map dI)) (.list (ns.map dI)) = true := SeqAt.eqv_refl _ (SeqAt.canLay_of_shaped (shaped_ints ns))
/-- xs != ys of two lists that hold the same whole numbers -/
theorem ne_ints {K : PySem.W.Frag} {H : Hp} {a b : Addr} {ns : List Int} {Q : VK} (ha : SqL K H a (ns.map V.int)) (hb : SqL K H b (ns.map V.int)) (q : Q (.bl false) H) : rNeD K (.ref a) (.ref b) H Q := by
  refine ⟨_, _, .lst ha (dp_ints ns), .lst hb (dp_ints ns), shaped_ints ns, shaped_ints ns, ?_⟩
  rw [eqv_ints]
  exact q
theorem inV_ints {i : Int} : ∀ {ns : List Int}, inV (.int i) (ns.map V.int) = true ↔ i ∈ ns
  | [] => by simp [inV]
  | n :: r => by
    have := inV_ints (i := i) (ns := r)
    unfold inV at this ⊢
    rw [List.map_cons, List.any_cons, Bool.or_eq_true, this, List.mem_cons]
    constructor
    · rintro (h | h)
      · left
        have : (n == i) = true := h
        exact (beq_iff_eq.mp this).symm
      · exact .inr h
    · rintro (h | h)
      · left
        subst h
        show (i == i) = true
        simp
      · exact .inr h
theorem flat_ints : ∀ ns : List Int, (ns.map V.int).all flatV = true
  | [] => rfl
  | n :: r => by
    rw [List.map_cons, List.all_cons, flat_ints r]
    rfl
/-- a != b of two values that are the same data -/
theorem ne_data {K : PySem.W.Frag} {H : Hp} {v u : V} {d : PyData} {Q : VK} (hv : Dp K H v d) (hu : Dp K H u d) (hs : SeqAt.shaped d = true) (q : Q (.bl false) H) : rNeD K v u H Q := by
  refine ⟨d, d, hv, hu, hs, hs, ?_⟩
  rw [SeqAt.eqv_refl d (SeqAt.canLay_of_shaped hs)]
  exact q
end L2

set_option Elab.async false
set_option linter.all false
set_option maxRecDepth 100000
set_option maxHeartbeats 4000000
namespace L2
open PySem PySem.Spec PyProof.Rows
theorem turn_long {P : Program} {w : World} {K : PySem.W.Frag} {tg : Expr} (it : Addr) (lo : Int) (n : Nat) : Turn P w K tg (Itr lo n) [it] it (fun i h => IsLongIter h it (lo + (i : Nat) * 1) ((n : Int) - (i : Nat)) 1) where
  mem := by simp
  obj := fun i h st b hb => by
    have e : b = it := by simpa using hb
    subst e
    exact ⟨_, st, fun v z => by
      have z' : Data.fields _ = Data.cell v := z
      cases z'⟩
  keep := fun i h h' st k => k it (by simp) _ st
  item := by
    intro X hP hw hK hc i pins s σ H E I hf st hg
    subst hP hw hK
    obtain ⟨f0, f1, f2, f3, f4, f5⟩ := hf it (by simp)
    have W := Walks.longrange (prog := X.prog) (w := X.w) (I.ok.hd hc) it lo 1 n
    refine W.item i s _ _ hg st fun v h' tk hv st' kk => ?_
    obtain ⟨t, rfl⟩ := hv
    have I1 : Inv X pins σ H { s with heap := h', toks := tk } := I.turned (fun b o hb e => kk b o (by simpa using hb) e) f0 f1 f3 f4 f5
    refine ⟨_, rfl, go_of (s := { s with heap := h', toks := tk }) (n := "longrange_iterator") st' rfl rfl (by decide) ⟨.int (lo + i), H, I1, ⟨t, ?_⟩, ⟨rfl, rfl⟩, st', fun b hb => (hf b hb).1⟩⟩
    rw [Int.mul_one]
  done := by
    intro X hP hw hK hc i pins s σ H E I hf st hg
    subst hP hw hK
    obtain ⟨f0, f1, f2, f3, f4, f5⟩ := hf it (by simp)
    exact wpAny_pyNext_long_end (I.ok.hd hc) st (by have : n ≤ i := hg; omega) fun h' eb => ⟨rfl, I.turned (t' := s.toks) (fun b o hb e => eb b o hb e) f0 f1 f3 f4 f5⟩
  self := fun _ _ _ _ _ st h => wpAny_pyIter_longiter st h
section
variable {X : Cx} {tg : Expr}
/-- a range object just made, walked, of any bounds -/
theorem range_itB {pins : List (Addr × Obj)} {σ : St} {H : Hp} {s : Shared} {R : It → Hp → Prop} {E : Value → Shared → Prop} {lo hi : Int} {t u v : Tok} {tk : Nat} (I : Inv X pins σ H s)
    (q : R (Itr lo (hi - lo).toNat) H) : wpAny (model X.prog X.w) X.A (pyIter (.ref s.heap.objs.size)) (PIE X pins σ tg R) E { s with heap := s.heap.push { cls := .type "range", data := .fields #[.int lo t, .int hi u, .int 1 v] }, toks := tk } := by
  have I1 : Inv X pins σ H { s with heap := s.heap.push { cls := .type "range", data := .fields #[.int lo t, .int hi u, .int 1 v] }, toks := tk } := I.kept fun b o e => Heap.get?_push_of_some _ e
  have e1 : lo + ((0 : Nat) : Int) * 1 = lo := by simp
  have e2 : (((hi - lo).toNat : Nat) : Int) - ((0 : Nat) : Int) = Builtin.Range.rangeSize lo hi 1 := by rw [rangeSize_one]; split <;> omega
  have fp : ∀ b ∈ [(s.heap.push { cls := .type "range", data := .fields #[.int lo t, .int hi u, .int 1 v] }).objs.size], FpOk X pins H b := fun b hb => by
    have e : b = (s.heap.push { cls := .type "range", data := .fields #[.int lo t, .int hi u, .int 1 v] }).objs.size := by simpa using hb
    subst e
    exact I1.fpOk (Nat.le_refl _) (I1.hok.fresh (Nat.le_refl _))
  cases hb : Builtin.Range.small lo hi 1 with
  | true =>
    refine wpAny_pyIter_range (IsRange.new ..) hb ?_
    refine ⟨(s.heap.push { cls := .type "range", data := .fields #[.int lo t, .int hi u, .int 1 v] }).objs.size, [(s.heap.push { cls := .type "range", data := .fields #[.int lo t, .int hi u, .int 1 v] }).objs.size], _, _, H, rfl,
      I1.kept (t' := tk) fun b o e => Heap.get?_push_of_some _ e, turn_range _ lo (hi - lo).toNat, ?_, fp, q⟩
    show IsRangeIter _ _ (lo + ((0 : Nat) : Int) * 1) ((((hi - lo).toNat : Nat) : Int) - ((0 : Nat) : Int)) 1
    rw [e1, e2]
    exact Heap.get?_push_size _ rfl
  | false =>
    refine wpAny_pyIter_longrange (IsRange.new ..) hb ?_
    refine ⟨(s.heap.push { cls := .type "range", data := .fields #[.int lo t, .int hi u, .int 1 v] }).objs.size, [(s.heap.push { cls := .type "range", data := .fields #[.int lo t, .int hi u, .int 1 v] }).objs.size], _, _, H, rfl,
      I1.kept (t' := tk) fun b o e => Heap.get?_push_of_some _ e, turn_long _ lo (hi - lo).toNat, ?_, fp, q⟩
    show IsLongIter _ _ (lo + ((0 : Nat) : Int) * 1) ((((hi - lo).toNat : Nat) : Int) - ((0 : Nat) : Int)) 1
    rw [e1, e2]
    exact Heap.get?_push_size _ rfl
def iRng1B (ta : TA) : TI := fun σ H R => ta σ H fun vs H1 => ∃ j : Int, vs = [.int j] ∧ R (Itr 0 j.toNat) H1
def iRng2B (ta : TA) : TI := fun σ H R => ta σ H fun vs H1 => ∃ i j : Int, vs = [.int i, .int j] ∧ R (Itr i (j - i).toNat) H1
theorem pi_range1B {a : Expr} {ta : TA} {p pos : Pos} (hg : Gl X "range") (hm : X.mg "range" = none) (ha : PA X [a] ta) (hs : starEach [a] X.env = [(false, eval a X.env)] := by rfl) : PI X tg (.Call (.Name "range" p) [a] [] pos) (iRng1B ta) := by
  intro pins s σ H R I h
  refine Call_ (ld_blt I hg hm boot_range (PyProof.Rows.callWith_type1 (thn (ha pos pins s σ H _ I h) fun us s1 ⟨vs, H1, I1, r1, q1⟩ => ?_) hs rfl))
  obtain ⟨j, e, q⟩ := q1
  subst e
  cases r1 with
  | cons r rr =>
    cases rr
    obtain ⟨t, rfl⟩ := r
    exact call_range_1 (range_itB I1 (by simpa using q))
theorem pi_range2B {a b : Expr} {ta : TA} {p pos : Pos} (hg : Gl X "range") (hm : X.mg "range" = none) (ha : PA X [a, b] ta) (hs : starEach [a, b] X.env = [(false, eval a X.env), (false, eval b X.env)] := by rfl) (hs2 : starEach [b] X.env = [(false, eval b X.env)] := by rfl) :
    PI X tg (.Call (.Name "range" p) [a, b] [] pos) (iRng2B ta) := by
  intro pins s σ H R I h
  refine Call_ (ld_blt I hg hm boot_range (PyProof.Rows.callWith_type1 (thn (ha pos pins s σ H _ I h) fun us s1 ⟨vs, H1, I1, r1, q1⟩ => ?_) (by rw [hs, hs2]) (by rw [hs2]; rfl)))
  obtain ⟨i, j, e, q⟩ := q1
  subst e
  cases r1 with
  | cons r rr =>
    cases rr with
    | cons r' rr =>
      cases rr
      obtain ⟨t, rfl⟩ := r
      obtain ⟨t', rfl⟩ := r'
      exact call_range_2 (range_itB I1 q)
end
/-! ### a statement and what holds behind it -/
section
variable {X : Cx} {st : Stmt} {rest : List Stmt} {t u : TS}
def tCut (t u : TS) : TS := fun D σ H => ∃ M : St → Hp → Prop, t { D with nx := M } σ H ∧ ∀ σ' H', M σ' H' → u D σ' H'
theorem pss_cut (h1 : PS X st t) (h2 : PSs X rest u) : PSs X (st :: rest) (tCut t u) := by
  intro pins s σ H D I h
  obtain ⟨M, h, hM⟩ := h
  refine wpAny_execs_cons (thn (h1 pins s σ H { D with nx := M } I h) fun f s1 q => ?_)
  cases f with
  | next =>
    obtain ⟨σ', H', I', q⟩ := q
    exact h2 pins s1 σ' H' D I' (hM _ _ q)
  | ret v => exact q
  | brk => exact q
  | cont => exact q
end
theorem Same.src {H0 H H' : Hp} {a : Addr} (s : Same H0 H) (n : H0 a = none) (B : But a H H') : Same H0 H' := fun q o e => B _ _ (s _ _ e) (ne_of_none e n)
end L2

set_option Elab.async false
set_option linter.all false
set_option maxRecDepth 100000
set_option maxHeartbeats 4000000
namespace L2
open PySem PySem.Spec PyProof.Rows
section
variable {X : Cx}
/-- sorted of whole numbers, any length -/
def rSortedA (K : PySem.W.Frag) : List V → Hp → VK → Prop := fun vs H Q => ∃ (a : Addr) (ns : List Int), vs = [V.ref a] ∧ SqL K H a (ns.map V.int) ∧
  ∀ (ns' : List Int) (p : Addr), ns'.Perm ns → ns'.Pairwise (· ≤ ·) → H p = none → Q (.ref p) (upd H p (.lst (ns'.map V.int)))
theorem cr_sortedA : CallR X (.builtin "sorted") (rSortedA X.K) := by
  intro pins s σ H vs us Q I r h
  obtain ⟨a, ns, rfl, hs, q⟩ := h
  obtain ⟨its, rv, hl, hz⟩ := I.list hs
  rw [Vals.ref1 r]
  have hi := rv.ints
  have hn : ns.length ≤ sizeLine := by rw [List.length_map] at hz; exact hz
  refine PyProof.Rows.sorted_intsAny hl.isList hi (by rw [hi.length]; exact hn) fun out ns' h1 h2 h3 => ?_
  obtain ⟨ep, he'⟩ := PyProof.Rows.sortedAll_at s.heap its out
  have hlen : (ns'.map V.int).length ≤ sizeLine := by rw [List.length_map, h2.length_eq]; exact hn
  exact ⟨.ref _, upd H (s.heap.objs.size + 1) (.lst (ns'.map V.int)), I.laid (t' := s.toks) (fun _ _ => PyProof.Rows.sortedAll_old) (Nat.le_succ _) ⟨hlen, out.toList, ep, vals_of_ints h1, he'⟩, rfl, q ns' _ h2 h3 (I.hok.fresh (Nat.le_succ _))⟩
/-- set(xs) of whole numbers -/
def metOf (ns : List Int) : List Int := PyProof.Rows.firstMet (fun i => ns.getD i 0) ns.length
theorem call_setL (hc : X.calm = true) : CallR X (.type "set") (fun xs H Q => ∃ (a : Addr) (ns : List Int), xs = [V.ref a] ∧ SqL X.K H a (ns.map V.int) ∧ ns.length ≤ 1000 ∧
    ∀ p, H p = none → Q (.ref p) (upd H p (.set (fun k => (metOf ns).any (· == k)) (metOf ns).length))) := by
  intro pins s σ H vs us Q I r h
  obtain ⟨a, ns, rfl, hs, hn, q⟩ := h
  obtain ⟨its, rv, hl, hz⟩ := I.list hs
  rw [Vals.ref1 r]
  have hi := rv.ints
  have hsz : its.toArray.size = ns.length := by rw [List.size_toArray]; exact hi.length
  refine call_set_list (I.ok.hd hc) hl.isList (by simpa using hi) (by rw [hsz]; show ns.length + 1 < 4096; omega) fun h' tk hS kp => ?_
  rw [hsz] at hS
  exact ⟨.ref _, upd H s.heap.objs.size (.set (fun k => (metOf ns).any (· == k)) (metOf ns).length), I.laid (t' := tk) (fun b u e => kp b u (Heap.lt_size e) e) (Nat.le_refl _) hS, rfl, q _ (I.hok.fresh (Nat.le_refl _))⟩
/-- len of a set -/
theorem call_lenS : CallR X (.builtin "len") (fun xs H Q => ∃ a S n, xs = [V.ref a] ∧ H a = some (.set S n) ∧ n ≤ 1000 ∧ Q (.int n) H) := by
  intro pins s σ H vs us Q I r h
  obtain ⟨a, S, n, rfl, ha, hn, q⟩ := h
  rw [Vals.ref1 r]
  obtain ⟨o, ho, hex, es, ep, t, hd, _, _, hn2, hf⟩ := (show s.heap.SetOf (intKind X.prog X.w) a S n from I.hok a _ ha).objOf
  subst hn2
  exact call_len_set ho hex hd hf (by omega) ⟨.int _, H, I.tok _, ⟨_, rfl⟩, q⟩
end
end L2

set_option Elab.async false
set_option linter.all false
set_option maxRecDepth 100000
set_option maxHeartbeats 4000000
namespace L2
open PySem PySem.Spec PyProof.Rows
section
variable {X : Cx} {a b c d : Expr} {ta tb tc td : TE} {pos : Pos}
/-- three comparisons in a row, as a value -/
def tChain3 (r r' r'' : R2) (ta tb tc td : TE) : TE := fun σ H Q => ta σ H fun x H1 => tb σ H1 fun y H2 => r x y H2 fun z H3 => ∃ k, z = .bl k ∧
  (if k = true then tc σ H3 fun v H4 => r' y v H4 fun z' H5 => ∃ k', z' = .bl k' ∧ (if k' = true then td σ H5 fun u H6 => r'' v u H6 Q else Q (.bl false) H5) else Q (.bl false) H3)
theorem pe_chain3 {op op' op'' : CmpOp} {r r' r'' : R2} (h1 : OpR X (compareOp op) r) (h2 : OpR X (compareOp op') r') (h3 : OpR X (compareOp op'') r'') (ha : PE X a ta) (hb : PE X b tb) (hc : PE X c tc) (hd : PE X d td)
    (hm : lastMarks [op, op', op''] [b, c, d] = false := by with_unfolding_all rfl) : PE X (.Compare a [op, op', op''] [b, c, d] pos) (tChain3 r r' r'' ta tb tc td) := by
  intro pins s σ H Q I h
  refine Compare_chain (thn (ha pins s σ H _ I h) fun av s1 ⟨x, H1, I1, r1, q1⟩ => chain_link (thn (hb pins s1 σ H1 _ I1 q1) fun bv s2 ⟨y, H2, I2, r2, q2⟩ =>
    thn (h1 pins s2 σ H2 x y av bv _ I2 r1 r2 q2) fun e1 s3 ⟨z, H3, I3, r3, k, ek, q3⟩ => ?_)) hm
  subst ek
  cases r3
  refine wpAny_truthy_bool ?_
  cases k with
  | false => exact ite_ff ⟨.bl false, H3, I3, rfl, q3⟩
  | true =>
    refine ite_tt (chain_link (thn (hc pins s3 σ H3 _ I3 q3) fun cv s4 ⟨v, H4, I4, r4, q4⟩ => thn (h2 pins s4 σ H4 y v bv cv _ I4 r2 r4 q4) fun e2 s5 ⟨z', H5, I5, r5, k', ek', q5⟩ => ?_))
    subst ek'
    cases r5
    refine wpAny_truthy_bool ?_
    cases k' with
    | false => exact ite_ff ⟨.bl false, H5, I5, rfl, q5⟩
    | true => exact ite_tt (chain_last (thn (hd pins s5 σ H5 _ I5 q5) fun dv s6 ⟨u, H6, I6, r6, q6⟩ => h3 pins s6 σ H6 v u cv dv Q I6 r4 r6 q6))
end
end L2

set_option Elab.async false
set_option linter.all false
set_option maxRecDepth 100000
set_option maxHeartbeats 4000000
namespace L2
open PySem PySem.Spec PyProof.Rows
section
variable {P : Program} {w : World} {K : PySem.W.Frag} {mg : Str → Option Value} {base : Heap}
theorem CalF.mono {j k : Nat} {x : Str} {ps : List Str} {sp : Sp} (c : CalF P w K mg base j x ps sp) (h : j ≤ k) : CalF P w K mg base k x ps sp := by
  obtain ⟨f, fd, F, r⟩ := c.ex
  exact ⟨f, fd, F.mono h, r⟩
/-- a def of the module, ready to be called by keywords alone -/
structure CalFK (P : Program) (w : World) (K : PySem.W.Frag) (mg : Str → Option Value) (base : Heap) (k : Nat) (x : Str) (ps ks : List Str) (gV : List V → List V → List V) (sp : Sp) : Prop where
  ex : ∃ (f : Addr) (fd : FuncData) (g : List Value → List Value → List Value), FnOk P w K mg base CX0 k f fd ps sp ∧ mg x = some (.ref f) ∧ PySem.W.keepIn K (.ref f) = true ∧ KBinds K fd ps ks g gV
theorem CalFK.mono {j k : Nat} {x : Str} {ps ks : List Str} {gV : List V → List V → List V} {sp : Sp} (c : CalFK P w K mg base j x ps ks gV sp) (h : j ≤ k) : CalFK P w K mg base k x ps ks gV sp := by
  obtain ⟨f, fd, g, F, r⟩ := c.ex
  exact ⟨f, fd, g, F.mono h, r⟩
end
section
variable {X : Cx} {k : Nat} {ps ks : List Str} {sp : Sp} {x : Str} {p pos : Pos} {kws : List Keyword} {tk : TA} {gV : List V → List V → List V}
def tCallK0 (sp : Sp) (gV : List V → List V → List V) (tk : TA) : TE := fun σ H Q => tk σ H fun zs H1 => sp (gV [] zs) H1 Q E0
theorem pe_callKF (c : CalFK X.prog X.w X.K X.mg X.base k x ps ks gV sp) (hr : Room k X.A) (hg : Gl X x) (hkw : PK X kws tk)
    (hall : (backToKw pos (keywordEach kws X.env)).all (·.1.isSome) = true := by rfl) (hks : (backToKw pos (keywordEach kws X.env)).filterMap (·.1) = ks := by rfl)
    (hpl : ((backTo pos (starEach [] X.env)).any (·.1) || (backToKw pos (keywordEach kws X.env)).any (·.1.isNone)) = false := by rfl) (hdb : (x == ("__debug__" : Str)) = false := by decide) :
    PE X (.Call (.Name x p) [] kws pos) (tCallK0 sp gV tk) := by
  obtain ⟨f, fd, g, F, hm, hk, hb⟩ := c.ex
  intro pins s σ H Q I h
  refine wpAny_Call_Name_kw (ld_glob I hg hm ?_ hdb)
  refine PySem.W.callWith_KW0 (first := []) (h₀ := X.base) I.ok.mod.kin hk hall (thn (hkw pos pins s σ H _ I h) fun ws s1 ⟨zs, H1, I1, rz, h⟩ => ⟨I1.kIn, ?_⟩) hpl
  rw [hks]
  exact run_fnk (us := []) (vs := []) F hr hb pass0 I1 .nil rz h
end
/-- the keywords in the opposite order of the parameters -/
def kvR {α : Type} : List α → List α → List α
  | [], zs => zs.reverse
  | _ :: _, _ => []
theorem vals_app {xs : List V} {us : List Value} {ys : List V} {ws : List Value} (r : Vals xs us) (q : Vals ys ws) : Vals (xs ++ ys) (us ++ ws) := by
  induction r with
  | nil => exact q
  | cons h _ ih => exact .cons h ih
theorem vals_rev {xs : List V} {us : List Value} (r : Vals xs us) : Vals xs.reverse us.reverse := by
  induction r with
  | nil => exact .nil
  | cons h _ ih => rw [List.reverse_cons, List.reverse_cons]; exact vals_app ih (.cons h .nil)
theorem kvR_rel {vs : List V} {us : List Value} {zs : List V} {ws : List Value} (r : Vals vs us) (q : Vals zs ws) : Vals (kvR vs zs) (kvR us ws) := by
  cases r with
  | nil => exact vals_rev q
  | cons _ _ => exact .nil
section
variable {K : PySem.W.Frag} {x qual : Str} {st : Stmt} {f : Addr} {fd : FuncData} {ps : List Str}
theorem Fun.kr2 {k k' : Str} (F : Fun K x qual st f fd) (hp : ps.length = 2)
    (h : ∀ (kV doc pm : Value) (an : Option Addr) (cdv ct u v : Value), bindArgs (PySem.W.fnOf x qual (defArgs st) (defBody st) (defScope st) .none kV doc pm an cdv ct) ⟨[], [(k, u), (k', v)]⟩ = pure (ps.zip [v, u])) : KBinds K fd ps [k, k'] kvR kvR := by
  obtain ⟨oc, od, kV, doc, pm, an, cdv, ct, osl, rfl, lk, hcd⟩ := F.ex
  refine ⟨fun s us ws _ hl => ?_, fun r q => kvR_rel r q⟩
  rw [hp] at hl
  cases us with
  | cons _ _ => cases hl
  | nil =>
    have hl : ws.length = 2 := by rw [← hl]; exact (List.length_reverse).symm
    match ws, hl with
    | [u, v], _ => exact .of_eq (h kV doc pm an cdv ct u v)
theorem Fun.kr3 {k k' k'' : Str} (F : Fun K x qual st f fd) (hp : ps.length = 3)
    (h : ∀ (kV doc pm : Value) (an : Option Addr) (cdv ct u v w : Value), bindArgs (PySem.W.fnOf x qual (defArgs st) (defBody st) (defScope st) .none kV doc pm an cdv ct) ⟨[], [(k, u), (k', v), (k'', w)]⟩ = pure (ps.zip [w, v, u])) : KBinds K fd ps [k, k', k''] kvR kvR := by
  obtain ⟨oc, od, kV, doc, pm, an, cdv, ct, osl, rfl, lk, hcd⟩ := F.ex
  refine ⟨fun s us ws _ hl => ?_, fun r q => kvR_rel r q⟩
  rw [hp] at hl
  cases us with
  | cons _ _ => cases hl
  | nil =>
    have hl : ws.length = 3 := by rw [← hl]; exact (List.length_reverse).symm
    match ws, hl with
    | [u, v, w], _ => exact .of_eq (h kV doc pm an cdv ct u v w)
end
end L2

set_option Elab.async false
set_option linter.all false
set_option maxRecDepth 100000
set_option maxHeartbeats 4000000
namespace L2
open PySem PySem.Spec PyProof.Rows
/-- a comprehension over enumerate of a list -/
theorem lc_enum {K : PySem.W.Frag} {a : Addr} {xs : List V} {g : TG} {tt : TT} {te : TE} {vs : List Nat} {σ : St} {H1 : Hp} {D : Addr} {Qd : Hp → Prop} (Pv : Nat → Hp → Prop) (h0 : Pv 0 (upd H1 D (.lst []))) (hl : ∀ i H, i ≤ xs.length → Pv i H → SqL K H a xs)
    (hs : ∀ i x H T, xs[i]? = some x → Pv i H → H T = none → g (.ref T) (wipe σ vs) (upd H T (.tup [.int (i : Nat), x])) fun σ2 H2 => wipe σ2 vs = wipe σ vs ∧ tt σ2 H2 fun b H3 =>
      if b = true then te σ2 H3 fun y H4 => ∃ acc, H4 D = some (.lst acc) ∧ acc.length < sizeLine ∧ Pv (i + 1) (upd H4 D (.lst (acc ++ [y]))) else Pv (i + 1) H3) (hd : ∀ H, Pv xs.length H → Qd H) :
    ∃ W : Nat → Nat → Hp → Prop, (∃ m, W 0 m (upd H1 D (.lst []))) ∧ ∀ i m H, W i m H →
      ((Ite K a).stop i H ∧ Qd H) ∨ ((Ite K a).go i H ∧ ∃ Nx : Hp → Prop, (∀ H', Nx H' → ∃ m', m' < m ∧ W (i + 1) m' H') ∧ ∀ x H', (Ite K a).yld i H x H' → g x (wipe σ vs) H' fun σ2 H2 => wipe σ2 vs = wipe σ vs ∧ tt σ2 H2 fun b H3 =>
        if b = true then te σ2 H3 fun y H4 => ∃ acc, H4 D = some (.lst acc) ∧ acc.length < sizeLine ∧ Nx (upd H4 D (.lst (acc ++ [y]))) else Nx H3) := by
  refine ⟨fun i m H => m = xs.length - i ∧ i ≤ xs.length ∧ Pv i H, ⟨_, rfl, Nat.zero_le _, h0⟩, ?_⟩
  rintro i m H ⟨rfl, hi, p⟩
  have q := hl i H hi p
  by_cases c : i < xs.length
  · refine .inr ⟨⟨xs, xs[i], q, by simp [c]⟩, Pv (i + 1), fun H' z => ⟨xs.length - (i + 1), by omega, rfl, c, z⟩, fun x H' y => ?_⟩
    obtain ⟨T, x', rfl, hT, rfl, hx⟩ := y
    exact hs i x' H T (hx xs q) p hT
  · obtain rfl : i = xs.length := by omega
    exact .inl ⟨⟨xs, q, Nat.le_refl _⟩, hd H p⟩
/-- a loop over enumerate of a list -/
theorem for_enum {K : PySem.W.Frag} {a : Addr} {xs : List V} {g : TG} {tb : TS} {D : Ends} {σ : St} {H : Hp} (Pv : Nat → St → Hp → Prop) (h0 : Pv 0 σ H) (hl : ∀ i σ H, i ≤ xs.length → Pv i σ H → SqL K H a xs)
    (hs : ∀ i x σ H T, xs[i]? = some x → Pv i σ H → H T = none → g (.ref T) σ (upd H T (.tup [.int (i : Nat), x])) fun σ2 H2 => tb { D with nx := Pv (i + 1), ct := Pv (i + 1), bk := D.nx } σ2 H2) (hd : ∀ σ H, Pv xs.length σ H → D.nx σ H) :
    ∃ W : Nat → Nat → St → Hp → Prop, (∃ m, W 0 m σ H) ∧ ∀ i m σ H, W i m σ H →
      ((Ite K a).stop i H ∧ D.nx σ H) ∨ ((Ite K a).go i H ∧ ∃ N : St → Hp → Prop, (∀ σ' H', N σ' H' → ∃ m', m' < m ∧ W (i + 1) m' σ' H') ∧ ∀ x H', (Ite K a).yld i H x H' → g x σ H' fun σ2 H2 => tb { D with nx := N, ct := N, bk := D.nx } σ2 H2) := by
  refine ⟨fun i m σ H => m = xs.length - i ∧ i ≤ xs.length ∧ Pv i σ H, ⟨_, rfl, Nat.zero_le _, h0⟩, ?_⟩
  rintro i m σ H ⟨rfl, hi, p⟩
  have q := hl i σ H hi p
  by_cases c : i < xs.length
  · refine .inr ⟨⟨xs, xs[i], q, by simp [c]⟩, Pv (i + 1), fun σ' H' z => ⟨xs.length - (i + 1), by omega, rfl, c, z⟩, fun x H' y => ?_⟩
    obtain ⟨T, x', rfl, hT, rfl, hx⟩ := y
    exact hs i x' σ H T (hx xs q) p hT
  · obtain rfl : i = xs.length := by omega
    exact .inl ⟨⟨xs, q, Nat.le_refl _⟩, hd σ H p⟩
/-- a comprehension over zip of two lists -/
theorem lc_zip {K : PySem.W.Frag} {a a' : Addr} {xs ys : List V} {g : TG} {tt : TT} {te : TE} {vs : List Nat} {σ : St} {H1 : Hp} {D : Addr} {Qd : Hp → Prop} (Pv : Nat → Hp → Prop) (h0 : Pv 0 (upd H1 D (.lst []))) (hl : ∀ i H, i ≤ min xs.length ys.length → Pv i H → SqL K H a xs ∧ SqL K H a' ys)
    (hs : ∀ i x y H T, xs[i]? = some x → ys[i]? = some y → Pv i H → H T = none → g (.ref T) (wipe σ vs) (upd H T (.tup [x, y])) fun σ2 H2 => wipe σ2 vs = wipe σ vs ∧ tt σ2 H2 fun b H3 =>
      if b = true then te σ2 H3 fun y H4 => ∃ acc, H4 D = some (.lst acc) ∧ acc.length < sizeLine ∧ Pv (i + 1) (upd H4 D (.lst (acc ++ [y]))) else Pv (i + 1) H3) (hd : ∀ H, Pv (min xs.length ys.length) H → Qd H) :
    ∃ W : Nat → Nat → Hp → Prop, (∃ m, W 0 m (upd H1 D (.lst []))) ∧ ∀ i m H, W i m H →
      ((Itz K a a').stop i H ∧ Qd H) ∨ ((Itz K a a').go i H ∧ ∃ Nx : Hp → Prop, (∀ H', Nx H' → ∃ m', m' < m ∧ W (i + 1) m' H') ∧ ∀ x H', (Itz K a a').yld i H x H' → g x (wipe σ vs) H' fun σ2 H2 => wipe σ2 vs = wipe σ vs ∧ tt σ2 H2 fun b H3 =>
        if b = true then te σ2 H3 fun y H4 => ∃ acc, H4 D = some (.lst acc) ∧ acc.length < sizeLine ∧ Nx (upd H4 D (.lst (acc ++ [y]))) else Nx H3) := by
  refine ⟨fun i m H => m = min xs.length ys.length - i ∧ i ≤ min xs.length ys.length ∧ Pv i H, ⟨_, rfl, Nat.zero_le _, h0⟩, ?_⟩
  rintro i m H ⟨rfl, hi, p⟩
  obtain ⟨q, q'⟩ := hl i H hi p
  by_cases c : i < min xs.length ys.length
  · have c1 : i < xs.length := by omega
    have c2 : i < ys.length := by omega
    refine .inr ⟨⟨xs, ys, xs[i], ys[i], q, q', by simp [c1], by simp [c2]⟩, Pv (i + 1), fun H' z => ⟨min xs.length ys.length - (i + 1), by omega, rfl, c, z⟩, fun x H' y => ?_⟩
    obtain ⟨T, x', y', rfl, hT, rfl, hx, hy⟩ := y
    exact hs i x' y' H T (hx xs q) (hy ys q') p hT
  · have : i = min xs.length ys.length := by omega
    rw [this] at p
    exact .inl ⟨⟨xs, ys, q, q', by omega⟩, hd H p⟩
end L2

set_option Elab.async false
set_option linter.all false
set_option maxRecDepth 100000
set_option maxHeartbeats 4000000
namespace My
open PySem L2 Mth
def top (i : Nat) : Stmt := PySem.Challenge.pw_snapdigits_k56_settled_times.main.body.getD i (.Pass ⟨0, 0, 0, 0⟩)
abbrev s_is_integer : Stmt := top 14
theorem sc_is_integer : FnScope ["value"] ["value"] (defScope s_is_integer) := ⟨rfl, rfl, rfl, by decide +kernel, rfl, by decide +kernel, by decide +kernel⟩
abbrev s_is_integer_from : Stmt := top 15
theorem sc_is_integer_from : FnScope ["value", "least"] ["value", "least"] (defScope s_is_integer_from) := ⟨rfl, rfl, rfl, by decide +kernel, rfl, by decide +kernel, by decide +kernel⟩
abbrev s_is_integer_between : Stmt := top 16
theorem sc_is_integer_between : FnScope ["value", "least", "greatest"] ["value", "least", "greatest"] (defScope s_is_integer_between) := ⟨rfl, rfl, rfl, by decide +kernel, rfl, by decide +kernel, by decide +kernel⟩
abbrev s_check_number : Stmt := top 17
theorem sc_check_number : FnScope ["number"] ["number"] (defScope s_check_number) := ⟨rfl, rfl, rfl, by decide +kernel, rfl, by decide +kernel, by decide +kernel⟩
-- no lowest_place
abbrev s_check_time : Stmt := top 18
theorem sc_check_time : FnScope ["time"] ["time"] (defScope s_check_time) := ⟨rfl, rfl, rfl, by decide +kernel, rfl, by decide +kernel, by decide +kernel⟩
abbrev s_Scheme___init__ : Stmt := inClass (top 31) 0
theorem sc_Scheme___init__ : FnScope ["self", "base", "factor"] ["self", "base", "factor"] (defScope s_Scheme___init__) := ⟨rfl, rfl, rfl, by decide +kernel, rfl, by decide +kernel, by decide +kernel⟩
abbrev s_Scheme___eq__ : Stmt := inClass (top 31) 1
theorem sc_Scheme___eq__ : FnScope ["self", "other"] ["self", "other"] (defScope s_Scheme___eq__) := ⟨rfl, rfl, rfl, by decide +kernel, rfl, by decide +kernel, by decide +kernel⟩
abbrev s_Scheme_base : Stmt := inClass (top 31) 2
theorem sc_Scheme_base : FnScope ["self"] ["self"] (defScope s_Scheme_base) := ⟨rfl, rfl, rfl, by decide +kernel, rfl, by decide +kernel, by decide +kernel⟩
abbrev s_Scheme_factor : Stmt := inClass (top 31) 3
theorem sc_Scheme_factor : FnScope ["self"] ["self"] (defScope s_Scheme_factor) := ⟨rfl, rfl, rfl, by decide +kernel, rfl, by decide +kernel, by decide +kernel⟩
abbrev s_Scheme_level : Stmt := inClass (top 31) 4
theorem sc_Scheme_level : FnScope ["self", "number", "zeros"] ["self", "number"] (defScope s_Scheme_level) := ⟨rfl, rfl, rfl, by decide +kernel, rfl, by decide +kernel, by decide +kernel⟩
-- no Scheme.parent
-- no Scheme.chain
-- no Scheme.block
-- no Scheme.has_in_chain
-- no Scheme.last_time
-- no Scheme.is_kept
-- no _law_source_of
-- no _law_next
abbrev s_law_one : Stmt := top 36
theorem sc_law_one : FnScope ["_law_well_here", "_law_some"] ["_law_well_here", "_law_some"] (defScope s_law_one) := ⟨rfl, rfl, rfl, by decide +kernel, rfl, by decide +kernel, by decide +kernel⟩
-- no _law_cell_at
-- no _law_scheme
-- no _law_number
-- no _law_unit
-- no _law_parent
abbrev s_law_draw : Stmt := top 35
theorem sc_law_draw : FnScope ["_law_well_here", "_law_many", "_law_found"] ["_law_well_here", "_law_many"] (defScope s_law_draw) := ⟨rfl, rfl, rfl, by decide +kernel, rfl, by decide +kernel, by decide +kernel⟩
-- no _law_choice
-- no _law_rules
abbrev s_law_lives : Stmt := top 40
theorem sc_law_lives : FnScope ["_law_plan", "_law_figure", "_law_clock"] ["_law_plan", "_law_figure", "_law_clock"] (defScope s_law_lives) := ⟨rfl, rfl, rfl, by decide +kernel, rfl, by decide +kernel, by decide +kernel⟩
-- no _law_kept
abbrev s_law_mixed : Stmt := top 33
theorem sc_law_mixed : FnScope ["_law_cell", "_law_k", "_law_figure"] ["_law_cell", "_law_k"] (defScope s_law_mixed) := ⟨rfl, rfl, rfl, by decide +kernel, rfl, by decide +kernel, by decide +kernel⟩
abbrev s_law_well : Stmt := top 34
theorem sc_law_well : FnScope ["_law_cell"] ["_law_cell"] (defScope s_law_well) := ⟨rfl, rfl, rfl, by decide +kernel, rfl, by decide +kernel, by decide +kernel⟩
abbrev s_law_pile : Stmt := top 37
theorem sc_law_pile : FnScope ["_law_base", "_law_count", "_law_total", "_law_k"] ["_law_base", "_law_count"] (defScope s_law_pile) := ⟨rfl, rfl, rfl, by decide +kernel, rfl, by decide +kernel, by decide +kernel⟩
abbrev s_law_big : Stmt := top 38
theorem sc_law_big : FnScope ["_law_well_here", "_law_found", "_law_k"] ["_law_well_here"] (defScope s_law_big) := ⟨rfl, rfl, rfl, by decide +kernel, rfl, by decide +kernel, by decide +kernel⟩
-- no _law_wide
-- no _law_powers
-- no _law_near
abbrev s_law_pow : Stmt := top 39
theorem sc_law_pow : FnScope ["_law_base", "_law_figure", "_law_power"] ["_law_base", "_law_figure"] (defScope s_law_pow) := ⟨rfl, rfl, rfl, by decide +kernel, rfl, by decide +kernel, by decide +kernel⟩
-- no _law_under
-- no _law_one_right
abbrev s_law : Stmt := top 46
theorem sc_law : FnScope ["_law_script", "_law_cell"] ["_law_script"] (defScope s_law) := ⟨rfl, rfl, rfl, by decide +kernel, rfl, by decide +kernel, by decide +kernel⟩
/-! what a scheme looks like -/
theorem bf : ¬ (("base_value" : Str) = "factor_value") := by decide +kernel
def flds (b f : Nat) : List (Str × V) := putF "factor_value" (.int f) (putF "base_value" (.int b) [])
theorem flds_b (b f : Nat) : (flds b f).lookup ("base_value" : Str) = some (.int b) := by
  unfold flds
  rw [lookup_putF, if_neg bf, lookup_putF, if_pos rfl]
theorem flds_f (b f : Nat) : (flds b f).lookup ("factor_value" : Str) = some (.int f) := by
  unfold flds
  rw [lookup_putF, if_pos rfl]
theorem flds_no (b f : Nat) {m : Str} (h1 : ¬ m = "factor_value") (h2 : ¬ m = "base_value") : (flds b f).lookup m = none := by
  unfold flds
  rw [lookup_putF, if_neg h1, lookup_putF, if_neg h2]
  rfl
structure Sch (C : Addr) (H : Hp) (p : Addr) (b f : Nat) : Prop where
  ob : ∃ dx, H p = some (.ins C dx (flds b f))
  b2 : 2 ≤ b
  bt : b ≤ 1000
  f1 : 1 ≤ f
  ft : f ≤ 1000000
theorem Sch.same {C : Addr} {H H' : Hp} {p : Addr} {b f : Nat} (h : Sch C H p b f) (s : Same H H') : Sch C H' p b f :=
  ⟨let ⟨dx, e⟩ := h.ob; ⟨dx, s _ _ e⟩, h.b2, h.bt, h.f1, h.ft⟩
/-- a source of draws: three ints, at most e draws so far -/
structure Src (H : Hp) (a : Addr) (e : Nat) : Prop where
  ob : ∃ x d z : Int, H a = some (.lst [.int x, .int d, .int z]) ∧ 0 ≤ x ∧ 0 ≤ d ∧ d < 2147483647 ∧ 0 ≤ z ∧ z ≤ e
theorem Src.same {H H' : Hp} {a : Addr} {e : Nat} (h : Src H a e) (s : Same H H') : Src H' a e := by
  obtain ⟨x, d, z, h1, h2⟩ := h.ob
  exact ⟨x, d, z, s _ _ h1, h2⟩
theorem Src.mono {H : Hp} {a : Addr} {e e' : Nat} (h : Src H a e) (s : e ≤ e') : Src H a e' := by
  obtain ⟨x, d, z, h1, h2, h3, h4, h5, h6⟩ := h.ob
  exact ⟨x, d, z, h1, h2, h3, h4, h5, by omega⟩
def nV (n : Nat) : V := .int n
def onV (n : Nat) (v : V) : V := if n = 0 then .non else v
/-! the promises -/
def sp_is_integer : Sp := fun vs H Q _ => ∃ i : Int, vs = [.int i] ∧ Q (.bl true) H
def sp_from : Sp := fun vs H Q _ => ∃ i j : Int, vs = [.int i, .int j] ∧ Q (.bl (decide (j ≤ i))) H
def sp_between : Sp := fun vs H Q _ => ∃ i j k : Int, vs = [.int i, .int j, .int k] ∧ j ≤ i ∧ i ≤ k ∧ Q (.bl true) H
def sp_check : Sp := fun vs H Q _ => ∃ i : Int, vs = [.int i] ∧ 0 ≤ i ∧ Q .non H
def sp_lowest : Sp := fun vs H Q _ => ∃ b n : Nat, vs = [.int b, .int n] ∧ 2 ≤ b ∧ b ≤ 1000 ∧ 0 < n ∧ Q (.int (lp b n)) H
def sp_init (C : Addr) : Sp := fun vs H Q _ => ∃ (p dx : Addr) (b f : Nat), vs = [.ref p, .int b, .int f] ∧ H p = some (.ins C dx []) ∧ 2 ≤ b ∧ b ≤ 1000 ∧ 1 ≤ f ∧ f ≤ 1000000 ∧ Q .non (upd H p (.ins C dx (flds b f)))
def sp_eq (C : Addr) : Sp := fun vs H Q _ => ∃ (p q : Addr) (b f b' f' : Nat), vs = [.ref p, .ref q] ∧ Sch C H p b f ∧ Sch C H q b' f' ∧ Q (.bl (decide (b = b' ∧ f = f'))) H
def sp_base (C : Addr) : Sp := fun vs H Q _ => ∃ (p : Addr) (b f : Nat), vs = [.ref p] ∧ Sch C H p b f ∧ Q (.int b) H
def sp_factor (C : Addr) : Sp := fun vs H Q _ => ∃ (p : Addr) (b f : Nat), vs = [.ref p] ∧ Sch C H p b f ∧ Q (.int f) H
def sp_level (C : Addr) : Sp := fun vs H Q _ => ∃ (p : Addr) (b f n : Nat), vs = [.ref p, .int n] ∧ Sch C H p b f ∧ Q (onV n (.int (lev b n))) H
def sp_parent (C : Addr) : Sp := fun vs H Q _ => ∃ (p : Addr) (b f n : Nat), vs = [.ref p, .int n] ∧ Sch C H p b f ∧ Q (onV n (.int (par b n))) H
def sp_chain (C : Addr) : Sp := fun vs H Q _ => ∃ (p : Addr) (b f n : Nat), vs = [.ref p, .int n] ∧ Sch C H p b f ∧ n < 2 ^ 200 ∧ ∀ l, H l = none → Q (.ref l) (upd H l (.lst ((chn b n).map nV)))
def sp_block (C : Addr) : Sp := fun vs H Q _ => ∃ (p : Addr) (b f n : Nat), vs = [.ref p, .int n] ∧ Sch C H p b f ∧ ∀ l, H l = none → Q (.ref l) (upd H l (.tup [.int n, onV n (.int ((n + lp b n : Nat) : Int))]))
def sp_has (C : Addr) : Sp := fun vs H Q _ => ∃ (p : Addr) (b f n m : Nat), vs = [.ref p, .int n, .int m] ∧ Sch C H p b f ∧ ∀ H', Same H H' → Q (.bl (hic b n m)) H'
def sp_last (C : Addr) : Sp := fun vs H Q _ => ∃ (p : Addr) (b f n : Nat), vs = [.ref p, .int n] ∧ Sch C H p b f ∧ Q (onV n (.int ((n + f * lp b n : Nat) : Int))) H
def kpt (b f n t : Nat) : Bool := decide (n ≤ t ∧ (n = 0 ∨ t ≤ n + f * lp b n))
def sp_kept (C : Addr) : Sp := fun vs H Q _ => ∃ (p : Addr) (b f n t : Nat), vs = [.ref p, .int n, .int t] ∧ Sch C H p b f ∧ Q (.bl (kpt b f n t)) H
def sp_source : Sp := fun vs H Q _ => ∃ c : Int, vs = [.int c] ∧ ∀ a H', H a = none → Src H' a 0 → Same H H' → Q (.ref a) H'
def sp_next : Sp := fun vs H Q _ => ∃ (a : Addr) (m : Int) (e : Nat), vs = [.ref a, .int m] ∧ Src H a e ∧ e ≤ 1000000 ∧ 0 < m ∧ m < 2 ^ 200 ∧ ∀ r H', 0 ≤ r → r < m → Src H' a (e + 1) → But a H H' → Q (.int r) H'
def sp_one : Sp := fun vs H Q _ => ∃ (a l : Addr) (xs : List V) (e : Nat), vs = [.ref a, .ref l] ∧ Src H a e ∧ e ≤ 1000000 ∧ l ≠ a ∧ H l = some (.lst xs) ∧ 0 < xs.length ∧ xs.length ≤ 1000 ∧ ∀ v H', v ∈ xs → Src H' a (e + 1) → But a H H' → Q v H'
def sp_drawB : Sp := fun vs H Q _ => ∃ (a : Addr) (m : Int) (e : Nat), vs = [.ref a, .int m] ∧ Src H a e ∧ e ≤ 1000000 ∧ 0 < m ∧ m < 2 ^ 200 ∧ ∀ r H', 0 ≤ r → r < m → Src H' a (e + 8) → But a H H' → Q (.int r) H'
def sp_choiceB : Sp := fun vs H Q _ => ∃ (a l : Addr) (xs : List V) (e : Nat), vs = [.ref a, .ref l] ∧ Src H a e ∧ e ≤ 1000000 ∧ l ≠ a ∧ H l = some (.lst xs) ∧ 0 < xs.length ∧ xs.length ≤ 1000 ∧ ∀ v H', v ∈ xs → Src H' a (e + 8) → But a H H' → Q v H'
def sp_rulesB : Sp := fun vs H Q _ => ∃ (a : Addr) (e : Nat), vs = [.ref a] ∧ Src H a e ∧ e ≤ 100000 ∧ ∀ (b f : Nat) (t : Addr) (H' : Hp), 2 ≤ b → b ≤ 1000 → 1 ≤ f → f ≤ 1000000 → H' t = some (.tup [.int b, .int f]) → Src H' a (e + 48) → But a H H' → Q (.ref t) H'
def sp_livesB : Sp := fun vs H Q _ => ∃ b f n t : Nat, vs = [.int b, .int f, .int n, .int t] ∧ 2 ≤ b ∧ b ≤ 1000 ∧ 1 ≤ f ∧ f ≤ 1000000 ∧ Q (.bl (kpt b f n t)) H
def sp_cell (K : PySem.W.Frag) : Sp := fun vs H Q _ => ∃ (a : Addr) (ns : List Int) (k : Nat), vs = [.ref a, .int k] ∧ SqL K H a (ns.map V.int) ∧ ∀ z, Q (.int z) H
def sp_lscheme : Sp := fun vs H Q _ => ∃ (a : Addr) (e : Nat), vs = [.ref a] ∧ Src H a e ∧ e ≤ 1000 ∧ ∀ (b f : Nat) (t : Addr) (H' : Hp), 2 ≤ b → b ≤ 1000 → 1 ≤ f → f ≤ 1000000 → H' t = some (.tup [.int b, .int f]) → Src H' a (e + 3) → But a H H' → Q (.ref t) H'
def sp_lnumber : Sp := fun vs H Q _ => ∃ (a : Addr) (b e : Nat), vs = [.ref a, .int b] ∧ Src H a e ∧ e ≤ 1000 ∧ 2 ≤ b ∧ b ≤ 1000 ∧ ∀ (n : Nat) (H' : Hp), n < 10 ^ 22 → Src H' a (e + 3) → But a H H' → Q (.int n) H'
def sp_lunit : Sp := fun vs H Q _ => ∃ b n : Nat, vs = [.int b, .int n] ∧ 2 ≤ b ∧ b ≤ 1000 ∧ 0 < n ∧ n < 2 ^ 200 ∧ Q (.int (lp b n)) H
def sp_lparent : Sp := fun vs H Q _ => ∃ b n : Nat, vs = [.int b, .int n] ∧ 2 ≤ b ∧ b ≤ 1000 ∧ 0 < n ∧ n < 2 ^ 200 ∧ Q (.int (par b n)) H
def sp_right (C : Addr) : Sp := fun vs H Q _ => ∃ (p : Addr) (b f n : Nat), vs = [.ref p, .int b, .int f, .int n] ∧ Sch C H p b f ∧ 0 < n ∧ n < 2 ^ 100 ∧ ∀ H', Same H H' → Q (.bl true) H'
def sp_law (K : PySem.W.Frag) : Sp := fun vs H Q _ => ∃ (a : Addr) (ns : List Int), vs = [.ref a] ∧ SqL K H a (ns.map V.int) ∧ ns.length ≤ 63 ∧ ∀ H', Q (.bl true) H'
/-- what the walk asks of the text as the top has made it -/
structure Txt (K : PySem.W.Frag) (mg : Str → Option Value) (C : Addr) : Prop where
  cl : Cls K C
  nB : NoAttr K C "base_value"
  nF : NoAttr K C "factor_value"
  m_Scheme : mg "Scheme" = some (.ref C)
  b_isinstance : mg "isinstance" = none
  b_int : mg "int" = none
  b_bool : mg "bool" = none
  b_len : mg "len" = none
  b_max : mg "max" = none
  b_all : mg "all" = none
  b_range : mg "range" = none
  b_set : mg "set" = none
  b_sorted : mg "sorted" = none
  b_min : mg "min" = none
  b_enumerate : mg "enumerate" = none
  b_zip : mg "zip" = none
  b_sum : mg "sum" = none
  b_list : mg "list" = none
  b_tuple : mg "tuple" = none
  b_any : mg "any" = none
  b_abs : mg "abs" = none
  b_repr : mg "repr" = none
  b_reversed : mg "reversed" = none
  g_LEAST_BASE : ∃ t, mg "LEAST_BASE" = some (.int 2 t)
  g_GREATEST_BASE : ∃ t, mg "GREATEST_BASE" = some (.int 1000 t)
  g_LEAST_FACTOR : ∃ t, mg "LEAST_FACTOR" = some (.int 1 t)
  g_GREATEST_FACTOR : ∃ t, mg "GREATEST_FACTOR" = some (.int 1000000 t)
  eqf : ∃ f, PySem.W.findIn K (.ref C) "__eq__" = some (some (.ref f)) ∧ PySem.W.isFn K (.ref f) = true
  nef : PySem.W.findIn K (.ref C) "__ne__" = some (some (.builtin "object.__ne__"))
  k1 : PySem.W.findIn K (.ref C) "__class__" = some (some (.builtin "object.__class__"))
  k2 : PySem.W.specialIn K (.builtin "object.__class__") "__get__" = some (some (.builtin "getset_descriptor.__get__"))
  k3 : PySem.W.takesIn K (.builtin "object.__class__") = some true
  k4 : PySem.W.mroIn K C (.type "object") = some true
end My

set_option Elab.async false
set_option linter.all false
set_option maxRecDepth 100000
set_option maxHeartbeats 4000000
namespace My
open PySem L2 Mth
section
variable {P : Program} {w : World} {K : PySem.W.Frag} {mg : Str → Option Value} {base : Heap}
theorem kit_ii : PySem.W.kitOne K (.type "int") (.type "int") = some true := by unfold PySem.W.kitOne; rfl
theorem kit_ib : PySem.W.kitOne K (.type "int") (.type "bool") = some false := by unfold PySem.W.kitOne PySem.W.kitCls; rfl
theorem ok_is_integer {f C : Addr} {fd : FuncData} (F : Fun K "is_integer" "is_integer" s_is_integer f fd) (T : Txt K mg C) : FnOk P w K mg base CX0 1 f fd ["value"] sp_is_integer := by
  refine F.ok sc_is_integer (fun vs H Q E h => ?_) (fun cdv A outer s H vs Q E hr h => ?_)
  · obtain ⟨i, rfl, _⟩ := h
    rfl
  · obtain ⟨i, rfl, k⟩ := h
    refine ⟨_, (pss_one (ps_ret (pe_and (pe_callB call_isinst (by rfl) T.b_isinstance (by decide +kernel) (pa_cons (pv 0) (pa_cons (pe_bltn (v := .ty "int") (u := .type "int") (by rfl) T.b_int (by decide +kernel) rfl) pa_nil))) (pe_one (pe_not (pe_callB call_isinst (by rfl) T.b_isinstance (by decide +kernel) (pa_cons (pv 0) (pa_cons (pe_bltn (v := .ty "bool") (u := .type "bool") (by rfl) T.b_bool (by decide +kernel) rfl) pa_nil)))))))), ?_⟩
    refine ⟨_, rfl, _, _, _, _, _, rfl, rfl, .int i, kit_ii, _, rfl, ?_⟩
    refine iteT ?_
    exact ⟨_, rfl, _, _, _, _, _, rfl, rfl, .int i, kit_ib, _, rfl, k⟩
theorem ok_from {f C : Addr} {fd : FuncData} (F : Fun K "is_integer_from" "is_integer_from" s_is_integer_from f fd) (T : Txt K mg C) (c_is_integer : CalF P w K mg base 1 "is_integer" ["value"] sp_is_integer) : FnOk P w K mg base CX0 2 f fd ["value", "least"] sp_from := by
  refine F.ok sc_is_integer_from (fun vs H Q E h => ?_) (fun cdv A outer s H vs Q E hr h => ?_)
  · obtain ⟨i, j, rfl, _⟩ := h
    rfl
  · obtain ⟨i, j, rfl, k⟩ := h
    refine ⟨_, (pss_one (ps_ret (pe_and (pe_callF c_is_integer (hr.mono (by decide)) rfl (pa_cons (pv 0) pa_nil)) (pe_one (pe_cmpR op_ge (pv 0) (pv 1) (nomark _)))))), ?_⟩
    refine ⟨_, rfl, i, rfl, _, rfl, ?_⟩
    refine iteT ?_
    exact ⟨_, rfl, _, rfl, _, _, rfl, rfl, k⟩
theorem ok_between {f C : Addr} {fd : FuncData} (F : Fun K "is_integer_between" "is_integer_between" s_is_integer_between f fd) (T : Txt K mg C) (c_is_integer : CalF P w K mg base 1 "is_integer" ["value"] sp_is_integer) : FnOk P w K mg base CX0 2 f fd ["value", "least", "greatest"] sp_between := by
  refine F.ok sc_is_integer_between (fun vs H Q E h => ?_) (fun cdv A outer s H vs Q E hr h => ?_)
  · obtain ⟨i, j, k, rfl, _⟩ := h
    rfl
  · obtain ⟨i, j, k, rfl, h1, h2, q⟩ := h
    refine ⟨_, (pss_one (ps_ret (pe_and (pe_callF c_is_integer (hr.mono (by decide)) rfl (pa_cons (pv 0) pa_nil)) (pe_one (pe_chain op_le op_le (pv 1) (pv 0) (pv 2)))))), ?_⟩
    refine ⟨_, rfl, i, rfl, _, rfl, ?_⟩
    refine iteT ?_
    refine ⟨_, rfl, _, rfl, _, _, rfl, rfl, _, rfl, ?_⟩
    rw [decide_eq_true h1]
    refine iteT ?_
    refine ⟨_, rfl, _, _, rfl, rfl, ?_⟩
    show Q (V.bl (decide (i ≤ k))) H
    rw [decide_eq_true h2]
    exact q
theorem ok_check {f C : Addr} {fd : FuncData} (F : Fun K "check_number" "check_number" s_check_number f fd) (T : Txt K mg C) (c_is_integer_from : CalF P w K mg base 2 "is_integer_from" ["value", "least"] sp_from) : FnOk P w K mg base CX0 3 f fd ["number"] sp_check := by
  refine F.ok sc_check_number (fun vs H Q E h => ?_) (fun cdv A outer s H vs Q E hr h => ?_)
  · obtain ⟨i, rfl, _⟩ := h
    rfl
  · obtain ⟨i, rfl, h0, k⟩ := h
    refine ⟨_, (pss_one (ps_if (pt_not (pt_val (pe_callF c_is_integer_from (hr.mono (by decide)) rfl (pa_cons (pv 0) (pa_cons pe_int pa_nil))))) (pss_one ps_never) pss_nil)), ?_⟩
    refine ⟨_, rfl, i, 0, rfl, _, rfl, ?_⟩
    rw [decide_eq_true h0]
    exact iteF k
end
end My

set_option Elab.async false
set_option linter.all false
set_option maxRecDepth 100000
set_option maxHeartbeats 4000000
namespace My
open PySem L2 Mth
section
variable {P : Program} {w : World} {K : PySem.W.Frag} {mg : Str → Option Value} {base : Heap}
theorem putF_flds (b f : Nat) : putF "factor_value" (.int f) (putF "base_value" (.int b) []) = flds b f := rfl
theorem ok_init {f C : Addr} {fd : FuncData} (F : Fun K "__init__" "Scheme.__init__" s_Scheme___init__ f fd) (T : Txt K mg C) (c_is_integer_between : CalF P w K mg base 2 "is_integer_between" ["value", "least", "greatest"] sp_between) : FnOk P w K mg base CX0 3 f fd ["self", "base", "factor"] (sp_init C) := by
  refine F.ok sc_Scheme___init__ (fun vs H Q E h => ?_) (fun cdv A outer s H vs Q E hr h => ?_)
  · obtain ⟨p, dx, b, f, rfl, _⟩ := h
    rfl
  · obtain ⟨p, dx, b, f, rfl, hp, hb, hb2, hf, hf2, k⟩ := h
    obtain ⟨_, g_LEAST_BASE⟩ := T.g_LEAST_BASE
    obtain ⟨_, g_GREATEST_BASE⟩ := T.g_GREATEST_BASE
    obtain ⟨_, g_LEAST_FACTOR⟩ := T.g_LEAST_FACTOR
    obtain ⟨_, g_GREATEST_FACTOR⟩ := T.g_GREATEST_FACTOR
    refine ⟨_, (pss_cons (ps_if (pt_not (pt_val (pe_callF c_is_integer_between (hr.mono (by decide)) rfl (pa_cons (pv 1) (pa_cons (pe_glob (v := .int 2) (by rfl) g_LEAST_BASE ⟨_, rfl⟩) (pa_cons (pe_glob (v := .int 1000) (by rfl) g_GREATEST_BASE ⟨_, rfl⟩) pa_nil)))))) (pss_one ps_never) pss_nil)
      (pss_cons (ps_if (pt_not (pt_val (pe_callF c_is_integer_between (hr.mono (by decide)) rfl (pa_cons (pv 2) (pa_cons (pe_glob (v := .int 1) (by rfl) g_LEAST_FACTOR ⟨_, rfl⟩) (pa_cons (pe_glob (v := .int 1000000) (by rfl) g_GREATEST_FACTOR ⟨_, rfl⟩) pa_nil)))))) (pss_one ps_never) pss_nil)
      (pss_cons (ps_fld (pv 0) (pv 1) rfl)
      (pss_one (ps_fld (pv 0) (pv 2) rfl))))), ?_⟩
    refine ⟨_, rfl, (b : Int), 2, 1000, rfl, by omega, by omega, _, rfl, ?_⟩
    refine iteF ?_
    refine ⟨_, rfl, (f : Int), 1, 1000000, rfl, by omega, by omega, _, rfl, ?_⟩
    refine iteF ?_
    refine ⟨_, rfl, _, rfl, p, C, dx, [], rfl, hp, T.cl, T.nB, (by show 0 < 1000; decide), ?_⟩
    refine ⟨_, rfl, _, rfl, p, C, dx, _, rfl, upd_same, T.cl, T.nF, (by show 1 < 1000; decide), ?_⟩
    rw [upd_upd]
    exact k
theorem ok_base {f C : Addr} {fd : FuncData} (F : Fun K "base" "Scheme.base" s_Scheme_base f fd) (T : Txt K mg C) : FnOk P w K mg base CX0 1 f fd ["self"] (sp_base C) := by
  refine F.ok sc_Scheme_base (fun vs H Q E h => ?_) (fun cdv A outer s H vs Q E hr h => ?_)
  · obtain ⟨p, b, f, rfl, _⟩ := h
    rfl
  · obtain ⟨p, b, f, rfl, S, k⟩ := h
    obtain ⟨dx, hp⟩ := S.ob
    refine ⟨_, (pss_one (ps_ret (pe_fld (pv 0) rfl))), ?_⟩
    exact ⟨_, rfl, p, C, dx, _, _, rfl, hp, T.cl, T.nB, flds_b b f, k⟩
theorem ok_factor {f C : Addr} {fd : FuncData} (F : Fun K "factor" "Scheme.factor" s_Scheme_factor f fd) (T : Txt K mg C) : FnOk P w K mg base CX0 1 f fd ["self"] (sp_factor C) := by
  refine F.ok sc_Scheme_factor (fun vs H Q E h => ?_) (fun cdv A outer s H vs Q E hr h => ?_)
  · obtain ⟨p, b, f, rfl, _⟩ := h
    rfl
  · obtain ⟨p, b, f, rfl, S, k⟩ := h
    obtain ⟨dx, hp⟩ := S.ob
    refine ⟨_, (pss_one (ps_ret (pe_fld (pv 0) rfl))), ?_⟩
    exact ⟨_, rfl, p, C, dx, _, _, rfl, hp, T.cl, T.nF, flds_f b f, k⟩
theorem ok_eq {f C : Addr} {fd : FuncData} (F : Fun K "__eq__" "Scheme.__eq__" s_Scheme___eq__ f fd) (T : Txt K mg C) (kc : PySem.W.kitOne K (.ref C) (.ref C) = some true) : FnOk P w K mg base CX0 1 f fd ["self", "other"] (sp_eq C) := by
  refine F.ok sc_Scheme___eq__ (fun vs H Q E h => ?_) (fun cdv A outer s H vs Q E hr h => ?_)
  · obtain ⟨p, q, b, f, b', f', rfl, _⟩ := h
    rfl
  · obtain ⟨p, q, b, f, b', f', rfl, S, S', k⟩ := h
    obtain ⟨dx, hp⟩ := S.ob
    obtain ⟨dq, hq⟩ := S'.ob
    refine ⟨_, (pss_one (ps_ret (pe_and (pe_callB call_isinst (by rfl) T.b_isinstance (by decide +kernel) (pa_cons (pv 1) (pa_cons (pe_glob (v := .ref _) (by rfl) T.m_Scheme rfl) pa_nil))) (pe_and (pe_cmpR op_eq (pe_fld (pv 0) rfl) (pe_fld (pv 1) rfl) (nomark _)) (pe_one (pe_cmpR op_eq (pe_fld (pv 0) rfl) (pe_fld (pv 1) rfl) (nomark _))))))), ?_⟩
    refine ⟨_, rfl, _, _, _, _, _, rfl, rfl, .ins hq T.cl T.k1 T.k2 T.k3 T.k4, kc, _, rfl, ?_⟩
    refine iteT ?_
    refine ⟨_, rfl, p, C, dx, _, _, rfl, hp, T.cl, T.nB, flds_b b f, _, rfl, q, C, dq, _, _, rfl, hq, T.cl, T.nB, flds_b b' f', rfl, _, rfl, ?_⟩
    refine ifI (fun e => ?_) (fun e => ?_)
    · refine ⟨_, rfl, p, C, dx, _, _, rfl, hp, T.cl, T.nF, flds_f b f, _, rfl, q, C, dq, _, _, rfl, hq, T.cl, T.nF, flds_f b' f', rfl, ?_⟩
      refine endV ?_ k
      congr 1
      rw [decide_eq_decide]
      constructor
      · intro z; have := V.int.inj z; exact ⟨by omega, by omega⟩
      · rintro ⟨_, z⟩; rw [z]
    · refine endV ?_ k
      congr 1
      exact (decide_eq_false (fun z => e (by omega))).symm
theorem ok_level {f C : Addr} {fd : FuncData} (F : Fun K "level" "Scheme.level" s_Scheme_level f fd) (T : Txt K mg C) (c_check_number : CalF P w K mg base 3 "check_number" ["number"] sp_check) : FnOk P w K mg base CX0 4 f fd ["self", "number"] (sp_level C) := by
  refine F.ok sc_Scheme_level (fun vs H Q E h => ?_) (fun cdv A outer s H vs Q E hr h => ?_)
  · obtain ⟨p, b, f, n, rfl, _⟩ := h
    rfl
  · obtain ⟨p, b, f, n, rfl, S, k⟩ := h
    obtain ⟨⟨dx, hp⟩, hb, hb2, hf, hf2⟩ := id S
    refine ⟨_, (pss_cons (ps_expr (pe_callF c_check_number (hr.mono (by decide)) rfl (pa_cons (pv 1) pa_nil)))
      (pss_cons (ps_if (pt_cmpR op_eq (pv 1) pe_int (nomark _)) (pss_one (ps_ret pe_non)) pss_nil)
      (pss_cons (ps_set (i := 2) sc_Scheme_level.nd rfl (Or.inl rfl) pe_int)
      (pss_cons (ps_while PassesOwn.never (pt_cmpR op_eq (pe_op op_mod (pv 1) (pe_fld (pv 0) rfl)) pe_int (nomark _)) (pss_cons (ps_aug (i := 1) sc_Scheme_level.nd rfl (Or.inl rfl) (pe_fld (pv 0) rfl) iop_fdivB)
      (pss_one (ps_aug (i := 2) sc_Scheme_level.nd rfl (Or.inl rfl) pe_int iop_add))))
      (pss_one (ps_ret (pv 2))))))), ?_⟩
    refine ⟨_, rfl, (n : Int), rfl, by omega, ?_⟩
    refine ⟨_, rfl, rfl, _, rfl, ?_⟩
    refine ifI (fun e => ?_) (fun e => ?_)
    · refine endV ?_ k
      unfold onV
      rw [if_pos (by omega)]
    · have hn : 0 < n := by omega
      unfold onV at k
      rw [if_neg (by omega)] at k
      refine ⟨fun m σ H' => ∃ j q : Nat, σ = [some (.ref p), some (.int q), some (.int j)] ∧ H' = H ∧ n = b ^ j * q ∧ m + j = n + 1, ⟨n + 1, 0, n, rfl, rfl, by simp, rfl⟩, ?_⟩
      rintro m σ H' ⟨j, q, rfl, rfl, hd, hm⟩
      have hq : 0 < q := by
        rcases Nat.eq_zero_or_pos q with e | e
        · subst e; simp at hd; omega
        · exact e
      refine ⟨_, rfl, _, rfl, p, C, dx, _, _, rfl, hp, T.cl, T.nB, flds_b b f, _, _, rfl, rfl, (by show (0 : Int) < b; omega), rfl, _, rfl, ?_⟩
      refine ifI (fun z => ?_) (fun z => ?_)
      · have z2 : q % b = 0 := by omega
        refine ⟨_, fun σ' H'' h => h, ?_⟩
        refine ⟨_, rfl, _, rfl, p, C, dx, _, _, rfl, hp, T.cl, T.nB, flds_b b f, _, _, rfl, rfl, ⟨by omega, by omega⟩, ?_⟩
        refine ⟨_, rfl, _, _, rfl, rfl, ?_⟩
        have h3 : n = b ^ (j + 1) * (q / b) := by
          have h4 : q = b * (q / b) := by have := Nat.div_add_mod q b; omega
          rw [Nat.pow_succ, Nat.mul_assoc, ← h4]
          exact hd
        have hlt := lt_pow_self' (n := j + 1) hb
        have hle : b ^ (j + 1) ≤ n := Nat.le_of_dvd hn ⟨_, h3⟩
        exact ⟨m - 1, by omega, j + 1, q / b, rfl, rfl, h3, by omega⟩
      · refine ⟨_, rfl, ?_⟩
        have z2 : ¬ q % b = 0 := by omega
        have el : lev b n = j := by
          refine lev_uniq hb hn ⟨q, hd⟩ fun y => z2 ?_
          rw [hd, Nat.pow_succ] at y
          exact Nat.mod_eq_zero_of_dvd (Nat.dvd_of_mul_dvd_mul_left (pow_pos' hb) y)
        rw [el] at k
        exact k
theorem ok_time {f C : Addr} {fd : FuncData} (F : Fun K "check_time" "check_time" s_check_time f fd) (T : Txt K mg C) (c_is_integer_from : CalF P w K mg base 2 "is_integer_from" ["value", "least"] sp_from) : FnOk P w K mg base CX0 3 f fd ["time"] sp_check := by
  refine F.ok sc_check_time (fun vs H Q E h => ?_) (fun cdv A outer s H vs Q E hr h => ?_)
  · obtain ⟨i, rfl, _⟩ := h
    rfl
  · obtain ⟨i, rfl, h0, k⟩ := h
    refine ⟨_, (pss_one (ps_if (pt_not (pt_val (pe_callF c_is_integer_from (hr.mono (by decide)) rfl (pa_cons (pv 0) (pa_cons pe_int pa_nil))))) (pss_one ps_never) pss_nil)), ?_⟩
    refine ⟨_, rfl, i, 0, rfl, _, rfl, ?_⟩
    rw [decide_eq_true h0]
    exact iteF k
end
end My

set_option Elab.async false
set_option linter.all false
set_option maxRecDepth 100000
set_option maxHeartbeats 4000000
namespace My
open PySem L2 Mth
section
variable {P : Program} {w : World} {K : PySem.W.Frag} {mg : Str → Option Value} {base : Heap}
theorem small300 {n : Nat} (h : n ≤ 300) : n < sizeLine := Nat.lt_of_le_of_lt h (by decide)
end
end My

set_option Elab.async false
set_option linter.all false
set_option maxRecDepth 100000
set_option maxHeartbeats 4000000
namespace My
open PySem L2 Mth
section
variable {P : Program} {w : World} {K : PySem.W.Frag} {mg : Str → Option Value} {base : Heap}
end
end My

set_option Elab.async false
set_option linter.all false
set_option maxRecDepth 100000
set_option maxHeartbeats 4000000
namespace My
open PySem L2 Mth
def natI (xs : List Nat) : List Int := xs.map fun (x : Nat) => (x : Int)
theorem natsV (xs : List Nat) : xs.map nV = (natI xs).map V.int := by
  unfold natI
  rw [List.map_map]
  rfl
theorem onV_pos {n : Nat} {v : V} (h : 0 < n) : onV n v = v := by
  unfold onV
  rw [if_neg (by omega)]
theorem chn_two {b n : Nat} (hb : 2 ≤ b) (hn : 0 < n) : ∃ r, chn b n = n :: par b n :: r := by
  obtain ⟨r, e⟩ := chn_hd (n := par b n) hb
  exact ⟨r, by rw [chn_pos hb hn, e]⟩
theorem mem_natI {x : Nat} {xs : List Nat} : (x : Int) ∈ natI xs ↔ x ∈ xs := by
  unfold natI
  rw [List.mem_map]
  constructor
  · rintro ⟨y, hy, e⟩
    have : y = x := by omega
    subst this
    exact hy
  · intro h
    exact ⟨x, h, rfl⟩
theorem src_ne {H : Hp} {a l : Addr} {e : Nat} (S : Src H a e) (hl : H l = none) : l ≠ a := by
  obtain ⟨x, d, z, ha, _⟩ := S.ob
  exact (ne_of_none ha hl).symm
theorem cut_ints (ns : List Int) (lo hi : Option Int) : ∃ ms : List Int, cutV (ns.map V.int) lo hi = ms.map V.int ∧ ms.length ≤ ns.length := by
  have e := cutV_length (ns.map V.int) lo hi
  unfold cutV at e ⊢
  rw [← List.map_drop, ← List.map_take] at e ⊢
  exact ⟨_, rfl, by simpa using e⟩
theorem made_same {H : Hp} {C x dx : Addr} {fs : List (Str × V)} (nx : H x = none) (nd : H dx = none) : Same H (upd (upd (upd H dx (.own x)) x (.ins C dx [])) x (.ins C dx fs)) := fun b o e => by
  rw [upd_ne (ne_of_none e nx), upd_ne (ne_of_none e nx), upd_ne (ne_of_none e nd)]
  exact e
theorem sch_but {C : Addr} {H H' : Hp} {p a : Addr} {b f : Nat} {e : Nat} (h : Sch C H p b f) (S : Src H a e) (B : But a H H') : Sch C H' p b f := by
  obtain ⟨⟨dx, hp⟩, h2⟩ := id h
  obtain ⟨x, d, z, ha, _⟩ := S.ob
  exact ⟨⟨dx, B _ _ hp (ne_of hp ha (by intro z; cases z))⟩, h.b2, h.bt, h.f1, h.ft⟩
theorem int_item {ns : List Int} {i : Nat} {y : V} (h : (ns.map V.int)[i]? = some y) : ∃ c : Int, y = V.int c ∧ ns[i]? = some c := by
  rw [List.getElem?_map] at h
  cases e : ns[i]? with
  | none => rw [e] at h; cases h
  | some x => rw [e] at h; exact ⟨x, (Option.some.inj h).symm, rfl⟩
theorem nat_item {ns : List Nat} {i : Nat} {y : V} (h : (ns.map nV)[i]? = some y) : ∃ c : Nat, y = V.int c ∧ ns[i]? = some c := by
  rw [List.getElem?_map] at h
  cases e : ns[i]? with
  | none => rw [e] at h; cases h
  | some x => rw [e] at h; exact ⟨x, (Option.some.inj h).symm, rfl⟩
theorem nat_of {r m : Int} (h0 : 0 ≤ r) (h1 : r < m) : ∃ i : Nat, r = (i : Int) ∧ (i : Int) < m := ⟨r.toNat, by omega, by omega⟩
/-- a slot of the state, its value turned -/
theorem p10_18 : ((10 : Int) ^ (18 : Int).toNat) = 1000000000000000000 := by decide
theorem p10_20 : ((10 : Int) ^ (20 : Int).toNat) = 100000000000000000000 := by decide
theorem p10_29 : ((10 : Int) ^ (29 : Int).toNat) = 100000000000000000000000000000 := by decide
end My

set_option Elab.async false
set_option linter.all false
set_option maxHeartbeats 4000000
namespace Mth
open L2
/-- a number's last time -/
def las (b f n : Nat) : Nat := n + f * lp b n
theorem mul_pred {b : Nat} (h : 1 ≤ b) (x : Nat) : b * x = (b - 1) * x + x := by
  obtain ⟨c, rfl⟩ : ∃ c, b = c + 1 := ⟨b - 1, by omega⟩
  rw [Nat.add_mul, Nat.one_mul]
  rfl
theorem par_gap {b n : Nat} (hb : 2 ≤ b) (hn : 0 < n) : n ≤ par b n + (b - 1) * lp b n := by
  have h1 : n < par b n + b ^ (lev b n + 1) := flo_lt (pow_pos' hb)
  have d1 : lp b n ∣ par b n := Nat.dvd_trans (pow_dvd_le (Nat.le_succ _)) (par_dvd b n)
  have d2 : lp b n ∣ par b n + b ^ (lev b n + 1) := Nat.dvd_add d1 (pow_dvd_le (Nat.le_succ _))
  have h2 := sq2 (lp_dvd hb hn) d2 h1
  have e : b ^ (lev b n + 1) = (b - 1) * lp b n + lp b n := by
    rw [Nat.pow_succ, Nat.mul_comm]
    exact mul_pred (by omega) (lp b n)
  rw [e] at h2
  omega
theorem lp_par {b n : Nat} (hb : 2 ≤ b) (hp : 0 < par b n) : b * lp b n ≤ lp b (par b n) := by
  have h := lev_ge hb hp (par_dvd b n)
  have h2 : b ^ (lev b n + 1) ≤ b ^ lev b (par b n) := Nat.pow_le_pow_right (by omega) h
  rw [Nat.pow_succ, Nat.mul_comm] at h2
  exact h2
theorem las_par {b f n : Nat} (hb : 2 ≤ b) (hf : 1 ≤ f) (hn : 0 < n) (hp : 0 < par b n) : las b f n ≤ las b f (par b n) ∧ (1 < f → las b f n < las b f (par b n)) := by
  have h1 := par_gap hb hn
  have h2 := lp_par hb hp
  have hl := lp_pos (b := b) (n := n) hb
  have h3 : f * (b * lp b n) ≤ f * lp b (par b n) := Nat.mul_le_mul_left f h2
  have e1 : f * (b * lp b n) = f * lp b n + f * ((b - 1) * lp b n) := by
    rw [← Nat.mul_add]
    congr 1
    rw [Nat.add_comm]
    exact mul_pred (by omega) (lp b n)
  have h4 : 1 * ((b - 1) * lp b n) ≤ f * ((b - 1) * lp b n) := Nat.mul_le_mul_right _ hf
  unfold las
  constructor
  · omega
  · intro hf2
    have h5 : 2 * ((b - 1) * lp b n) ≤ f * ((b - 1) * lp b n) := Nat.mul_le_mul_right _ hf2
    have h6 : 1 * 1 ≤ (b - 1) * lp b n := Nat.mul_le_mul (by omega) hl
    omega
/-- the chain without its 0 -/
def chp (b n : Nat) : List Nat := (chn b n).dropLast
theorem chp_zero (b : Nat) : chp b 0 = [] := by unfold chp; rw [chn_zero]; rfl
theorem chp_pos {b n : Nat} (hb : 2 ≤ b) (hn : 0 < n) : chp b n = n :: chp b (par b n) := by
  unfold chp
  rw [chn_pos hb hn]
  obtain ⟨r, e⟩ := chn_hd (n := par b n) hb
  rw [e]
  rfl
theorem chp_mem {b : Nat} (hb : 2 ≤ b) : ∀ n x, x ∈ chp b n → 0 < x ∧ x ∈ chn b n := by
  intro n
  induction n using Nat.strongRecOn with
  | ind n ih =>
    intro x hx
    rcases Nat.eq_zero_or_pos n with e | hn
    · subst e; rw [chp_zero] at hx; cases hx
    · rw [chp_pos hb hn] at hx
      rw [chn_pos hb hn]
      rcases List.mem_cons.mp hx with e | e
      · subst e; exact ⟨hn, List.mem_cons_self⟩
      · obtain ⟨h1, h2⟩ := ih _ (par_lt hb hn) x e
        exact ⟨h1, List.mem_cons_of_mem _ h2⟩
theorem las_le {b f : Nat} (hb : 2 ≤ b) (hf : 1 ≤ f) : ∀ n x, 0 < n → 0 < x → x ∈ chn b n → las b f n ≤ las b f x := by
  intro n
  induction n using Nat.strongRecOn with
  | ind n ih =>
    intro x hn hx h
    rw [chn_pos hb hn] at h
    rcases List.mem_cons.mp h with e | e
    · subst e; exact Nat.le_refl _
    · have hp : 0 < par b n := by
        rcases Nat.eq_zero_or_pos (par b n) with q | q
        · rw [q, chn_zero] at e; simp at e; omega
        · exact q
      exact Nat.le_trans (las_par hb hf hn hp).1 (ih _ (par_lt hb hn) x hp hx e)
theorem las_lt {b f : Nat} (hb : 2 ≤ b) (hf : 1 < f) {n x : Nat} (hn : 0 < n) (h : x ∈ chp b (par b n)) : las b f n < las b f x := by
  obtain ⟨hx, hm⟩ := chp_mem hb _ x h
  have hp : 0 < par b n := by
    rcases Nat.eq_zero_or_pos (par b n) with q | q
    · rw [q, chp_zero] at h; cases h
    · exact q
  exact Nat.lt_of_lt_of_le ((las_par hb (by omega) hn hp).2 hf) (las_le hb (by omega) _ x hp hx hm)
def endsI (b f n : Nat) : List Int := (chp b n).map fun x => ((las b f x : Nat) : Int)
theorem ends_le {b f : Nat} (hb : 2 ≤ b) (hf : 1 ≤ f) : ∀ n, (endsI b f n).Pairwise (· ≤ ·) := by
  intro n
  induction n using Nat.strongRecOn with
  | ind n ih =>
    unfold endsI
    rcases Nat.eq_zero_or_pos n with e | hn
    · subst e; rw [chp_zero]; exact List.Pairwise.nil
    · rw [chp_pos hb hn, List.map_cons]
      refine List.Pairwise.cons (fun y hy => ?_) (ih _ (par_lt hb hn))
      obtain ⟨x, hx, rfl⟩ := List.mem_map.mp hy
      obtain ⟨h1, h2⟩ := chp_mem hb _ x hx
      have := las_le hb hf n x hn h1 (by rw [chn_pos hb hn]; exact List.mem_cons_of_mem _ h2)
      omega
theorem ends_nd {b f : Nat} (hb : 2 ≤ b) (hf : 1 < f) : ∀ n, (endsI b f n).Nodup := by
  intro n
  induction n using Nat.strongRecOn with
  | ind n ih =>
    unfold endsI
    rcases Nat.eq_zero_or_pos n with e | hn
    · subst e; rw [chp_zero]; exact List.nodup_nil
    · rw [chp_pos hb hn, List.map_cons]
      refine List.nodup_cons.mpr ⟨fun hy => ?_, ih _ (par_lt hb hn)⟩
      obtain ⟨x, hx, e⟩ := List.mem_map.mp hy
      have := las_lt hb hf hn hx
      omega
theorem sorted_one {a c : List Int} (hp : a.Perm c) (ha : a.Pairwise (· ≤ ·)) (hc : c.Pairwise (· ≤ ·)) : a = c := by
  first
    | exact hp.eq_of_pairwise (fun x y _ _ h1 h2 => Int.le_antisymm h1 h2) ha hc
    | exact List.Perm.eq_of_pairwise (fun x y _ _ h1 h2 => Int.le_antisymm h1 h2) ha hc hp
/-! firstMet of a list without repeats -/
theorem dedup_nd : ∀ (xs acc : List Int), (acc ++ xs).Nodup → xs.foldl PyProof.Rows.step_dedup acc = acc ++ xs
  | [], acc, _ => by simp
  | x :: r, acc, h => by
    have hx : ¬ x ∈ acc := fun q => by
      have := (List.nodup_append.mp h).2.2 x q x List.mem_cons_self
      exact this rfl
    have e : PyProof.Rows.step_dedup acc x = acc ++ [x] := by
      unfold PyProof.Rows.step_dedup
      rw [if_neg]
      intro q
      obtain ⟨y, hy, e⟩ := List.any_eq_true.mp q
      rw [beq_iff_eq] at e
      subst e
      exact hx hy
    rw [List.foldl_cons, e, dedup_nd r (acc ++ [x]) (by rw [List.append_assoc]; exact h), List.append_assoc]
    rfl
theorem map_getD (ns : List Int) : (List.range ns.length).map (fun i => ns.getD i 0) = ns := by
  apply List.ext_getElem
  · simp
  · intro i h1 h2
    simp [h2]
theorem met_nd {ns : List Int} (h : ns.Nodup) : metOf ns = ns := by
  unfold metOf PyProof.Rows.firstMet
  rw [map_getD, dedup_nd ns [] (by simpa using h)]
  rfl
theorem met_len (ns : List Int) : (metOf ns).length ≤ ns.length := PyProof.Rows.firstMet_length_le _ _
end Mth

set_option Elab.async false
set_option linter.all false
set_option maxRecDepth 100000
set_option maxHeartbeats 4000000
namespace My
open PySem L2 Mth
theorem cut_last (xs : List V) : cutV xs none (some (-1)) = xs.dropLast := by
  unfold cutV
  rw [HT.sIx_none]
  show (xs.drop 0).take (HT.sIx xs.length xs.length (some (-1)) - 0) = _
  have e : HT.sIx xs.length xs.length (some (-1)) = xs.length - 1 := by
    show (if (-1 : Int) < 0 then ((-1 : Int) + (xs.length : Int)).toNat else min (-1 : Int).toNat xs.length) = _
    rw [if_pos (by decide)]
    omega
  rw [e, List.drop_zero, Nat.sub_zero, List.dropLast_eq_take]
theorem kpt_num {b f n t : Nat} (hn : 0 < n) (ht : n ≤ t) : kpt b f n t = decide ((t : Int) ≤ ((n + f * lp b n : Nat) : Int)) := by
  unfold kpt
  rw [decide_eq_decide]
  constructor
  · rintro ⟨_, q | q⟩
    · omega
    · omega
  · intro q
    exact ⟨ht, .inr (by omega)⟩
theorem kpt_zero {b f t : Nat} : kpt b f 0 t = true := decide_eq_true ⟨Nat.zero_le _, .inl rfl⟩
theorem kpt_chn {b f n t x : Nat} (hb : 2 ≤ b) (hf : 1 ≤ f) (hn : 0 < n) (ht : n ≤ t) (hl : t ≤ n + f * lp b n) (hx : x ∈ chn b n) : kpt b f x t = true := by
  rcases Nat.eq_zero_or_pos x with e | e
  · subst e; exact kpt_zero
  · have h1 := blk_of_chn hb e n hx
    have h2 := las_le hb hf n x hn e hx
    unfold las at h2
    exact decide_eq_true ⟨by omega, .inr (by omega)⟩
def alv (b f T i : Nat) : List Nat := (List.range i).filter fun n => kpt b f n T
theorem alv_succ (b f T i : Nat) : alv b f T (i + 1) = alv b f T i ++ (if kpt b f i T = true then [i] else []) := by
  unfold alv
  rw [List.range_succ, List.filter_append]
  by_cases h : kpt b f i T = true
  · rw [if_pos h, List.filter_cons, if_pos h]; rfl
  · rw [if_neg h, List.filter_cons, if_neg h]; rfl
theorem alv_len (b f T i : Nat) : (alv b f T i).length ≤ i := by
  unfold alv
  have := List.length_filter_le (fun n => kpt b f n T) (List.range i)
  rw [List.length_range] at this
  exact this
theorem alv_mem {b f T i n : Nat} : n ∈ alv b f T i ↔ n < i ∧ kpt b f n T = true := by
  unfold alv
  rw [List.mem_filter, List.mem_range]
theorem alv_nd (b f T i : Nat) : (alv b f T i).Nodup := by
  unfold alv
  exact List.Pairwise.filter _ List.nodup_range
theorem alv_le (b f T i : Nat) : (natI (alv b f T i)).Pairwise (· ≤ ·) := by
  unfold natI
  rw [List.pairwise_map]
  have h : (alv b f T i).Pairwise (· < ·) := by
    unfold alv
    exact List.Pairwise.filter _ List.pairwise_lt_range
  exact h.imp fun q => by omega
theorem kpt_par {b f n T : Nat} (hb : 2 ≤ b) (hf : 1 ≤ f) (hn : 0 < n) (h : kpt b f n T = true) : kpt b f (par b n) T = true := by
  obtain ⟨h1, h2 | h2⟩ := of_decide_eq_true h
  · omega
  · unfold kpt
    have hp := par_lt hb hn
    rcases Nat.eq_zero_or_pos (par b n) with e | e
    · exact decide_eq_true ⟨by omega, .inl e⟩
    · have := (las_par hb hf hn e).1
      unfold las at this
      exact decide_eq_true ⟨by omega, .inr (by omega)⟩
end My

set_option Elab.async false
set_option linter.all false
set_option maxHeartbeats 4000000
namespace My
open PySem L2 Mth
/-! strictly ascending lists are told by their members -/
theorem asc_ext : ∀ {l m : List Nat}, l.Pairwise (· < ·) → m.Pairwise (· < ·) → (∀ x, x ∈ l ↔ x ∈ m) → l = m
  | [], [], _, _, _ => rfl
  | [], b :: m, _, _, h => absurd ((h b).mpr List.mem_cons_self) (by simp)
  | a :: l, [], _, _, h => absurd ((h a).mp List.mem_cons_self) (by simp)
  | a :: l, b :: m, hl, hm, h => by
    obtain ⟨h1, h2⟩ := List.pairwise_cons.mp hl
    obtain ⟨h3, h4⟩ := List.pairwise_cons.mp hm
    have e : a = b := by
      rcases List.mem_cons.mp ((h a).mp List.mem_cons_self) with q | q
      · exact q
      · rcases List.mem_cons.mp ((h b).mpr List.mem_cons_self) with q' | q'
        · exact q'.symm
        · have := h3 a q
          have := h1 b q'
          omega
    subst e
    congr 1
    refine asc_ext h2 h4 fun x => ?_
    constructor
    · intro hx
      rcases List.mem_cons.mp ((h x).mp (List.mem_cons_of_mem _ hx)) with q | q
      · have := h1 x hx
        omega
      · exact q
    · intro hx
      rcases List.mem_cons.mp ((h x).mpr (List.mem_cons_of_mem _ hx)) with q | q
      · have := h3 x hx
        omega
      · exact q
theorem rng_asc (p : Nat → Bool) (m : Nat) : ((List.range m).filter p).Pairwise (· < ·) := List.Pairwise.filter _ List.pairwise_lt_range
/-! how many numbers from 1 to m are no multiples of b -/
def nmu (b m : Nat) : Nat := m - m / b
theorem div_le_self' (b m : Nat) : m / b ≤ m := Nat.div_le_self m b
theorem nmu_succ {b : Nat} (hb : 2 ≤ b) (m : Nat) : nmu b (m + 1) = nmu b m + (if (m + 1) % b = 0 then 0 else 1) := by
  unfold nmu
  have h1 := Nat.div_le_self m b
  have h2 : (m + 1) / b = m / b + (if b ∣ m + 1 then 1 else 0) := Nat.succ_div
  by_cases h : (m + 1) % b = 0
  · rw [if_pos h, h2, if_pos (Nat.dvd_of_mod_eq_zero h)]
    omega
  · rw [if_neg h, h2, if_neg (fun q => h (Nat.mod_eq_zero_of_dvd q))]
    omega
theorem nmu_mono {b : Nat} (hb : 2 ≤ b) {m k : Nat} (h : m ≤ k) : nmu b m ≤ nmu b k := by
  obtain ⟨d, rfl⟩ : ∃ d, k = m + d := ⟨k - m, by omega⟩
  clear h
  induction d with
  | zero => exact Nat.le_refl _
  | succ d ih =>
    have := nmu_succ hb (m + d)
    rw [show m + (d + 1) = m + d + 1 from rfl, this]
    split <;> omega
/-- q from lo to hi, no multiple of b -/
def qs (b lo hi : Nat) : List Nat := (List.range (hi + 1)).filter fun q => decide (lo ≤ q ∧ 0 < q ∧ q % b ≠ 0)
theorem qs_len {b : Nat} (hb : 2 ≤ b) {lo : Nat} (hlo : 1 ≤ lo) : ∀ hi, (qs b lo hi).length = nmu b hi - nmu b (lo - 1) := by
  intro hi
  induction hi with
  | zero =>
    unfold qs
    have e0 : nmu b 0 = 0 := by unfold nmu; rw [Nat.zero_sub]
    rw [e0, show (List.range (0 + 1)) = [0] from rfl]
    rw [List.filter_cons, if_neg (by simp), List.filter_nil]
    simp
  | succ hi ih =>
    have hs := nmu_succ hb hi
    have e : qs b lo (hi + 1) = qs b lo hi ++ (if lo ≤ hi + 1 ∧ 0 < hi + 1 ∧ (hi + 1) % b ≠ 0 then [hi + 1] else []) := by
      unfold qs
      rw [List.range_succ, List.filter_append, List.filter_cons, List.filter_nil]
      by_cases q : lo ≤ hi + 1 ∧ 0 < hi + 1 ∧ (hi + 1) % b ≠ 0
      · rw [if_pos q, if_pos (decide_eq_true q)]
      · rw [if_neg q, if_neg (fun z => q (of_decide_eq_true z))]
    rw [e, List.length_append, ih]
    rcases Nat.lt_or_ge hi lo with q | q
    · rcases Nat.eq_or_lt_of_le (show hi + 1 ≤ lo from q) with q2 | q2
      · have h3 : lo - 1 = hi := by omega
        rw [h3]
        by_cases h : (hi + 1) % b = 0
        · rw [if_neg (fun z => z.2.2 h)]
          rw [hs, if_pos h]
          simp
        · rw [if_pos ⟨by omega, by omega, h⟩, hs, if_neg h]
          simp
      · have h4 := nmu_mono hb (show hi + 1 ≤ lo - 1 by omega)
        have h5 := nmu_mono hb (show hi ≤ lo - 1 by omega)
        rw [if_neg (fun z => by omega)]
        simp
        omega
    · have h5 := nmu_mono hb (show lo - 1 ≤ hi by omega)
      by_cases h : (hi + 1) % b = 0
      · rw [if_neg (fun z => z.2.2 h), hs, if_pos h]
        simp
      · rw [if_pos ⟨by omega, by omega, h⟩, hs, if_neg h]
        simp
        omega
/-! the kept numbers of one level -/
def hiQ (b T l : Nat) : Nat := T / b ^ l
def loQ (b f T l : Nat) : Nat := max 1 ((T + b ^ l - 1) / b ^ l - f)
theorem loQ_iff {b f T l q : Nat} (hb : 2 ≤ b) (hq : 0 < q) : loQ b f T l ≤ q ↔ T ≤ b ^ l * q + f * b ^ l := by
  have hu : 0 < b ^ l := pow_pos' hb
  unfold loQ
  have key : (T + b ^ l - 1) / b ^ l ≤ q + f ↔ T ≤ b ^ l * q + f * b ^ l := by
    rw [← Nat.lt_succ_iff, Nat.div_lt_iff_lt_mul hu]
    have e : (q + f).succ * b ^ l = b ^ l * q + f * b ^ l + b ^ l := by
      rw [Nat.succ_mul, Nat.add_mul, Nat.mul_comm q]
    rw [e]
    omega
  rw [← key]
  omega
theorem hiQ_iff {b T l q : Nat} (hb : 2 ≤ b) : q ≤ hiQ b T l ↔ b ^ l * q ≤ T := by
  unfold hiQ
  rw [Nat.le_div_iff_mul_le (pow_pos' hb), Nat.mul_comm]
theorem lev_mul {b l q : Nat} (hb : 2 ≤ b) (hq : 0 < q) (h : q % b ≠ 0) : lev b (b ^ l * q) = l := by
  refine lev_uniq hb (Nat.mul_pos (pow_pos' hb) hq) ⟨q, rfl⟩ fun z => h ?_
  rw [Nat.pow_succ] at z
  exact Nat.mod_eq_zero_of_dvd (Nat.dvd_of_mul_dvd_mul_left (pow_pos' hb) z)
theorem lev_quot {b n : Nat} (hb : 2 ≤ b) (hn : 0 < n) : ∃ q, 0 < q ∧ q % b ≠ 0 ∧ n = b ^ lev b n * q := by
  obtain ⟨h1, h2⟩ := lev_spec hb n hn
  obtain ⟨q, hq⟩ := h1
  refine ⟨q, ?_, ?_, hq⟩
  · rcases Nat.eq_zero_or_pos q with e | e
    · rw [e] at hq; simp at hq; omega
    · exact e
  · intro z
    apply h2
    rw [Nat.pow_succ]
    conv => rhs; rw [hq]
    exact Nat.mul_dvd_mul_left _ (Nat.dvd_of_mod_eq_zero z)
/-- the kept numbers of level l at time T, ascending -/
def lvl (b f T l : Nat) : List Nat := (qs b (loQ b f T l) (hiQ b T l)).map fun q => b ^ l * q
theorem lvl_mem {b f T l n : Nat} (hb : 2 ≤ b) : n ∈ lvl b f T l ↔ 0 < n ∧ lev b n = l ∧ kpt b f n T = true := by
  unfold lvl
  rw [List.mem_map]
  constructor
  · rintro ⟨q, hq, rfl⟩
    obtain ⟨h1, h2⟩ := List.mem_filter.mp hq
    obtain ⟨h3, h4, h5⟩ := of_decide_eq_true h2
    have h6 : q ≤ hiQ b T l := by have := List.mem_range.mp h1; omega
    have hl := lev_mul (l := l) hb h4 h5
    refine ⟨Nat.mul_pos (pow_pos' hb) h4, hl, ?_⟩
    unfold kpt lp
    rw [hl]
    exact decide_eq_true ⟨(hiQ_iff hb).mp h6, .inr ((loQ_iff hb h4).mp h3)⟩
  · rintro ⟨hn, hl, hk⟩
    obtain ⟨q, h4, h5, e⟩ := lev_quot hb hn
    rw [hl] at e
    obtain ⟨h1, h2 | h2⟩ := of_decide_eq_true hk
    · omega
    · unfold lp at h2
      rw [hl] at h2
      refine ⟨q, List.mem_filter.mpr ⟨List.mem_range.mpr ?_, decide_eq_true ⟨?_, h4, h5⟩⟩, e.symm⟩
      · have : q ≤ hiQ b T l := (hiQ_iff hb).mpr (by rw [← e]; exact h1)
        omega
      · exact (loQ_iff hb h4).mpr (by rw [← e]; exact h2)
theorem lvl_asc {b f T l : Nat} (hb : 2 ≤ b) : (lvl b f T l).Pairwise (· < ·) := by
  unfold lvl qs
  rw [List.pairwise_map]
  exact (rng_asc _ _).imp fun h => Nat.mul_lt_mul_of_pos_left h (pow_pos' hb)
theorem lvl_eq {b f T l : Nat} (hb : 2 ≤ b) : lvl b f T l = (alv b f T (T + 1)).filter fun n => decide (0 < n ∧ lev b n = l) := by
  refine asc_ext (lvl_asc hb) (List.Pairwise.filter _ (rng_asc _ _)) fun n => ?_
  rw [lvl_mem hb, List.mem_filter, alv_mem, decide_eq_true_iff]
  constructor
  · rintro ⟨h1, h2, h3⟩
    exact ⟨⟨by have := (of_decide_eq_true h3).1; omega, h3⟩, h1, h2⟩
  · rintro ⟨⟨_, h3⟩, h1, h2⟩
    exact ⟨h1, h2, h3⟩
theorem lvl_len {b f T l : Nat} (hb : 2 ≤ b) : (lvl b f T l).length = nmu b (hiQ b T l) - nmu b (loQ b f T l - 1) := by
  unfold lvl
  rw [List.length_map, qs_len hb (by unfold loQ; omega)]
/-! all levels together -/
theorem filt_split (l : List Nat) (g : Nat → Nat) : ∀ m : Nat, (∀ n ∈ l, g n < m) → l.length = ((List.range m).map fun i => (l.filter fun n => decide (g n = i)).length).sum := by
  intro m
  induction m generalizing l with
  | zero =>
    intro h
    cases l with
    | nil => rfl
    | cons a r => exact absurd (h a List.mem_cons_self) (by omega)
  | succ m ih =>
    intro h
    rw [List.range_succ, List.map_append, List.sum_append]
    have e1 := ih (l.filter fun n => decide (g n < m)) fun n hn => of_decide_eq_true (List.mem_filter.mp hn).2
    have e2 : l.length = (l.filter fun n => decide (g n < m)).length + (l.filter fun n => decide (g n = m)).length := by
      clear e1 ih
      induction l with
      | nil => rfl
      | cons a r ih =>
        have ha := h a List.mem_cons_self
        have hr := ih fun n hn => h n (List.mem_cons_of_mem _ hn)
        rw [List.length_cons, List.filter_cons, List.filter_cons]
        by_cases q : g a = m
        · rw [if_neg (by simp; omega), if_pos (by simp [q]), List.length_cons]
          omega
        · rw [if_pos (by simp; omega), if_neg (by simp [q]), List.length_cons]
          omega
    have e3 : (List.range m).map (fun i => ((l.filter fun n => decide (g n < m)).filter fun n => decide (g n = i)).length) = (List.range m).map fun i => (l.filter fun n => decide (g n = i)).length := by
      apply List.map_congr_left
      intro i hi
      have hi := List.mem_range.mp hi
      rw [List.filter_filter]
      congr 1
      apply List.filter_congr
      intro n _
      by_cases q : g n = i
      · simp [q]; omega
      · simp [q]
    rw [e3] at e1
    simp only [List.map_cons, List.map_nil, List.sum_cons, List.sum_nil]
    omega
theorem alv_split {b f T m : Nat} (hb : 2 ≤ b) (hm : T < b ^ m) : (alv b f T (T + 1)).length = 1 + ((List.range m).map fun l => (lvl b f T l).length).sum := by
  have e0 : alv b f T (T + 1) = 0 :: (alv b f T (T + 1)).filter fun n => decide (0 < n) := by
    refine asc_ext (rng_asc _ _) (List.pairwise_cons.mpr ⟨fun x hx => ?_, List.Pairwise.filter _ (rng_asc _ _)⟩) fun x => ?_
    · have := of_decide_eq_true (List.mem_filter.mp hx).2
      omega
    · rw [List.mem_cons, List.mem_filter, decide_eq_true_iff]
      constructor
      · intro h
        rcases Nat.eq_zero_or_pos x with q | q
        · exact .inl q
        · exact .inr ⟨h, q⟩
      · rintro (h | ⟨h, _⟩)
        · subst h; exact alv_mem.mpr ⟨by omega, kpt_zero⟩
        · exact h
  rw [e0, List.length_cons, Nat.add_comm]
  congr 1
  rw [filt_split _ (lev b) m]
  · congr 1
    apply List.map_congr_left
    intro l _
    rw [lvl_eq hb, List.filter_filter]
    congr 1
    apply List.filter_congr
    intro n _
    by_cases q : 0 < n
    · simp [q]
    · simp [q]
  · intro n hn
    obtain ⟨h1, h2⟩ := List.mem_filter.mp hn
    have h3 := of_decide_eq_true h2
    obtain ⟨h4, _⟩ := alv_mem.mp h1
    rcases Nat.lt_or_ge (lev b n) m with q | q
    · exact q
    · have h5 := lp_le hb h3
      have h6 : b ^ m ≤ b ^ lev b n := Nat.pow_le_pow_right (by omega) q
      unfold lp at h5
      omega
end My

set_option Elab.async false
set_option linter.all false
set_option maxRecDepth 100000
set_option maxHeartbeats 4000000
namespace My
open PySem L2 Mth
/-! the greatest kept number up to n -/
def prv (b f T : Nat) : Nat → Nat
  | 0 => 0
  | n + 1 => if kpt b f (n + 1) T = true then n + 1 else prv b f T n
theorem prv_le (b f T : Nat) : ∀ n, prv b f T n ≤ n
  | 0 => Nat.le_refl _
  | n + 1 => by
    unfold prv
    split
    · exact Nat.le_refl _
    · exact Nat.le_succ_of_le (prv_le b f T n)
theorem prv_kpt (b f T : Nat) : ∀ n, kpt b f (prv b f T n) T = true
  | 0 => kpt_zero
  | n + 1 => by
    unfold prv
    split
    · assumption
    · exact prv_kpt b f T n
theorem prv_max {b f T m : Nat} (k : kpt b f m T = true) : ∀ {n}, m ≤ n → m ≤ prv b f T n
  | 0, h => h
  | n + 1, h => by
    unfold prv
    split
    · exact h
    · rename_i q
      refine prv_max k ?_
      rcases Nat.eq_or_lt_of_le h with e | e
      · subst e; exact absurd k q
      · omega
theorem prv_uniq {b f T n m : Nat} (h : m ≤ n) (k : kpt b f m T = true) (u : ∀ j, j ≤ n → kpt b f j T = true → j ≤ m) : prv b f T n = m :=
  Nat.le_antisymm (u _ (prv_le b f T n) (prv_kpt b f T n)) (prv_max k h)
theorem kpt_self {b f T : Nat} : kpt b f T T = true := decide_eq_true ⟨Nat.le_refl _, .inr (Nat.le_add_right _ _)⟩
theorem kpt_gt {b f n T : Nat} (h : T < n) : kpt b f n T = false := decide_eq_false fun q => by omega
/-- the loss at an age -/
def los (b f T a : Nat) : Nat := (T - a) - prv b f T (T - a)
/-- how many kept numbers are below n -/
def rnk (b f T n : Nat) : Nat := (alv b f T n).length
theorem rnk_succ (b f T n : Nat) : rnk b f T (n + 1) = rnk b f T n + (if kpt b f n T = true then 1 else 0) := by
  unfold rnk
  rw [alv_succ, List.length_append]
  split <;> rfl
theorem rnk_mono {b f T m n : Nat} (h : m ≤ n) : rnk b f T m ≤ rnk b f T n := by
  obtain ⟨d, rfl⟩ : ∃ d, n = m + d := ⟨n - m, by omega⟩
  clear h
  induction d with
  | zero => exact Nat.le_refl _
  | succ d ih =>
    rw [show m + (d + 1) = m + d + 1 from rfl, rnk_succ]
    omega
theorem least_of {p : Nat → Prop} : ∀ n, p n → ∃ j, p j ∧ ∀ i, i < j → ¬ p i := by
  intro n
  induction n using Nat.strongRecOn with
  | ind n ih =>
    intro hn
    by_cases q : ∃ i, i < n ∧ p i
    · obtain ⟨i, hi, hg⟩ := q
      exact ih i hi hg
    · exact ⟨n, hn, fun i hi z => q ⟨i, hi, z⟩⟩
/-! the greatest loss -/
/-- the greatest loss is b ^ j - 1 for the least such j -/
def glOk (b f a j : Nat) : Prop := a ≤ (f - 1) * b ^ j + 1
theorem glOk_up {b f a i j : Nat} (hb : 2 ≤ b) (h : glOk b f a i) (hij : i ≤ j) : glOk b f a j := by
  unfold glOk at *
  have : (f - 1) * b ^ i ≤ (f - 1) * b ^ j := Nat.mul_le_mul_left _ (Nat.pow_le_pow_right (by omega) hij)
  omega
theorem los_le {b f T a j : Nat} (hb : 2 ≤ b) (hf : 1 ≤ f) (ha : a ≤ T) (h : glOk b f a j) : los b f T a ≤ b ^ j - 1 := by
  have hp : 0 < b ^ j := pow_pos' hb
  have h1 := flo_le (b ^ j) (T - a)
  have h2 := flo_lt (d := b ^ j) (n := T - a) hp
  have hk : kpt b f (flo (b ^ j) (T - a)) T = true := by
    rcases Nat.eq_zero_or_pos (flo (b ^ j) (T - a)) with e | e
    · rw [e]; exact kpt_zero
    · refine decide_eq_true ⟨by omega, .inr ?_⟩
      have h3 : b ^ j ≤ lp b (flo (b ^ j) (T - a)) := Nat.pow_le_pow_right (by omega) (lev_ge hb e (flo_dvd _ _))
      have h4 : f * b ^ j ≤ f * lp b (flo (b ^ j) (T - a)) := Nat.mul_le_mul_left _ h3
      have h5 : f * b ^ j = (f - 1) * b ^ j + b ^ j := by
        obtain ⟨g, rfl⟩ : ∃ g, f = g + 1 := ⟨f - 1, by omega⟩
        rw [Nat.add_sub_cancel, Nat.succ_mul]
      unfold glOk at h
      omega
  have := prv_max hk h1
  unfold los
  omega
/-- at this time all numbers below b ^ j but 0 are dropped -/
theorem los_ge {b f a j : Nat} (hb : 2 ≤ b) (hf : 1 ≤ f) (h : ∀ i, i < j → ¬ glOk b f a i) : los b f (a + (b ^ j - 1)) a = b ^ j - 1 := by
  have e1 : a + (b ^ j - 1) - a = b ^ j - 1 := by omega
  unfold los
  rw [e1]
  have hp : 0 < b ^ j := pow_pos' hb
  have : prv b f (a + (b ^ j - 1)) (b ^ j - 1) = 0 := by
    refine prv_uniq (Nat.zero_le _) kpt_zero fun n hn hk => ?_
    rcases Nat.eq_zero_or_pos n with e | e
    · omega
    · exfalso
      obtain ⟨_, h2 | h2⟩ := of_decide_eq_true hk
      · omega
      · have hl : lev b n < j := by
          rcases Nat.lt_or_ge (lev b n) j with q | q
          · exact q
          · have h3 := lp_le hb e
            have h4 : b ^ j ≤ lp b n := Nat.pow_le_pow_right (by omega) q
            omega
        have hn2 := h _ hl
        unfold glOk at hn2
        have d1 : lp b n ∣ b ^ j := pow_dvd_le (Nat.le_of_lt hl)
        have h5 := sq2 (lp_dvd hb e) d1 (by omega)
        have h6 : f * lp b n = (f - 1) * lp b n + lp b n := by
          obtain ⟨g, rfl⟩ : ∃ g, f = g + 1 := ⟨f - 1, by omega⟩
          rw [Nat.add_sub_cancel, Nat.succ_mul]
        unfold lp at *
        omega
  rw [this]
  rfl
/-- what the greatest loss is: None, or the greatest loss of all times -/
def GLis (b f a : Nat) : Option Nat → Prop
  | none => ∀ m, ∃ T, a ≤ T ∧ m ≤ los b f T a
  | some g => (∀ T, a ≤ T → los b f T a ≤ g) ∧ ∃ T, a ≤ T ∧ los b f T a = g
theorem GLis.uniq {b f a : Nat} : ∀ {x y : Option Nat}, GLis b f a x → GLis b f a y → x = y
  | none, none, _, _ => rfl
  | none, some g, h, ⟨k, _⟩ => by
    obtain ⟨T, h1, h2⟩ := h (g + 1)
    have := k T h1
    omega
  | some g, none, ⟨k, _⟩, h => by
    obtain ⟨T, h1, h2⟩ := h (g + 1)
    have := k T h1
    omega
  | some g, some g', ⟨k, T, h1, h2⟩, ⟨k', T', h1', h2'⟩ => by
    have := k T' h1'
    have := k' T h1
    congr 1
    omega
theorem glis_some {b f a j : Nat} (hb : 2 ≤ b) (hf : 1 ≤ f) (h : glOk b f a j) (hm : ∀ i, i < j → ¬ glOk b f a i) : GLis b f a (some (b ^ j - 1)) :=
  ⟨fun T ha => los_le hb hf ha h, _, Nat.le_add_right _ _, los_ge hb hf hm⟩
theorem glis_none {b a : Nat} (hb : 2 ≤ b) (ha : 2 ≤ a) : GLis b 1 a none := fun m => by
  refine ⟨a + (b ^ m - 1), Nat.le_add_right _ _, ?_⟩
  rw [los_ge hb (Nat.le_refl 1) fun i _ q => by unfold glOk at q; omega]
  have := lt_pow_self' (n := m) hb
  omega
theorem glis_ex {b f a : Nat} (hb : 2 ≤ b) (hf : 1 ≤ f) (h : 2 ≤ f ∨ a ≤ 1) : ∃ j, glOk b f a j ∧ (∀ i, i < j → ¬ glOk b f a i) ∧ GLis b f a (some (b ^ j - 1)) := by
  have hex : ∃ j, glOk b f a j := by
    rcases h with h | h
    · refine ⟨a, ?_⟩
      unfold glOk
      have h1 := lt_pow_self' (n := a) hb
      have h2 : 1 * b ^ a ≤ (f - 1) * b ^ a := Nat.mul_le_mul_right _ (by omega)
      omega
    · exact ⟨0, by unfold glOk; omega⟩
  obtain ⟨n, hn⟩ := hex
  obtain ⟨j, hj, hm⟩ := least_of (p := glOk b f a) n hn
  exact ⟨j, hj, hm, glis_some hb hf hj hm⟩
/-- a time at which the loss is at least m, near -/
theorem los_near {b f a m T : Nat} (hb : 2 ≤ b) (hf : 1 ≤ f) (ha : a ≤ T) (h : m ≤ los b f T a) : ∃ T', a ≤ T' ∧ T' ≤ a + b * m ∧ m ≤ los b f T' a := by
  rcases Nat.eq_zero_or_pos m with e | e
  · subst e; exact ⟨a, Nat.le_refl _, by omega, Nat.zero_le _⟩
  obtain ⟨j, hj, hm⟩ := least_of (p := fun j => m < b ^ j) m (lt_pow_self' hb)
  have hno : ∀ i, i < j → ¬ glOk b f a i := fun i hi q => by
    have h1 := los_le hb hf ha q
    have h2 := hm i hi
    have h3 : 0 < b ^ i := pow_pos' hb
    omega
  have h4 := los_ge hb hf hno
  refine ⟨a + (b ^ j - 1), Nat.le_add_right _ _, ?_, by omega⟩
  rcases Nat.eq_zero_or_pos j with e0 | e0
  · subst e0; simp
  · have h5 := hm (j - 1) (by omega)
    have h6 : b ^ j = b ^ (j - 1) * b := by rw [← Nat.pow_succ]; congr 1; omega
    have h7 : b ^ (j - 1) * b ≤ m * b := Nat.mul_le_mul_right _ (by omega)
    rw [Nat.mul_comm m b] at h7
    omega
/-! promises of stage 2 -/
def sp_count (C : Addr) : Sp := fun vs H Q _ => ∃ (p : Addr) (b f t : Nat), vs = [.ref p, .int t] ∧ Sch C H p b f ∧ t < 2 ^ 150 ∧ ∀ H', Same H H' → Q (.int (rnk b f t (t + 1) : Nat)) H'
def sp_rank (C : Addr) : Sp := fun vs H Q _ => ∃ (p : Addr) (b f t n : Nat), vs = [.ref p, .int t, .int n] ∧ Sch C H p b f ∧ t < 2 ^ 150 ∧ n < 2 ^ 150 ∧ ∀ H', Same H H' → Q (.int (rnk b f t n : Nat)) H'
def sp_knum (C : Addr) : Sp := fun vs H Q _ => ∃ (p : Addr) (b f t i : Nat), vs = [.ref p, .int t, .int i] ∧ Sch C H p b f ∧ t < 2 ^ 150 ∧ i < rnk b f t (t + 1) ∧ ∀ m H', Same H H' → kpt b f m t = true → rnk b f t m = i → Q (.int (m : Nat)) H'
def sp_prev (C : Addr) : Sp := fun vs H Q _ => ∃ (p : Addr) (b f t n : Nat), vs = [.ref p, .int t, .int n] ∧ Sch C H p b f ∧ t < 2 ^ 150 ∧ n < 2 ^ 150 ∧ ∀ H', Same H H' → Q (.int (prv b f t n : Nat)) H'
def sp_nextk (C : Addr) : Sp := fun vs H Q _ => ∃ (p : Addr) (b f t n : Nat), vs = [.ref p, .int t, .int n] ∧ Sch C H p b f ∧ t < 2 ^ 150 ∧ n < 2 ^ 150 ∧ (t < n → ∀ H', Same H H' → Q .non H') ∧ (n ≤ t → ∀ m H', Same H H' → n ≤ m → kpt b f m t = true → (∀ j, n ≤ j → j < m → kpt b f j t = false) → Q (.int (m : Nat)) H')
def sp_point (C : Addr) : Sp := fun vs H Q _ => ∃ (p : Addr) (b f t a : Nat), vs = [.ref p, .int t, .int a] ∧ Sch C H p b f ∧ t < 2 ^ 150 ∧ a ≤ t ∧ ∀ H', Same H H' → Q (.int (prv b f t (t - a) : Nat)) H'
def sp_loss (C : Addr) : Sp := fun vs H Q _ => ∃ (p : Addr) (b f t a : Nat), vs = [.ref p, .int t, .int a] ∧ Sch C H p b f ∧ t < 2 ^ 150 ∧ a ≤ t ∧ ∀ H', Same H H' → Q (.int (los b f t a : Nat)) H'
def oV : Option Nat → V
  | none => .non
  | some n => .int (n : Nat)
def sp_great (C : Addr) : Sp := fun vs H Q _ => ∃ (p : Addr) (b f a : Nat), vs = [.ref p, .int a] ∧ Sch C H p b f ∧ a < 2 ^ 150 ∧ ∀ g H', Same H H' → GLis b f a g → Q (oV g) H'
def sp_first (C : Addr) : Sp := fun vs H Q _ => ∃ (p : Addr) (b f a m : Nat), vs = [.ref p, .int a, .int m] ∧ Sch C H p b f ∧ a < 2 ^ 150 ∧ m < 2 ^ 150 ∧ ((∀ T, a ≤ T → los b f T a < m) → ∀ H', Same H H' → Q .non H') ∧
  ∀ T H', Same H H' → a ≤ T → m ≤ los b f T a → (∀ T', a ≤ T' → T' < T → los b f T' a < m) → Q (.int (T : Nat)) H'
def sp_safe (C : Addr) : Sp := fun vs H Q _ => ∃ (p : Addr) (b f m : Nat), vs = [.ref p, .int m] ∧ Sch C H p b f ∧ m < 2 ^ 150 ∧ ∀ a g g' H', Same H H' → GLis b f a (some g) → g ≤ m → GLis b f (a + 1) g' → (∀ x, g' = some x → m < x) → Q (.int (a : Nat)) H'
end My

set_option Elab.async false
set_option linter.all false
set_option maxRecDepth 100000
set_option maxHeartbeats 4000000
namespace My
open PySem L2 Mth
/-! rows of numbers as tuples -/
inductive RowsAt (H : Hp) : List Addr → List (List Int) → Prop
  | nil : RowsAt H [] []
  | cons {q : Addr} {r : List Int} {ts : List Addr} {rs : List (List Int)} : H q = some (.tup (r.map V.int)) → RowsAt H ts rs → RowsAt H (q :: ts) (r :: rs)
theorem RowsAt.mono {H H' : Hp} (s : ∀ q xs, H q = some (.tup xs) → H' q = some (.tup xs)) : ∀ {ts rs}, RowsAt H ts rs → RowsAt H' ts rs
  | _, _, .nil => .nil
  | _, _, .cons h r => .cons (s _ _ h) (RowsAt.mono s r)
theorem RowsAt.same {H H' : Hp} (s : Same H H') {ts rs} (h : RowsAt H ts rs) : RowsAt H' ts rs := h.mono fun _ _ e => s _ _ e
theorem RowsAt.snoc {H : Hp} {q : Addr} {r : List Int} : ∀ {ts rs}, RowsAt H ts rs → H q = some (.tup (r.map V.int)) → RowsAt H (ts ++ [q]) (rs ++ [r])
  | _, _, .nil, h => .cons h .nil
  | _, _, .cons h' r', h => .cons h' (RowsAt.snoc r' h)
theorem RowsAt.len {H : Hp} : ∀ {ts rs}, RowsAt H ts rs → ts.length = rs.length
  | _, _, .nil => rfl
  | _, _, .cons _ r => by rw [List.length_cons, List.length_cons, RowsAt.len r]
theorem RowsAt.get {H : Hp} : ∀ {ts rs} {i : Nat} {q : Addr}, RowsAt H ts rs → ts[i]? = some q → ∃ r, rs[i]? = some r ∧ H q = some (.tup (r.map V.int))
  | _, _, _, _, .nil, e => by cases e
  | _, _, 0, _, .cons h _, e => by cases e; exact ⟨_, rfl, h⟩
  | _, _, i + 1, _, .cons _ r, e => RowsAt.get (i := i) r e
theorem ref_item {ts : List Addr} {i : Nat} {y : V} (h : (ts.map V.ref)[i]? = some y) : ∃ q : Addr, y = V.ref q ∧ ts[i]? = some q := by
  rw [List.getElem?_map] at h
  cases e : ts[i]? with
  | none => rw [e] at h; cases h
  | some x => rw [e] at h; exact ⟨x, (Option.some.inj h).symm, rfl⟩
/-! rounding -/
theorem rdn_spec {x s : Int} (hs : 0 < s) : s ∣ x - x % s ∧ ∀ m, s ∣ m → (m ≤ x - x % s ↔ m ≤ x) := by
  have e : x - x % s = s * (x / s) := by have := Int.mul_ediv_add_emod x s; omega
  rw [e]
  refine ⟨⟨_, rfl⟩, ?_⟩
  rintro m ⟨k, rfl⟩
  rw [Int.mul_le_mul_left hs, Int.le_ediv_iff_mul_le hs, Int.mul_comm]
theorem rup_spec {x s : Int} (hs : 0 < s) : s ∣ x + (-x) % s ∧ ∀ m, s ∣ m → (x + (-x) % s ≤ m ↔ x ≤ m) := by
  obtain ⟨h1, h2⟩ := rdn_spec (x := -x) hs
  have e : x + (-x) % s = -(-x - (-x) % s) := by omega
  rw [e]
  refine ⟨Int.dvd_neg.mpr h1, fun m hm => ?_⟩
  have := h2 (-m) (Int.dvd_neg.mpr hm)
  omega
/-! rows of equal steps -/
def rw3 (r : Nat × Nat × Nat) : List Int := [((r.1 : Nat) : Int), ((r.2.1 : Nat) : Int), ((r.2.2 : Nat) : Int)]
def els (a l s : Nat) : List Nat := (List.range ((l - a) / s + 1)).map fun i => a + i * s
structure Rok1 (a l s : Nat) : Prop where
  s0 : 0 < s
  s2 : s < 2 ^ 200
  al : a ≤ l
  sa : s ∣ a
  sl : s ∣ l
theorem els_mem {a l s n : Nat} (h : Rok1 a l s) : n ∈ els a l s ↔ a ≤ n ∧ n ≤ l ∧ s ∣ n := by
  unfold els
  rw [List.mem_map]
  obtain ⟨h0, _, h1, ⟨x, rfl⟩, ⟨y, rfl⟩⟩ := h
  constructor
  · rintro ⟨i, hi, rfl⟩
    have hi := List.mem_range.mp hi
    rw [← Nat.mul_sub, Nat.mul_div_cancel_left _ h0] at hi
    have : x ≤ y := Nat.le_of_mul_le_mul_left h1 h0
    have h2 : x + i ≤ y := by omega
    have h3 : s * (x + i) ≤ s * y := Nat.mul_le_mul_left _ h2
    rw [Nat.mul_add] at h3
    rw [Nat.mul_comm i s]
    exact ⟨by omega, by omega, ⟨x + i, by rw [Nat.mul_add]⟩⟩
  · rintro ⟨h2, h3, ⟨z, rfl⟩⟩
    have h4 : x ≤ z := Nat.le_of_mul_le_mul_left h2 h0
    have h5 : z ≤ y := Nat.le_of_mul_le_mul_left h3 h0
    refine ⟨z - x, List.mem_range.mpr ?_, ?_⟩
    · rw [← Nat.mul_sub, Nat.mul_div_cancel_left _ h0]; omega
    · rw [Nat.mul_comm (z - x) s, ← Nat.mul_add]; congr 1; omega
theorem els_asc {a l s : Nat} (h : 0 < s) : (els a l s).Pairwise (· < ·) := by
  unfold els
  rw [List.pairwise_map]
  exact List.pairwise_lt_range.imp fun q => Nat.add_lt_add_left (Nat.mul_lt_mul_of_pos_right q h) a
theorem els_len (a l s : Nat) : (els a l s).length = (l - a) / s + 1 := by unfold els; rw [List.length_map, List.length_range]
theorem els_hd {a l s : Nat} : (els a l s).head? = some a := by
  unfold els
  rw [List.range_succ_eq_map, List.map_cons]
  simp
theorem els_last {a l s : Nat} (h : Rok1 a l s) : (els a l s).getLast? = some l := by
  unfold els
  rw [List.range_succ, List.map_append, List.map_cons, List.map_nil, List.getLast?_append]
  obtain ⟨h0, _, h1, ⟨x, rfl⟩, ⟨y, rfl⟩⟩ := h
  rw [← Nat.mul_sub, Nat.mul_div_cancel_left _ h0]
  have : x ≤ y := Nat.le_of_mul_le_mul_left h1 h0
  simp only [List.getLast?_singleton, Option.or_some, Option.getD_none, Option.some.injEq]
  simp
  rw [Nat.mul_comm (y - x) s, ← Nat.mul_add]
  congr 1
  omega
def ela (R : List (Nat × Nat × Nat)) : List Nat := R.flatMap fun r => els r.1 r.2.1 r.2.2
def Rok (R : List (Nat × Nat × Nat)) : Prop := ∀ r ∈ R, Rok1 r.1 r.2.1 r.2.2
theorem ela_nil : ela [] = [] := rfl
theorem ela_cons (r : Nat × Nat × Nat) (R : List (Nat × Nat × Nat)) : ela (r :: R) = els r.1 r.2.1 r.2.2 ++ ela R := by unfold ela; rw [List.flatMap_cons]
theorem ela_snoc (r : Nat × Nat × Nat) (R : List (Nat × Nat × Nat)) : ela (R ++ [r]) = ela R ++ els r.1 r.2.1 r.2.2 := by unfold ela; rw [List.flatMap_append, List.flatMap_cons, List.flatMap_nil, List.append_nil]
theorem rok_snoc {r : Nat × Nat × Nat} {R : List (Nat × Nat × Nat)} (h : Rok R) (h1 : Rok1 r.1 r.2.1 r.2.2) : Rok (R ++ [r]) := fun x hx => by
  rcases List.mem_append.mp hx with q | q
  · exact h x q
  · rw [List.mem_singleton.mp q]; exact h1
theorem rok_nil : Rok [] := fun x hx => by cases hx
theorem rok_rev {R : List (Nat × Nat × Nat)} (h : Rok R) : Rok R.reverse := fun x hx => h x (List.mem_reverse.mp hx)
/-! the kept numbers are rows -/
def aft (b f T : Nat) : Nat → Nat
  | 0 => T + 1
  | j + 1 => T - f * b ^ j
theorem aft_le {b f T : Nat} (hb : 2 ≤ b) (hf : 1 ≤ f) : ∀ j, 0 < aft b f T j → aft b f T (j + 1) < aft b f T j
  | 0, h => by
    show T - f * b ^ 0 < T + 1
    omega
  | j + 1, h => by
    show T - f * b ^ (j + 1) < T - f * b ^ j
    have h : 0 < T - f * b ^ j := h
    have h1 : f * b ^ j < f * b ^ (j + 1) := Nat.mul_lt_mul_of_pos_left (Nat.pow_lt_pow_right (by omega) (Nat.lt_succ_self j)) (by omega)
    omega
theorem aft_T {b f T j : Nat} : aft b f T j ≤ T + 1 := by
  cases j with
  | zero => exact Nat.le_refl _
  | succ j => show T - f * b ^ j ≤ T + 1; omega
theorem aft_pow {b f T : Nat} (hb : 2 ≤ b) (hb2 : b ≤ 1000) (hf : 1 ≤ f) (hT : T < 2 ^ 150) : ∀ j, 0 < aft b f T j → b ^ j < 2 ^ 160 ∧ j ≤ 150
  | 0, _ => ⟨by rw [Nat.pow_zero]; decide, by omega⟩
  | j + 1, h => by
    have h : 0 < T - f * b ^ j := h
    have h1 : 1 * b ^ j ≤ f * b ^ j := Nat.mul_le_mul_right _ hf
    have h2 : b ^ j < 2 ^ 150 := by omega
    constructor
    · rw [Nat.pow_succ]
      have h3 : b ^ j * b ≤ b ^ j * 1000 := Nat.mul_le_mul_left _ hb2
      omega
    · have h4 : 2 ^ j ≤ b ^ j := Nat.pow_le_pow_left hb _
      have h5 : 2 ^ j < 2 ^ 150 := by omega
      have := (Nat.pow_lt_pow_iff_right (a := 2) (by omega)).mp h5
      omega
theorem aft_kpt {b f T j n : Nat} (hb : 2 ≤ b) (hf : 1 ≤ f) (h1 : aft b f T (j + 1) ≤ n) (h2 : n < aft b f T j) : kpt b f n T = true ↔ b ^ j ∣ n := by
  have h1 : T - f * b ^ j ≤ n := h1
  constructor
  · intro hk
    rcases Nat.eq_zero_or_pos n with e | e
    · subst e; exact Nat.dvd_zero _
    cases j with
    | zero => rw [Nat.pow_zero]; exact Nat.one_dvd _
    | succ i =>
      have h2 : n < T - f * b ^ i := h2
      obtain ⟨_, h3 | h3⟩ := of_decide_eq_true hk
      · omega
      · have h4 : f * b ^ i < f * lp b n := by omega
        have h5 : b ^ i < b ^ lev b n := Nat.lt_of_mul_lt_mul_left h4
        have h6 := (Nat.pow_lt_pow_iff_right (show 1 < b by omega)).mp h5
        exact Nat.dvd_trans (pow_dvd_le h6) (lp_dvd hb e)
  · intro hd
    rcases Nat.eq_zero_or_pos n with e | e
    · subst e; exact kpt_zero
    · have h3 := lev_ge hb e hd
      have h4 : b ^ j ≤ lp b n := Nat.pow_le_pow_right (by omega) h3
      have h5 : f * b ^ j ≤ f * lp b n := Nat.mul_le_mul_left _ h4
      have h6 : n < T + 1 := Nat.lt_of_lt_of_le h2 aft_T
      exact decide_eq_true ⟨by omega, .inr (by omega)⟩
/-- the kept numbers from m on -/
def alf (b f T m : Nat) : List Nat := (alv b f T (T + 1)).filter fun n => decide (m ≤ n)
theorem alf_zero (b f T : Nat) : alf b f T 0 = alv b f T (T + 1) := by
  unfold alf
  rw [List.filter_eq_self.mpr]
  intro n _
  exact decide_eq_true (Nat.zero_le n)
theorem alf_top (b f T : Nat) : alf b f T (T + 1) = [] := by
  unfold alf
  rw [List.filter_eq_nil_iff]
  intro n hn
  have := (alv_mem.mp hn).1
  intro h
  have := of_decide_eq_true h
  omega
theorem alf_mem {b f T m n : Nat} : n ∈ alf b f T m ↔ m ≤ n ∧ kpt b f n T = true := by
  unfold alf
  rw [List.mem_filter, alv_mem, decide_eq_true_iff]
  constructor
  · rintro ⟨⟨_, h⟩, h1⟩; exact ⟨h1, h⟩
  · rintro ⟨h1, h⟩
    have := (of_decide_eq_true h).1
    exact ⟨⟨by omega, h⟩, h1⟩
theorem alf_asc (b f T m : Nat) : (alf b f T m).Pairwise (· < ·) := List.Pairwise.filter _ (rng_asc _ _)
theorem row_in {b f T j : Nat} (hb : 2 ≤ b) (hb2 : b ≤ 1000) (hf : 1 ≤ f) (hT : T < 2 ^ 150) (h0 : 0 < aft b f T j) {A L : Int} (hA : ((b ^ j : Nat) : Int) ∣ A ∧ ∀ m : Int, ((b ^ j : Nat) : Int) ∣ m → (A ≤ m ↔ ((aft b f T (j + 1) : Nat) : Int) ≤ m))
    (hL : ((b ^ j : Nat) : Int) ∣ L ∧ ∀ m : Int, ((b ^ j : Nat) : Int) ∣ m → (m ≤ L ↔ m ≤ ((aft b f T j : Nat) : Int) - 1)) :
    (A ≤ L → ∃ a l : Nat, A = (a : Int) ∧ L = (l : Int) ∧ Rok1 a l (b ^ j) ∧ alf b f T (aft b f T (j + 1)) = els a l (b ^ j) ++ alf b f T (aft b f T j)) ∧ (¬ A ≤ L → alf b f T (aft b f T (j + 1)) = alf b f T (aft b f T j)) := by
  have hlt := aft_le hb hf j h0
  constructor
  · intro hle
    have hA0 : ((aft b f T (j + 1) : Nat) : Int) ≤ A := (hA.2 A hA.1).mp (Int.le_refl _)
    obtain ⟨a, rfl⟩ : ∃ a : Nat, A = (a : Int) := ⟨A.toNat, by omega⟩
    obtain ⟨l, rfl⟩ : ∃ l : Nat, L = (l : Int) := ⟨L.toNat, by omega⟩
    have hr : Rok1 a l (b ^ j) := ⟨pow_pos' hb, Nat.lt_trans (aft_pow hb hb2 hf hT j h0).1 (by decide), by omega, Int.natCast_dvd_natCast.mp hA.1, Int.natCast_dvd_natCast.mp hL.1⟩
    refine ⟨a, l, rfl, rfl, hr, ?_⟩
    have hLl := (hL.2 l hL.1).mp (Int.le_refl _)
    refine asc_ext (alf_asc _ _ _ _) (List.pairwise_append.mpr ⟨els_asc hr.s0, alf_asc _ _ _ _, fun x hx y hy => ?_⟩) fun n => ?_
    · have h1 := ((els_mem hr).mp hx).2.1
      have h2 := (alf_mem.mp hy).1
      omega
    · rw [List.mem_append, els_mem hr, alf_mem, alf_mem]
      constructor
      · rintro ⟨h1, h2⟩
        rcases Nat.lt_or_ge n (aft b f T j) with q | q
        · left
          have hd := (aft_kpt hb hf h1 q).mp h2
          have hd' : ((b ^ j : Nat) : Int) ∣ (n : Int) := Int.natCast_dvd_natCast.mpr hd
          have h3 := (hA.2 n hd').mpr (by omega)
          have h4 := (hL.2 n hd').mpr (by omega)
          exact ⟨by omega, by omega, hd⟩
        · exact .inr ⟨q, h2⟩
      · rintro (⟨h1, h2, h3⟩ | ⟨h1, h2⟩)
        · have hd' : ((b ^ j : Nat) : Int) ∣ (n : Int) := Int.natCast_dvd_natCast.mpr h3
          have h4 := (hA.2 n hd').mp (by omega)
          have h5 := (hL.2 n hd').mp (by omega)
          exact ⟨by omega, (aft_kpt hb hf (by omega) (by omega)).mpr h3⟩
        · exact ⟨by omega, h2⟩
  · intro hle
    refine asc_ext (alf_asc _ _ _ _) (alf_asc _ _ _ _) fun n => ?_
    rw [alf_mem, alf_mem]
    constructor
    · rintro ⟨h1, h2⟩
      rcases Nat.lt_or_ge n (aft b f T j) with q | q
      · exfalso
        have hd := (aft_kpt hb hf h1 q).mp h2
        have hd' : ((b ^ j : Nat) : Int) ∣ (n : Int) := Int.natCast_dvd_natCast.mpr hd
        have h3 := (hA.2 n hd').mpr (by omega)
        have h4 := (hL.2 n hd').mpr (by omega)
        omega
      · exact ⟨q, h2⟩
    · rintro ⟨h1, h2⟩; exact ⟨by omega, h2⟩
/-! rows cut at both ends -/
def inR (lo h : Nat) (n : Nat) : Bool := decide (lo ≤ n ∧ n < h)
theorem cut_in {a l s lo h : Nat} (hr : Rok1 a l s) {U G : Int} (hU : (s : Int) ∣ U ∧ ∀ m : Int, (s : Int) ∣ m → (U ≤ m ↔ (lo : Int) ≤ m)) (hG : (s : Int) ∣ G ∧ ∀ m : Int, (s : Int) ∣ m → (m ≤ G ↔ m ≤ (h : Int) - 1)) {A L : Int} (hA : A = if U > (a : Int) then U else (a : Int)) (hL : L = if G < (l : Int) then G else (l : Int)) :
    (A ≤ L → ∃ a' l' : Nat, A = (a' : Int) ∧ L = (l' : Int) ∧ Rok1 a' l' s ∧ els a' l' s = (els a l s).filter (inR lo h)) ∧ (¬ A ≤ L → (els a l s).filter (inR lo h) = []) := by
  have dA : (s : Int) ∣ A := by rw [hA]; split; exact hU.1; exact Int.natCast_dvd_natCast.mpr hr.sa
  have dL : (s : Int) ∣ L := by rw [hL]; split; exact hG.1; exact Int.natCast_dvd_natCast.mpr hr.sl
  have a1 : (a : Int) ≤ A := by rw [hA]; split <;> omega
  have l1 : L ≤ (l : Int) := by rw [hL]; split <;> omega
  have key : ∀ n : Nat, s ∣ n → ((A ≤ (n : Int) ∧ (n : Int) ≤ L) ↔ (a ≤ n ∧ n ≤ l) ∧ (lo ≤ n ∧ n < h)) := by
    intro n hn
    have hn' : (s : Int) ∣ (n : Int) := Int.natCast_dvd_natCast.mpr hn
    have h1 := hU.2 n hn'
    have h2 := hG.2 n hn'
    have e1 : A ≤ (n : Int) ↔ U ≤ (n : Int) ∧ (a : Int) ≤ (n : Int) := by rw [hA]; split <;> omega
    have e2 : (n : Int) ≤ L ↔ (n : Int) ≤ G ∧ (n : Int) ≤ (l : Int) := by rw [hL]; split <;> omega
    rw [e1, e2, h1, h2]
    omega
  constructor
  · intro hle
    obtain ⟨a', rfl⟩ : ∃ a' : Nat, A = (a' : Int) := ⟨A.toNat, by omega⟩
    obtain ⟨l', rfl⟩ : ∃ l' : Nat, L = (l' : Int) := ⟨L.toNat, by omega⟩
    have hr' : Rok1 a' l' s := ⟨hr.s0, hr.s2, by omega, Int.natCast_dvd_natCast.mp dA, Int.natCast_dvd_natCast.mp dL⟩
    refine ⟨a', l', rfl, rfl, hr', ?_⟩
    refine asc_ext (els_asc hr.s0) (List.Pairwise.filter _ (els_asc hr.s0)) fun n => ?_
    rw [List.mem_filter, els_mem hr', els_mem hr]
    unfold inR
    rw [decide_eq_true_iff]
    constructor
    · rintro ⟨h1, h2, h3⟩
      have := (key n h3).mp ⟨by omega, by omega⟩
      exact ⟨⟨by omega, by omega, h3⟩, by omega⟩
    · rintro ⟨⟨h1, h2, h3⟩, h4⟩
      have := (key n h3).mpr ⟨⟨h1, h2⟩, h4⟩
      exact ⟨by omega, by omega, h3⟩
  · intro hle
    rw [List.filter_eq_nil_iff]
    intro n hn z
    obtain ⟨h1, h2, h3⟩ := (els_mem hr).mp hn
    have h4 := of_decide_eq_true z
    have := (key n h3).mpr ⟨⟨h1, h2⟩, h4⟩
    omega
theorem rnk_cut {b f T n : Nat} : ((alv b f T (T + 1)).filter (inR 0 n)).length = rnk b f T n := by
  unfold rnk
  congr 1
  refine asc_ext (List.Pairwise.filter _ (rng_asc _ _)) (rng_asc _ _) fun x => ?_
  rw [List.mem_filter]
  show (x ∈ alv b f T (T + 1) ∧ inR 0 n x = true) ↔ x ∈ alv b f T n
  rw [alv_mem, alv_mem]
  unfold inR
  rw [decide_eq_true_iff]
  constructor
  · rintro ⟨⟨h1, h2⟩, h3⟩; exact ⟨h3.2, h2⟩
  · rintro ⟨h1, h2⟩
    have := (of_decide_eq_true h2).1
    exact ⟨⟨by omega, h2⟩, by omega, h1⟩
/-! the number with an index -/
theorem rnk_at {b f T i m : Nat} (h : (alv b f T (T + 1))[i]? = some m) : kpt b f m T = true ∧ rnk b f T m = i := by
  have hm : m ∈ alv b f T (T + 1) := List.mem_of_getElem? h
  have hk := (alv_mem.mp hm).2
  refine ⟨hk, ?_⟩
  have e : (alv b f T (T + 1)).take i = alv b f T m := by
    have hlt := (List.getElem?_eq_some_iff.mp h).1
    have hasc : (alv b f T (T + 1)).Pairwise (· < ·) := rng_asc _ _
    have hsp : alv b f T (T + 1) = (alv b f T (T + 1)).take i ++ m :: (alv b f T (T + 1)).drop (i + 1) := by
      conv => lhs; rw [← List.take_append_drop i (alv b f T (T + 1))]
      congr 1
      rw [List.drop_eq_getElem_cons hlt]
      congr 1
      exact (List.getElem?_eq_some_iff.mp h).2
    have hp := hasc
    rw [hsp] at hp
    obtain ⟨p1, p2, p3⟩ := List.pairwise_append.mp hp
    refine asc_ext p1 (rng_asc _ _) fun x => ?_
    show _ ↔ x ∈ alv b f T m
    rw [alv_mem]
    constructor
    · intro hx
      have h1 : x ∈ alv b f T (T + 1) := List.mem_of_mem_take hx
      exact ⟨p3 x hx m List.mem_cons_self, (alv_mem.mp h1).2⟩
    · rintro ⟨h1, h2⟩
      have h3 : x ∈ alv b f T (T + 1) := alv_mem.mpr ⟨by have := (of_decide_eq_true h2).1; omega, h2⟩
      rw [hsp] at h3
      rcases List.mem_append.mp h3 with q | q
      · exact q
      · rcases List.mem_cons.mp q with q | q
        · omega
        · have := (List.pairwise_cons.mp p2).1 x q
          omega
  unfold rnk
  rw [← e, List.length_take]
  have hlt := (List.getElem?_eq_some_iff.mp h).1
  omega
/-- the numbers of the first i rows -/
def cnR (R : List (Nat × Nat × Nat)) : List Nat := R.map fun r => (r.2.1 - r.1) / r.2.2 + 1
theorem cnR_sum : ∀ R : List (Nat × Nat × Nat), (cnR R).sum = (ela R).length
  | [] => rfl
  | r :: R => by
    rw [ela_cons, List.length_append, els_len, ← cnR_sum R]
    unfold cnR
    rw [List.map_cons, List.sum_cons]
theorem rw3_item {R : List (Nat × Nat × Nat)} {i : Nat} {r : List Int} (h : (R.map rw3)[i]? = some r) : ∃ a l s : Nat, R[i]? = some (a, l, s) ∧ r = [(a : Int), (l : Int), (s : Int)] := by
  rw [List.getElem?_map] at h
  cases e : R[i]? with
  | none => rw [e] at h; cases h
  | some x =>
    obtain ⟨a, l, s⟩ := x
    rw [e] at h
    exact ⟨a, l, s, rfl, (Option.some.inj h).symm⟩
theorem take_s {α : Type} {R : List α} {i : Nat} {r : α} (h : R[i]? = some r) : R.take (i + 1) = R.take i ++ [r] := by
  rw [List.take_succ, h]
  rfl
/-! promises -/
def sp_rdn : Sp := fun vs H Q _ => ∃ n s : Int, vs = [.int n, .int s] ∧ 0 < s ∧ Q (.int (n - n % s)) H
def sp_rup : Sp := fun vs H Q _ => ∃ n s : Int, vs = [.int n, .int s] ∧ 0 < s ∧ Q (.int (n + (-n) % s)) H
def sp_krows (C : Addr) : Sp := fun vs H Q _ => ∃ (p : Addr) (b f t : Nat), vs = [.ref p, .int t] ∧ Sch C H p b f ∧ t < 2 ^ 150 ∧ ∀ D ts R H', Same H H' → H D = none → H' D = some (.lst (ts.map V.ref)) → RowsAt H' ts (R.map rw3) → Rok R → R.length ≤ 200 → ela R = alv b f t (t + 1) → Q (.ref D) H'
def sp_cin : Sp := fun vs H Q _ => ∃ (D : Addr) (ts : List Addr) (R : List (Nat × Nat × Nat)), vs = [.ref D] ∧ H D = some (.lst (ts.map V.ref)) ∧ RowsAt H ts (R.map rw3) ∧ Rok R ∧ R.length ≤ 200 ∧ ∀ H', Same H H' → Q (.int ((ela R).length : Nat)) H'
def sp_cut : Sp := fun vs H Q _ => ∃ (D : Addr) (ts : List Addr) (R : List (Nat × Nat × Nat)) (lo h : Nat), vs = [.ref D, .int lo, .int ((h : Int) - 1)] ∧ H D = some (.lst (ts.map V.ref)) ∧ RowsAt H ts (R.map rw3) ∧ Rok R ∧ R.length ≤ 200 ∧
  ∀ D' ts' R' H', Same H H' → H D' = none → H' D' = some (.lst (ts'.map V.ref)) → RowsAt H' ts' (R'.map rw3) → Rok R' → R'.length ≤ 200 → ela R' = (ela R).filter (inR lo h) → Q (.ref D') H'
def sp_nat : Sp := fun vs H Q _ => ∃ (D : Addr) (ts : List Addr) (R : List (Nat × Nat × Nat)) (i m : Nat), vs = [.ref D, .int i] ∧ H D = some (.lst (ts.map V.ref)) ∧ RowsAt H ts (R.map rw3) ∧ Rok R ∧ R.length ≤ 200 ∧ (ela R)[i]? = some m ∧ i < 2 ^ 40 ∧ ∀ H', Same H H' → Q (.int (m : Nat)) H'
end My

set_option Elab.async false
set_option linter.all false
set_option maxRecDepth 100000
set_option maxHeartbeats 4000000
namespace My
open PySem L2 Mth
abbrev s_round_down : Stmt := top 7
theorem sc_round_down : FnScope ["number", "step"] ["number", "step"] (defScope s_round_down) := ⟨rfl, rfl, rfl, by decide +kernel, rfl, by decide +kernel, by decide +kernel⟩
abbrev s_round_up : Stmt := top 8
theorem sc_round_up : FnScope ["number", "step"] ["number", "step"] (defScope s_round_up) := ⟨rfl, rfl, rfl, by decide +kernel, rfl, by decide +kernel, by decide +kernel⟩
abbrev s_kept_spans : Stmt := top 10
theorem sc_kept_spans : FnScope ["scheme", "time", "spans", "place", "after", "oldest"] ["scheme", "time"] (defScope s_kept_spans) := ⟨rfl, rfl, rfl, by decide +kernel, rfl, by decide +kernel, by decide +kernel⟩
abbrev s_kept_rows : Stmt := top 11
theorem sc_kept_rows : FnScope ["scheme", "time", "rows", "low", "high", "step", "first", "last"] ["scheme", "time"] (defScope s_kept_rows) := ⟨rfl, rfl, rfl, by decide +kernel, rfl, by decide +kernel, by decide +kernel⟩
-- no count_in_rows
abbrev s_cut_rows : Stmt := top 12
theorem sc_cut_rows : FnScope ["rows", "low", "high", "cut", "first", "last", "step", "least", "greatest"] ["rows", "low", "high"] (defScope s_cut_rows) := ⟨rfl, rfl, rfl, by decide +kernel, rfl, by decide +kernel, by decide +kernel⟩
-- no number_at
-- no count_kept
-- no rank
-- no kept_number
-- no previous_kept
-- no next_kept
theorem RowsAt.app {H : Hp} : ∀ {ts rs us ss}, RowsAt H ts rs → RowsAt H us ss → RowsAt H (ts ++ us) (rs ++ ss)
  | _, _, _, _, .nil, h => h
  | _, _, _, _, .cons h' r', h => .cons h' (RowsAt.app r' h)
theorem RowsAt.rev {H : Hp} : ∀ {ts rs}, RowsAt H ts rs → RowsAt H ts.reverse rs.reverse
  | _, _, .nil => .nil
  | _, _, .cons h r => by
    rw [List.reverse_cons, List.reverse_cons]
    exact (RowsAt.rev r).snoc h
theorem RowsAt.lst {H : Hp} {D : Addr} {xs : List V} {o : List V} (hD : H D = some (.lst o)) {ts rs} (h : RowsAt H ts rs) : RowsAt (upd H D (.lst xs)) ts rs := h.mono fun q ys e => by
  rw [upd_ne (ne_of e hD (by intro z; cases z))]
  exact e
/-! spans -/
def spn (b f t j : Nat) : Nat × Nat × Nat := (aft b f t (j + 1), aft b f t j - 1, b ^ j)
def spu (b f t J : Nat) : List (Nat × Nat × Nat) := (List.range J).map (spn b f t)
def spans (b f t J : Nat) : List (Nat × Nat × Nat) := (spu b f t J).reverse
theorem spu_succ (b f t J : Nat) : spu b f t (J + 1) = spu b f t J ++ [spn b f t J] := by
  unfold spu
  rw [List.range_succ, List.map_append]
  rfl
theorem spu_len (b f t J : Nat) : (spu b f t J).length = J := by unfold spu; rw [List.length_map, List.length_range]
theorem spans_len (b f t J : Nat) : (spans b f t J).length = J := by unfold spans; rw [List.length_reverse, spu_len]
theorem spans_get {b f t J i : Nat} {r : Nat × Nat × Nat} (h : (spans b f t J)[i]? = some r) : i < J ∧ r = spn b f t (J - 1 - i) := by
  have hlt : i < J := by have := (List.getElem?_eq_some_iff.mp h).1; rw [spans_len] at this; exact this
  refine ⟨hlt, ?_⟩
  unfold spans at h
  rw [List.getElem?_reverse (by rw [spu_len]; exact hlt), spu_len] at h
  unfold spu at h
  rw [List.getElem?_map, List.getElem?_range (by omega)] at h
  exact (Option.some.inj h).symm
structure Spd (b f t J : Nat) : Prop where
  le : J ≤ 151
  pos : ∀ j, j < J → 0 < aft b f t j
  nul : aft b f t J = 0
def sp_kspans (C : Addr) : Sp := fun vs H Q _ => ∃ (p : Addr) (b f t : Nat), vs = [.ref p, .int t] ∧ Sch C H p b f ∧ t < 2 ^ 150 ∧ ∀ D ts J H', Same H H' → H D = none → H' D = some (.lst (ts.map V.ref)) → RowsAt H' ts ((spans b f t J).map rw3) → Spd b f t J → Q (.ref D) H'
theorem row_in2 {b f T j : Nat} (hb : 2 ≤ b) (hb2 : b ≤ 1000) (hf : 1 ≤ f) (hT : T < 2 ^ 150) (h0 : 0 < aft b f T j) {A L : Int} (hA : ((b ^ j : Nat) : Int) ∣ A ∧ ∀ m : Int, ((b ^ j : Nat) : Int) ∣ m → (A ≤ m ↔ ((aft b f T (j + 1) : Nat) : Int) ≤ m))
    (hL : ((b ^ j : Nat) : Int) ∣ L ∧ ∀ m : Int, ((b ^ j : Nat) : Int) ∣ m → (m ≤ L ↔ m ≤ ((aft b f T j : Nat) : Int) - 1)) :
    (A ≤ L → ∃ a l : Nat, A = (a : Int) ∧ L = (l : Int) ∧ Rok1 a l (b ^ j) ∧ alv b f T (aft b f T j) = alv b f T (aft b f T (j + 1)) ++ els a l (b ^ j)) ∧ (¬ A ≤ L → alv b f T (aft b f T j) = alv b f T (aft b f T (j + 1))) := by
  obtain ⟨r1, r2⟩ := row_in hb hb2 hf hT h0 hA hL
  have hlt := aft_le hb hf j h0
  constructor
  · intro q
    obtain ⟨a, l, rfl, rfl, hr, e⟩ := r1 q
    refine ⟨a, l, rfl, rfl, hr, ?_⟩
    have hLl := (hL.2 l hL.1).mp (Int.le_refl _)
    have hin : ∀ n, n ∈ els a l (b ^ j) → aft b f T (j + 1) ≤ n ∧ kpt b f n T = true := fun n hn => alf_mem.mp (by rw [e]; exact List.mem_append.mpr (.inl hn))
    refine asc_ext (rng_asc _ _) (List.pairwise_append.mpr ⟨rng_asc _ _, els_asc hr.s0, fun x hx y hy => ?_⟩) fun n => ?_
    · have h1 := (alv_mem.mp hx).1
      have h2 := (hin y hy).1
      omega
    · show n ∈ alv b f T (aft b f T j) ↔ n ∈ alv b f T (aft b f T (j + 1)) ++ _
      rw [List.mem_append, alv_mem, alv_mem]
      constructor
      · rintro ⟨h1, h2⟩
        rcases Nat.lt_or_ge n (aft b f T (j + 1)) with z | z
        · exact .inl ⟨z, h2⟩
        · have h3 : n ∈ alf b f T (aft b f T (j + 1)) := alf_mem.mpr ⟨z, h2⟩
          rw [e] at h3
          rcases List.mem_append.mp h3 with y | y
          · exact .inr y
          · have := (alf_mem.mp y).1
            omega
      · rintro (⟨h1, h2⟩ | h)
        · exact ⟨by omega, h2⟩
        · have h3 := ((els_mem hr).mp h).2.1
          exact ⟨by omega, (hin n h).2⟩
  · intro q
    have e := r2 q
    refine asc_ext (rng_asc _ _) (rng_asc _ _) fun n => ?_
    show n ∈ alv b f T (aft b f T j) ↔ n ∈ alv b f T (aft b f T (j + 1))
    rw [alv_mem, alv_mem]
    constructor
    · rintro ⟨h1, h2⟩
      refine ⟨Nat.lt_of_not_le fun z => ?_, h2⟩
      have h3 : n ∈ alf b f T (aft b f T (j + 1)) := alf_mem.mpr ⟨z, h2⟩
      rw [e] at h3
      have := (alf_mem.mp h3).1
      omega
    · rintro ⟨h1, h2⟩
      exact ⟨by omega, h2⟩
section
variable {P : Program} {w : World} {K : PySem.W.Frag} {mg : Str → Option Value} {base : Heap}
theorem ok_rdn {f C : Addr} {fd : FuncData} (F : Fun K "round_down" "round_down" s_round_down f fd) (T : Txt K mg C) : FnOk P w K mg base CX0 1 f fd ["number", "step"] sp_rdn := by
  refine F.ok sc_round_down (fun vs H Q E h => ?_) (fun cdv A outer s H vs Q E hr h => ?_)
  · obtain ⟨n, s, rfl, _⟩ := h
    rfl
  · obtain ⟨n, s, rfl, hs, k⟩ := h
    refine ⟨_, (pss_one (ps_ret (pe_op op_sub (pv 0) (pe_op op_mod (pv 0) (pv 1))))), ?_⟩
    exact ⟨_, rfl, _, rfl, _, rfl, _, _, rfl, rfl, hs, _, _, rfl, rfl, k⟩
theorem ok_rup {f C : Addr} {fd : FuncData} (F : Fun K "round_up" "round_up" s_round_up f fd) (T : Txt K mg C) : FnOk P w K mg base CX0 1 f fd ["number", "step"] sp_rup := by
  refine F.ok sc_round_up (fun vs H Q E h => ?_) (fun cdv A outer s H vs Q E hr h => ?_)
  · obtain ⟨n, s, rfl, _⟩ := h
    rfl
  · obtain ⟨n, s, rfl, hs, k⟩ := h
    refine ⟨_, (pss_one (ps_ret (pe_op op_add (pv 0) (pe_op op_mod (pe_un un_neg (pv 0)) (pv 1))))), ?_⟩
    exact ⟨_, rfl, _, rfl, _, rfl, _, rfl, _, _, rfl, rfl, hs, _, _, rfl, rfl, k⟩
theorem ok_kspans {f C : Addr} {fd : FuncData} (F : Fun K "kept_spans" "kept_spans" s_kept_spans f fd) (T : Txt K mg C) (c_Scheme_base : CalM P w K mg base 1 C "base" ["self"] (sp_base C)) (c_Scheme_factor : CalM P w K mg base 1 C "factor" ["self"] (sp_factor C)) : FnOk P w K mg base CX0 2 f fd ["scheme", "time"] (sp_kspans C) := by
  refine F.ok sc_kept_spans (fun vs H Q E h => ?_) (fun cdv A outer s H vs Q E hr h => ?_)
  · obtain ⟨p, b, f, t, rfl, _⟩ := h
    rfl
  · obtain ⟨p, b, f, t, rfl, S, ht, k⟩ := h
    obtain ⟨⟨dx, hp⟩, hb, hb2, hf, hf2⟩ := id S
    refine ⟨_, (pss_cons (ps_set (i := 2) sc_kept_spans.nd rfl (Or.inl rfl) (pe_lst pa_nil))
      (pss_cons (ps_set (i := 3) sc_kept_spans.nd rfl (Or.inl rfl) pe_int)
      (pss_cons (ps_set (i := 4) sc_kept_spans.nd rfl (Or.inl rfl) (pe_op op_add (pv 1) pe_int))
      (pss_cons (ps_while PassesOwn.never (pt_cmpR op_gt (pv 4) pe_int (nomark _)) (pss_cons (ps_set (i := 5) sc_kept_spans.nd rfl (Or.inl rfl) (pe_callB (call_max2 rfl) (by rfl) T.b_max (by decide +kernel) (pa_cons pe_int (pa_cons (pe_op op_sub (pv 1) (pe_op op_mul (pe_methF0 c_Scheme_factor (hr.mono (by decide)) (pv 0)) (pv 3))) pa_nil))))
      (pss_cons (ps_expr (pe_bm PySem.F.plainAttrs_list PySem.F.slot_list_append PySem.F.type_list_append mt_append (pv 2) (pa_cons (pe_tup (pa_cons (pv 5) (pa_cons (pe_op op_sub (pv 4) pe_int) (pa_cons (pv 3) pa_nil)))) pa_nil)))
      (pss_cons (ps_set (i := 4) sc_kept_spans.nd rfl (Or.inl rfl) (pv 5))
      (pss_one (ps_aug (i := 3) sc_kept_spans.nd rfl (Or.inl rfl) (pe_methF0 c_Scheme_base (hr.mono (by decide)) (pv 0)) iop_mul))))))
      (pss_cons (ps_expr (pe_bm0 PySem.F.plainAttrs_list PySem.F.slot_list_reverse PySem.F.type_list_reverse mt_reverse (pv 2)))
      (pss_one (ps_ret (pv 2)))))))), ?_⟩
    refine ⟨by show 0 ≤ sizeLine; decide, fun D hD => ?_⟩
    refine ⟨_, rfl, _, _, rfl, rfl, ?_⟩
    refine ⟨fun m σ H' => ∃ (j : Nat) (c5 : Option V) (ts : List Addr), σ = [some (.ref p), some (.int t), some (.ref D), some (.int ((b ^ j : Nat) : Int)), some (.int ((aft b f t j : Nat) : Int)), c5] ∧ m = aft b f t j ∧ Same H H' ∧ H' D = some (.lst (ts.map V.ref)) ∧ RowsAt H' ts ((spu b f t j).map rw3) ∧ (∀ i, i < j → 0 < aft b f t i) ∧ j ≤ 151, ⟨t + 1, 0, none, [], ?_, rfl, Same.upd hD, upd_same, .nil, fun i hi => by omega, by omega⟩, ?_⟩
    · rw [Nat.pow_zero]
      show _ = [some (V.ref p), some (V.int t), some (V.ref D), some (V.int 1), some (V.int ((t + 1 : Nat) : Int)), none]
      rw [Int.natCast_add]
      rfl
    rintro m σ H1 ⟨j, c5, ts, rfl, rfl, s1, hD1, hR, hpos, hj⟩
    have hu : 0 < b ^ j := pow_pos' hb
    refine ⟨_, rfl, _, _, rfl, rfl, _, rfl, ?_⟩
    refine ifD (fun q => ?_) (fun q => ?_)
    · have h0 : 0 < aft b f t j := by have q : ((aft b f t j : Nat) : Int) > 0 := q; omega
      obtain ⟨hpw, hj2⟩ := aft_pow hb hb2 hf ht j h0
      have S1 := S.same s1
      obtain ⟨⟨dx1, hp1⟩, _⟩ := id S1
      refine ⟨_, fun σ' H'' h => h, ?_⟩
      refine ⟨_, rfl, _, rfl, p, dx1, _, rfl, hp1, flds_no _ _ (by decide +kernel) (by decide +kernel), p, b, f, rfl, S1, _, rfl, _, _, rfl, rfl, .inl ⟨by omega, by omega⟩, _, _, rfl, rfl, _, _, rfl, ?_⟩
      have e5 : (if (t : Int) - (f : Int) * ((b ^ j : Nat) : Int) > 0 then (t : Int) - (f : Int) * ((b ^ j : Nat) : Int) else 0) = ((aft b f t (j + 1) : Nat) : Int) := by
        rw [← Int.natCast_mul]
        show _ = ((t - f * b ^ j : Nat) : Int)
        split <;> omega
      rw [e5]
      have hlt := aft_le hb hf j h0
      refine ⟨_, rfl, .inl ⟨rfl, _, SqL.of hD1⟩, _, rfl, _, rfl, _, _, rfl, rfl, _, rfl, by show 3 ≤ sizeLine; decide, fun q hq => ?_⟩
      have e6 : ((aft b f t j : Nat) : Int) - 1 = ((aft b f t j - 1 : Nat) : Int) := by omega
      have hqD : D ≠ q := ne_of_none hD1 hq
      have hD2 : (upd H1 q (.tup [.int ((aft b f t (j + 1) : Nat) : Int), .int (((aft b f t j : Nat) : Int) - 1), .int ((b ^ j : Nat) : Int)])) D = some (.lst (ts.map V.ref)) := by rw [upd_ne hqD]; exact hD1
      refine ⟨D, _, _, rfl, rfl, hD2, by rw [List.length_map, hR.len, List.length_map, spu_len]; exact Nat.lt_of_le_of_lt hj (by decide), ?_⟩
      have s3 : Same H1 (upd H1 q (.tup [.int ((aft b f t (j + 1) : Nat) : Int), .int (((aft b f t j : Nat) : Int) - 1), .int ((b ^ j : Nat) : Int)])) := Same.upd hq
      have s4 : Same H (upd (upd H1 q (.tup [.int ((aft b f t (j + 1) : Nat) : Int), .int (((aft b f t j : Nat) : Int) - 1), .int ((b ^ j : Nat) : Int)])) D (.lst (ts.map V.ref ++ [V.ref q]))) := fun x o e => by
        rw [upd_ne (ne_of_none e hD)]
        exact s3 _ _ (s1 _ _ e)
      have S4 := S.same s4
      obtain ⟨⟨dx4, hp4⟩, _⟩ := id S4
      refine ⟨_, rfl, _, rfl, _, rfl, p, dx4, _, rfl, hp4, flds_no _ _ (by decide +kernel) (by decide +kernel), p, b, f, rfl, S4, _, _, rfl, rfl, .inr ⟨by omega, by omega⟩, ?_⟩
      refine ⟨aft b f t (j + 1), hlt, j + 1, some (.int ((aft b f t (j + 1) : Nat) : Int)), ts ++ [q], ?_, rfl, s4, ?_, ?_, ?_, by omega⟩
      · rw [Nat.pow_succ, Int.natCast_mul]
        rfl
      · rw [upd_same, List.map_append]
        rfl
      · rw [spu_succ, List.map_append]
        refine RowsAt.lst hD2 ((hR.same s3).snoc ?_)
        rw [upd_same, e6]
        rfl
      · intro i hi
        rcases Nat.lt_or_ge i j with z | z
        · exact hpos i z
        · rw [show i = j by omega]; exact h0
    · have h0 : aft b f t j = 0 := by have q : ¬ ((aft b f t j : Nat) : Int) > 0 := q; omega
      refine ⟨_, rfl, .inl ⟨rfl, _, SqL.of hD1⟩, D, _, rfl, rfl, hD1, ?_⟩
      refine ⟨_, rfl, ?_⟩
      refine k D ts.reverse j _ ?_ hD ?_ ?_ ⟨hj, hpos, h0⟩
      · intro x o e
        rw [upd_ne (ne_of_none e hD)]
        exact s1 _ _ e
      · rw [upd_same, List.map_reverse]
      · unfold spans
        rw [List.map_reverse]
        exact RowsAt.lst hD1 hR.rev
theorem ok_krows {f C : Addr} {fd : FuncData} (F : Fun K "kept_rows" "kept_rows" s_kept_rows f fd) (T : Txt K mg C) (c_kept_spans : CalF P w K mg base 2 "kept_spans" ["scheme", "time"] (sp_kspans C)) (c_round_up : CalF P w K mg base 1 "round_up" ["number", "step"] sp_rup) (c_round_down : CalF P w K mg base 1 "round_down" ["number", "step"] sp_rdn) : FnOk P w K mg base CX0 3 f fd ["scheme", "time"] (sp_krows C) := by
  refine F.ok sc_kept_rows (fun vs H Q E h => ?_) (fun cdv A outer s H vs Q E hr h => ?_)
  · obtain ⟨p, b, f, t, rfl, _⟩ := h
    rfl
  · obtain ⟨p, b, f, t, rfl, S, ht, k⟩ := h
    obtain ⟨⟨dx, hp⟩, hb, hb2, hf, hf2⟩ := id S
    refine ⟨_, (pss_cons (ps_set (i := 2) sc_kept_rows.nd rfl (Or.inl rfl) (pe_lst pa_nil))
      (pss_cons (ps_for PassesOwn.never rfl (pi_list (pe_callF c_kept_spans (hr.mono (by decide)) rfl (pa_cons (pv 0) (pa_cons (pv 1) pa_nil)))) (pg_tup (by rfl) (pgs_cons (pg_name (i := 3) sc_kept_rows.nd rfl (Or.inl rfl)) (pgs_cons (pg_name (i := 4) sc_kept_rows.nd rfl (Or.inl rfl)) (pgs_cons (pg_name (i := 5) sc_kept_rows.nd rfl (Or.inl rfl)) pgs_nil))))
      (pss_cons (ps_set (i := 6) sc_kept_rows.nd rfl (Or.inl rfl) (pe_callF c_round_up (hr.mono (by decide)) rfl (pa_cons (pv 3) (pa_cons (pv 5) pa_nil))))
      (pss_cons (ps_set (i := 7) sc_kept_rows.nd rfl (Or.inl rfl) (pe_callF c_round_down (hr.mono (by decide)) rfl (pa_cons (pv 4) (pa_cons (pv 5) pa_nil))))
      (pss_one (ps_if (pt_cmpR op_le (pv 6) (pv 7) (nomark _)) (pss_one (ps_expr (pe_bm PySem.F.plainAttrs_list PySem.F.slot_list_append PySem.F.type_list_append mt_append (pv 2) (pa_cons (pe_tup (pa_cons (pv 6) (pa_cons (pv 7) (pa_cons (pv 5) pa_nil)))) pa_nil)))) pss_nil)))))
      (pss_one (ps_ret (pv 2))))), ?_⟩
    refine ⟨by show 0 ≤ sizeLine; decide, fun D2 hD2 => ?_⟩
    have hD2' : (upd H D2 (.lst [])) D2 = some (.lst []) := upd_same
    have s0 : Same H (upd H D2 (.lst [])) := Same.upd hD2
    generalize upd H D2 (.lst []) = H0 at *
    refine ⟨_, rfl, _, rfl, p, b, f, t, rfl, S.same s0, ht, fun D ts J H1 s1 hD hD1 hR hJ => ?_⟩
    have hDD : D ≠ D2 := (ne_of_none hD2' hD).symm
    refine ⟨D, rfl, ⟨_, SqL.of hD1⟩, for_list (K := K) (a := D) (xs := ts.map V.ref) (fun i σ H2 => ∃ (c3 c4 c5 c6 c7 : Option V) (us : List Addr) (R : List (Nat × Nat × Nat)), σ = [some (.ref p), some (.int t), some (.ref D2), c3, c4, c5, c6, c7] ∧ Same H H2 ∧ H2 D = some (.lst (ts.map V.ref)) ∧ RowsAt H2 ts ((spans b f t J).map rw3) ∧ H2 D2 = some (.lst (us.map V.ref)) ∧ RowsAt H2 us (R.map rw3) ∧ Rok R ∧ R.length ≤ i ∧ ela R = alv b f t (aft b f t (J - i))) ⟨none, none, none, none, none, [], [], rfl, s0.trans s1, hD1, hR, s1 _ _ hD2', .nil, rok_nil, Nat.le_refl _, ?_⟩ (fun i σ H2 _ ⟨_, _, _, _, _, _, _, _, s2, z, _⟩ => SqL.of z) ?_ ?_⟩
    · rw [Nat.sub_zero, hJ.nul]
      rfl
    · rintro i y σ H2 hi ⟨c3, c4, c5, c6, c7, us, R, rfl, s2, hDl, hRs, h2, hR', hok', hlen', hel⟩
      obtain ⟨t', rfl, ht'⟩ := ref_item hi
      obtain ⟨r, hr', hrt⟩ := hRs.get ht'
      obtain ⟨a0, l0, st, hi', rfl⟩ := rw3_item hr'
      obtain ⟨hiJ, er⟩ := spans_get hi'
      obtain ⟨j, hj⟩ : ∃ j, j = J - 1 - i := ⟨_, rfl⟩
      rw [← hj] at er
      cases er
      have h0 : 0 < aft b f t j := hJ.pos j (by omega)
      have hu : 0 < b ^ j := pow_pos' hb
      have hs0 : (0 : Int) < ((b ^ j : Nat) : Int) := by omega
      have hJ151 := hJ.le
      have eJ : J - i = j + 1 := by omega
      have eJ2 : J - (i + 1) = j := by omega
      refine ⟨t', _, rfl, SqT.of hrt, rfl, _, _, rfl, _, _, rfl, _, _, rfl, rfl, ?_⟩
      refine ⟨_, rfl, _, rfl, _, _, rfl, hs0, ?_⟩
      refine ⟨_, rfl, _, rfl, _, _, rfl, hs0, ?_⟩
      have e6 : ((aft b f t j - 1 : Nat) : Int) = ((aft b f t j : Nat) : Int) - 1 := by omega
      have sA := rup_spec (x := ((aft b f t (j + 1) : Nat) : Int)) hs0
      have sL := rdn_spec (x := ((aft b f t j - 1 : Nat) : Int)) hs0
      generalize hA : ((aft b f t (j + 1) : Nat) : Int) + -((aft b f t (j + 1) : Nat) : Int) % ((b ^ j : Nat) : Int) = A at *
      generalize hL : ((aft b f t j - 1 : Nat) : Int) - ((aft b f t j - 1 : Nat) : Int) % ((b ^ j : Nat) : Int) = L at *
      rw [e6] at sL
      obtain ⟨r1, r2⟩ := row_in2 hb hb2 hf ht h0 sA sL
      rw [eJ] at hel
      refine ⟨_, rfl, _, rfl, _, _, rfl, rfl, _, rfl, ?_⟩
      refine ifD (fun q1 => ?_) (fun q1 => ?_)
      · obtain ⟨a', l', eA, eL, hr1', he⟩ := r1 q1
        refine ⟨_, rfl, .inl ⟨rfl, _, SqL.of h2⟩, _, rfl, _, rfl, _, rfl, by show 3 ≤ sizeLine; decide, fun q hq => ?_⟩
        have hqD : D2 ≠ q := ne_of_none h2 hq
        have h3 : (upd H2 q (.tup [.int A, .int L, .int ((b ^ j : Nat) : Int)])) D2 = some (.lst (us.map V.ref)) := by rw [upd_ne hqD]; exact h2
        have s3 : Same H2 (upd H2 q (.tup [.int A, .int L, .int ((b ^ j : Nat) : Int)])) := Same.upd hq
        refine ⟨D2, _, _, rfl, rfl, h3, by rw [List.length_map, hR'.len, List.length_map]; exact Nat.lt_of_le_of_lt (show R.length ≤ 200 by omega) (by decide), ?_⟩
        refine ⟨_, _, _, _, _, us ++ [q], R ++ [(a', l', b ^ j)], rfl, ?_, ?_, ?_, ?_, ?_, rok_snoc hok' hr1', ?_, ?_⟩
        · intro x o e
          rw [upd_ne (ne_of_none e hD2)]
          exact s3 _ _ (s2 _ _ e)
        · rw [upd_ne hDD]
          exact s3 _ _ hDl
        · exact RowsAt.lst h3 (hRs.same s3)
        · rw [upd_same, List.map_append]
          rfl
        · rw [List.map_append]
          refine RowsAt.lst h3 ((hR'.same s3).snoc ?_)
          rw [upd_same, eA, eL]
          rfl
        · rw [List.length_append]
          show R.length + 1 ≤ i + 1
          omega
        · rw [ela_snoc, eJ2, hel, he]
      · refine ⟨_, _, _, _, _, us, R, rfl, s2, hDl, hRs, h2, hR', hok', by omega, ?_⟩
        rw [eJ2, hel, r2 q1]
    · rintro σ H2 ⟨c3, c4, c5, c6, c7, us, R, rfl, s2, hDl, hRs, h2, hR', hok', hlen', hel⟩
      have e : (ts.map V.ref).length = J := by rw [List.length_map, hR.len, List.length_map, spans_len]
      rw [e] at hlen' hel
      rw [Nat.sub_self] at hel
      have := hJ.le
      exact ⟨_, rfl, k D2 us R _ s2 hD2 h2 hR' hok' (by omega) hel⟩
end
end My

set_option Elab.async false
set_option linter.all false
set_option maxRecDepth 100000
set_option maxHeartbeats 4000000
namespace My
open PySem L2 Mth
def cnI (R : List (Nat × Nat × Nat)) : List Int := (cnR R).map fun (n : Nat) => (n : Int)
theorem cnI_sum : ∀ R : List (Nat × Nat × Nat), (cnI R).sum = (((ela R).length : Nat) : Int) := fun R => by
  rw [← cnR_sum]
  unfold cnI
  induction cnR R with
  | nil => rfl
  | cons a l ih => rw [List.map_cons, List.sum_cons, List.sum_cons, ih, Int.natCast_add]
theorem cn_int {a l s : Nat} (h : Rok1 a l s) : ((l : Int) - (a : Int)) / (s : Int) + 1 = (((l - a) / s + 1 : Nat) : Int) := by
  have := h.al
  rw [show (l : Int) - (a : Int) = ((l - a : Nat) : Int) by omega, ← Int.natCast_ediv, Int.natCast_add]
  rfl
theorem alv_last {b f T n : Nat} : ((alv b f T (T + 1)).filter (inR 0 (n + 1))).getLast? = some (prv b f T n) := by
  have e : (alv b f T (T + 1)).filter (inR 0 (n + 1)) = alv b f T (prv b f T n) ++ [prv b f T n] := by
    refine asc_ext (List.Pairwise.filter _ (rng_asc _ _)) ?_ fun x => ?_
    · refine List.pairwise_append.mpr ⟨rng_asc _ _, List.pairwise_singleton _ _, fun x hx y hy => ?_⟩
      have h1 := (alv_mem.mp hx).1
      rw [List.mem_singleton.mp hy]
      exact h1
    · rw [List.mem_filter, List.mem_append, List.mem_singleton]
      show (x ∈ alv b f T (T + 1) ∧ inR 0 (n + 1) x = true) ↔ _
      rw [alv_mem, alv_mem]
      unfold inR
      rw [decide_eq_true_iff]
      constructor
      · rintro ⟨⟨h1, h2⟩, h3⟩
        have := prv_max h2 (show x ≤ n by omega)
        rcases Nat.eq_or_lt_of_le this with q | q
        · exact .inr q
        · exact .inl ⟨q, h2⟩
      · have h4 := prv_le b f T n
        have h5 := prv_kpt b f T n
        have h6 := (of_decide_eq_true h5).1
        rintro (⟨h1, h2⟩ | h)
        · exact ⟨⟨by omega, h2⟩, by omega, by omega⟩
        · subst h; exact ⟨⟨by omega, h5⟩, by omega, by omega⟩
  rw [e, List.getLast?_append]
  rfl
theorem ela_hd {R : List (Nat × Nat × Nat)} {m : Nat} (h : (ela R).head? = some m) : ∃ l s Rr, R = (m, l, s) :: Rr := by
  cases R with
  | nil => cases h
  | cons r Rr =>
    obtain ⟨a, l, s⟩ := r
    rw [ela_cons, List.head?_append, els_hd] at h
    cases h
    exact ⟨l, s, Rr, rfl⟩
theorem ela_lst {R : List (Nat × Nat × Nat)} {m : Nat} (hok : Rok R) (h : (ela R).getLast? = some m) : ∃ a s Rr, R = Rr ++ [(a, m, s)] := by
  rcases List.eq_nil_or_concat R with e | ⟨Rr, r, e⟩
  · subst e; cases h
  · obtain ⟨a, l, s⟩ := r
    rw [List.concat_eq_append] at e
    subst e
    have hr := hok (a, l, s) (List.mem_append.mpr (.inr (List.mem_singleton.mpr rfl)))
    rw [ela_snoc, List.getLast?_append, els_last hr] at h
    cases h
    exact ⟨a, s, Rr, rfl⟩
theorem RowsAt.unsnoc {H : Hp} : ∀ {ts : List Addr} {rs : List (List Int)} {r : List Int}, RowsAt H ts (rs ++ [r]) → ∃ us q, ts = us ++ [q] ∧ H q = some (.tup (r.map V.int))
  | _, [], _, .cons h .nil => ⟨[], _, rfl, h⟩
  | _, _ :: _, _, .cons h r => by
    obtain ⟨us, q, e, hq⟩ := RowsAt.unsnoc r
    exact ⟨_ :: us, q, by rw [e]; rfl, hq⟩
theorem nxt_cut {b f t n m : Nat} (h : ((alv b f t (t + 1)).filter (inR n (t + 1))).head? = some m) : n ≤ m ∧ kpt b f m t = true ∧ ∀ j, n ≤ j → j < m → kpt b f j t = false := by
  have hasc : ((alv b f t (t + 1)).filter (inR n (t + 1))).Pairwise (· < ·) := List.Pairwise.filter _ (rng_asc _ _)
  have hmem : ∀ x, x ∈ (alv b f t (t + 1)).filter (inR n (t + 1)) ↔ kpt b f x t = true ∧ n ≤ x := by
    intro x
    rw [List.mem_filter]
    show (x ∈ alv b f t (t + 1) ∧ inR n (t + 1) x = true) ↔ _
    rw [alv_mem]
    unfold inR
    rw [decide_eq_true_iff]
    constructor
    · rintro ⟨⟨_, h1⟩, h2⟩; exact ⟨h1, h2.1⟩
    · rintro ⟨h1, h2⟩
      have := (of_decide_eq_true h1).1
      exact ⟨⟨by omega, h1⟩, h2, by omega⟩
  cases e : (alv b f t (t + 1)).filter (inR n (t + 1)) with
  | nil => rw [e] at h; cases h
  | cons x r =>
    rw [e] at h
    cases h
    rw [e] at hasc hmem
    obtain ⟨h1, h2⟩ := (hmem m).mp List.mem_cons_self
    refine ⟨h2, h1, fun j hj hl => ?_⟩
    cases hk : kpt b f j t with
    | false => rfl
    | true =>
      rcases List.mem_cons.mp ((hmem j).mpr ⟨hk, hj⟩) with q | q
      · omega
      · have := (List.pairwise_cons.mp hasc).1 j q
        omega
theorem nxt_ex {b f t n : Nat} (hn : n ≤ t) : ∃ m, ((alv b f t (t + 1)).filter (inR n (t + 1))).head? = some m := by
  cases e : (alv b f t (t + 1)).filter (inR n (t + 1)) with
  | cons x r => exact ⟨x, rfl⟩
  | nil =>
    have h1 : t ∈ (alv b f t (t + 1)).filter (inR n (t + 1)) := List.mem_filter.mpr ⟨alv_mem.mpr ⟨by omega, kpt_self⟩, decide_eq_true ⟨hn, by omega⟩⟩
    rw [e] at h1
    cases h1
theorem ela_at {R : List (Nat × Nat × Nat)} {i j m : Nat} {a l s : Nat} (hok : Rok R) (hi : R[i]? = some (a, l, s)) (hj : (ela (R.take i)).length ≤ j) (hm : (ela R)[j]? = some m) : (a + (j - (ela (R.take i)).length) * s ≤ l → m = a + (j - (ela (R.take i)).length) * s) ∧ (¬ a + (j - (ela (R.take i)).length) * s ≤ l → (ela (R.take (i + 1))).length ≤ j) := by
  have hlt := (List.getElem?_eq_some_iff.mp hi).1
  have hr : Rok1 a l s := hok _ (List.mem_of_getElem? hi)
  have esp : R = R.take i ++ (a, l, s) :: R.drop (i + 1) := by
    conv => lhs; rw [← List.take_append_drop i R]
    congr 1
    rw [List.drop_eq_getElem_cons hlt, (List.getElem?_eq_some_iff.mp hi).2]
  have e1 : ela R = ela (R.take i) ++ (els a l s ++ ela (R.drop (i + 1))) := by
    conv => lhs; rw [esp]
    unfold ela
    rw [List.flatMap_append, List.flatMap_cons]
  have e2 : ela (R.take (i + 1)) = ela (R.take i) ++ els a l s := by rw [take_s hi, ela_snoc]
  generalize (ela (R.take i)) = E at *
  obtain ⟨c, hcE⟩ : ∃ c, c = E.length := ⟨_, rfl⟩
  rw [← hcE] at hj ⊢
  obtain ⟨d, rfl⟩ : ∃ d, j = c + d := ⟨j - c, by omega⟩
  rw [Nat.add_sub_cancel_left]
  rw [e1, hcE, List.getElem?_append_right (by omega), Nat.add_sub_cancel_left] at hm
  have hcnt : a + d * s ≤ l ↔ d < (els a l s).length := by
    rw [els_len]
    have h0 := hr.s0
    have h1 := hr.al
    rw [Nat.lt_succ_iff, Nat.le_div_iff_mul_le h0]
    omega
  constructor
  · intro h
    have hd := hcnt.mp h
    rw [List.getElem?_append_left hd] at hm
    unfold els at hm
    rw [List.getElem?_map] at hm
    rw [els_len] at hd
    rw [List.getElem?_range hd] at hm
    exact (Option.some.inj hm).symm
  · intro h
    have hd : ¬ d < (els a l s).length := fun z => h (hcnt.mpr z)
    rw [e2, List.length_append, hcE]
    omega
theorem nmu_lip {b : Nat} (hb : 2 ≤ b) (m : Nat) : ∀ d, nmu b (m + d) ≤ nmu b m + d
  | 0 => Nat.le_refl _
  | d + 1 => by
    have h1 := nmu_lip hb m d
    have h2 := nmu_succ hb (m + d)
    rw [show m + (d + 1) = m + d + 1 from rfl, h2]
    split <;> omega
theorem lvl_bd {b f T l : Nat} (hb : 2 ≤ b) : (lvl b f T l).length ≤ f + 1 := by
  rw [lvl_len hb]
  have h1 : T / b ^ l ≤ (T + b ^ l - 1) / b ^ l := Nat.div_le_div_right (by have := pow_pos' (k := l) hb; omega)
  have h2 : hiQ b T l ≤ loQ b f T l - 1 + (f + 1) := by unfold hiQ loQ; omega
  have h3 := nmu_mono hb h2
  have h4 := nmu_lip hb (loQ b f T l - 1) (f + 1)
  omega
theorem sum_bd {g : Nat → Nat} {B : Nat} (h : ∀ i, g i ≤ B) : ∀ m, ((List.range m).map g).sum ≤ m * B
  | 0 => by simp
  | m + 1 => by
    have h1 := sum_bd h m
    have h2 := h m
    rw [List.range_succ, List.map_append, List.sum_append, Nat.succ_mul]
    simp only [List.map_cons, List.map_nil, List.sum_cons, List.sum_nil]
    omega
theorem rnk_bd {b f T : Nat} (hb : 2 ≤ b) (hf : f ≤ 1000000) (hT : T < 2 ^ 150) : rnk b f T (T + 1) < 2 ^ 40 := by
  unfold rnk
  rw [alv_split hb (pow_base hb hT)]
  have h1 := sum_bd (g := fun l => (lvl b f T l).length) (B := f + 1) (fun i => lvl_bd hb) 150
  omega
section
variable {P : Program} {w : World} {K : PySem.W.Frag} {mg : Str → Option Value} {base : Heap}
theorem ok_cut {f C : Addr} {fd : FuncData} (F : Fun K "cut_rows" "cut_rows" s_cut_rows f fd) (T : Txt K mg C) (c_round_up : CalF P w K mg base 1 "round_up" ["number", "step"] sp_rup) (c_round_down : CalF P w K mg base 1 "round_down" ["number", "step"] sp_rdn) : FnOk P w K mg base CX0 2 f fd ["rows", "low", "high"] sp_cut := by
  refine F.ok sc_cut_rows (fun vs H Q E h => ?_) (fun cdv A outer s H vs Q E hr h => ?_)
  · obtain ⟨D, ts, R, lo, h, rfl, _⟩ := h
    rfl
  · obtain ⟨D, ts, R, lo, h, rfl, hD, hR, hok, hlen, k⟩ := h
    refine ⟨_, (pss_cons (ps_set (i := 3) sc_cut_rows.nd rfl (Or.inl rfl) (pe_lst pa_nil))
      (pss_cons (ps_for PassesOwn.never rfl (pi_list (pv 0)) (pg_tup (by rfl) (pgs_cons (pg_name (i := 4) sc_cut_rows.nd rfl (Or.inl rfl)) (pgs_cons (pg_name (i := 5) sc_cut_rows.nd rfl (Or.inl rfl)) (pgs_cons (pg_name (i := 6) sc_cut_rows.nd rfl (Or.inl rfl)) pgs_nil))))
      (pss_cons (ps_set (i := 7) sc_cut_rows.nd rfl (Or.inl rfl) (pe_callB (call_max2 rfl) (by rfl) T.b_max (by decide +kernel) (pa_cons (pv 4) (pa_cons (pe_callF c_round_up (hr.mono (by decide)) rfl (pa_cons (pv 1) (pa_cons (pv 6) pa_nil))) pa_nil))))
      (pss_cons (ps_set (i := 8) sc_cut_rows.nd rfl (Or.inl rfl) (pe_callB (call_min2 rfl) (by rfl) T.b_min (by decide +kernel) (pa_cons (pv 5) (pa_cons (pe_callF c_round_down (hr.mono (by decide)) rfl (pa_cons (pv 2) (pa_cons (pv 6) pa_nil))) pa_nil))))
      (pss_one (ps_if (pt_cmpR op_le (pv 7) (pv 8) (nomark _)) (pss_one (ps_expr (pe_bm PySem.F.plainAttrs_list PySem.F.slot_list_append PySem.F.type_list_append mt_append (pv 3) (pa_cons (pe_tup (pa_cons (pv 7) (pa_cons (pv 8) (pa_cons (pv 6) pa_nil)))) pa_nil)))) pss_nil)))))
      (pss_one (ps_ret (pv 3))))), ?_⟩
    refine ⟨by show 0 ≤ sizeLine; decide, fun D2 hD2 => ?_⟩
    have hDD : D ≠ D2 := ne_of_none hD hD2
    refine ⟨_, rfl, D, rfl, ⟨_, SqL.of (show (upd H D2 (.lst [])) D = _ by rw [upd_ne hDD]; exact hD)⟩, for_list (K := K) (a := D) (xs := ts.map V.ref) (fun i σ H2 => ∃ (c4 c5 c6 c7 c8 : Option V) (us : List Addr) (R' : List (Nat × Nat × Nat)), σ = [some (.ref D), some (.int lo), some (.int ((h : Int) - 1)), some (.ref D2), c4, c5, c6, c7, c8] ∧ Same H H2 ∧ H2 D2 = some (.lst (us.map V.ref)) ∧ RowsAt H2 us (R'.map rw3) ∧ Rok R' ∧ R'.length ≤ i ∧ ela R' = (ela (R.take i)).filter (inR lo h)) ⟨none, none, none, none, none, [], [], rfl, Same.upd hD2, upd_same, .nil, rok_nil, Nat.le_refl _, rfl⟩ (fun i σ H2 _ ⟨_, _, _, _, _, _, _, _, s2, _⟩ => SqL.of (s2 _ _ hD)) ?_ ?_⟩
    · rintro i y σ H2 hi ⟨c4, c5, c6, c7, c8, us, R', rfl, s2, h2, hR', hok', hlen', hel⟩
      obtain ⟨t', rfl, ht'⟩ := ref_item hi
      obtain ⟨r, hr', hrt⟩ := hR.get ht'
      obtain ⟨a, l, s, hi', rfl⟩ := rw3_item hr'
      have hr1 : Rok1 a l s := hok _ (List.mem_of_getElem? hi')
      have hlt := (List.getElem?_eq_some_iff.mp hi').1
      have hs0 : (0 : Int) < (s : Int) := by have := hr1.s0; show (0 : Int) < (s : Int); omega
      refine ⟨t', _, rfl, SqT.of (s2 _ _ hrt), rfl, _, _, rfl, _, _, rfl, _, _, rfl, rfl, ?_⟩
      refine ⟨_, rfl, _, rfl, _, rfl, _, _, rfl, hs0, _, _, rfl, ?_⟩
      refine ⟨_, rfl, _, rfl, _, rfl, _, _, rfl, hs0, _, _, rfl, ?_⟩
      have sU := rup_spec (x := (lo : Int)) hs0
      have sG := rdn_spec (x := (h : Int) - 1) hs0
      generalize hU : (lo : Int) + -(lo : Int) % (s : Int) = U at *
      generalize hG : (h : Int) - 1 - ((h : Int) - 1) % (s : Int) = G at *
      obtain ⟨X, hX⟩ : ∃ X : Int, X = if U > (a : Int) then U else (a : Int) := ⟨_, rfl⟩
      obtain ⟨L, hL⟩ : ∃ L : Int, L = if G < (l : Int) then G else (l : Int) := ⟨_, rfl⟩
      obtain ⟨r1, r2⟩ := cut_in hr1 sU sG hX hL
      rw [← hX, ← hL]
      refine ⟨_, rfl, _, rfl, _, _, rfl, rfl, _, rfl, ?_⟩
      have eR : (ela (R.take (i + 1))).filter (inR lo h) = ela R' ++ (els a l s).filter (inR lo h) := by
        rw [take_s hi', ela_snoc, List.filter_append, hel]
      refine ifD (fun q1 => ?_) (fun q1 => ?_)
      · obtain ⟨a', l', eA, eL, hr1', he⟩ := r1 q1
        refine ⟨_, rfl, .inl ⟨rfl, _, SqL.of h2⟩, _, rfl, _, rfl, _, rfl, by show 3 ≤ sizeLine; decide, fun q hq => ?_⟩
        have hqD : D2 ≠ q := ne_of_none h2 hq
        have h3 : (upd H2 q (.tup [.int X, .int L, .int (s : Int)])) D2 = some (.lst (us.map V.ref)) := by rw [upd_ne hqD]; exact h2
        have s3 : Same H2 (upd H2 q (.tup [.int X, .int L, .int (s : Int)])) := Same.upd hq
        refine ⟨D2, _, _, rfl, rfl, h3, by rw [List.length_map, hR'.len, List.length_map]; exact Nat.lt_of_le_of_lt (show R'.length ≤ 200 by omega) (by decide), ?_⟩
        refine ⟨_, _, _, _, _, us ++ [q], R' ++ [(a', l', s)], rfl, ?_, ?_, ?_, rok_snoc hok' hr1', ?_, ?_⟩
        · intro x o e
          rw [upd_ne (ne_of_none e hD2)]
          exact s3 _ _ (s2 _ _ e)
        · rw [upd_same, List.map_append]
          rfl
        · rw [List.map_append]
          refine RowsAt.lst h3 ((hR'.same s3).snoc ?_)
          rw [upd_same, eA, eL]
          rfl
        · rw [List.length_append]
          show R'.length + 1 ≤ i + 1
          omega
        · rw [ela_snoc, eR, he]
      · refine ⟨_, _, _, _, _, us, R', rfl, s2, h2, hR', hok', by omega, ?_⟩
        rw [eR, r2 q1, List.append_nil]
    · rintro σ H2 ⟨c4, c5, c6, c7, c8, us, R', rfl, s2, h2, hR', hok', hlen', hel⟩
      have e : (ts.map V.ref).length = R.length := by rw [List.length_map, hR.len, List.length_map]
      rw [e] at hlen' hel
      rw [List.take_length] at hel
      exact ⟨_, rfl, k D2 us R' _ s2 hD2 h2 hR' hok' (by omega) hel⟩
end
end My

set_option Elab.async false
set_option linter.all false
set_option maxRecDepth 100000
set_option maxHeartbeats 4000000
namespace My
open PySem L2 Mth
abbrev s_is_power : Stmt := top 21
theorem sc_is_power : FnScope ["base", "number"] ["base", "number"] (defScope s_is_power) := ⟨rfl, rfl, rfl, by decide +kernel, rfl, by decide +kernel, by decide +kernel⟩
abbrev s_count_multiples : Stmt := top 22
theorem sc_count_multiples : FnScope ["low", "high", "step"] ["low", "high", "step"] (defScope s_count_multiples) := ⟨rfl, rfl, rfl, by decide +kernel, rfl, by decide +kernel, by decide +kernel⟩
abbrev s_count_apart : Stmt := top 23
theorem sc_count_apart : FnScope ["low", "high", "step", "greater"] ["low", "high", "step", "greater"] (defScope s_count_apart) := ⟨rfl, rfl, rfl, by decide +kernel, rfl, by decide +kernel, by decide +kernel⟩
abbrev s_first_apart : Stmt := top 24
theorem sc_first_apart : FnScope ["low", "step", "greater", "found"] ["low", "step", "greater"] (defScope s_first_apart) := ⟨rfl, rfl, rfl, by decide +kernel, rfl, by decide +kernel, by decide +kernel⟩
abbrev s_Change___init__ : Stmt := inClass (top 20) 0
theorem sc_Change___init__ : FnScope ["self", "old", "new", "time"] ["self", "old", "new", "time"] (defScope s_Change___init__) := ⟨rfl, rfl, rfl, by decide +kernel, rfl, by decide +kernel, by decide +kernel⟩
abbrev s_Change_old : Stmt := inClass (top 20) 1
theorem sc_Change_old : FnScope ["self"] ["self"] (defScope s_Change_old) := ⟨rfl, rfl, rfl, by decide +kernel, rfl, by decide +kernel, by decide +kernel⟩
abbrev s_Change_new : Stmt := inClass (top 20) 2
theorem sc_Change_new : FnScope ["self"] ["self"] (defScope s_Change_new) := ⟨rfl, rfl, rfl, by decide +kernel, rfl, by decide +kernel, by decide +kernel⟩
-- no Change.changed_at
-- no Change.is_kept
-- no Change.is_gone
-- no Change.is_kept_by_new
-- no Change.was_dropped
abbrev s_Change_check_later : Stmt := inClass (top 20) 14
theorem sc_Change_check_later : FnScope ["self", "time"] ["self", "time"] (defScope s_Change_check_later) := ⟨rfl, rfl, rfl, by decide +kernel, rfl, by decide +kernel, by decide +kernel⟩
/-! what a change looks like -/
def cfl (q1 q2 : Addr) (c : Nat) : List (Str × V) := putF "change_time" (.int c) (putF "new_scheme" (.ref q2) (putF "old_scheme" (.ref q1) []))
theorem cfl_0 (q1 q2 : Addr) (c : Nat) : (cfl q1 q2 c).lookup ("old_scheme" : Str) = some (.ref q1) := by
  unfold cfl
  rw [lookup_putF, if_neg (by decide +kernel), lookup_putF, if_neg (by decide +kernel), lookup_putF, if_pos rfl]
theorem cfl_1 (q1 q2 : Addr) (c : Nat) : (cfl q1 q2 c).lookup ("new_scheme" : Str) = some (.ref q2) := by
  unfold cfl
  rw [lookup_putF, if_neg (by decide +kernel), lookup_putF, if_pos rfl]
theorem cfl_2 (q1 q2 : Addr) (c : Nat) : (cfl q1 q2 c).lookup ("change_time" : Str) = some (.int c) := by
  unfold cfl
  rw [lookup_putF, if_pos rfl]
theorem cfl_no {q1 q2 : Addr} {c : Nat} {m : Str} (h : m ∉ (["change_time", "new_scheme", "old_scheme"] : List Str)) : (cfl q1 q2 c).lookup m = none := by
  simp only [List.mem_cons, List.not_mem_nil, or_false, not_or] at h
  obtain ⟨h1, h2, h3⟩ := h
  unfold cfl
  rw [lookup_putF, if_neg h1, lookup_putF, if_neg h2, lookup_putF, if_neg h3]
  rfl
structure TxtD (K : PySem.W.Frag) (mg : Str → Option Value) (Ch : Addr) : Prop where
  cl : Cls K Ch
  n0 : NoAttr K Ch "old_scheme"
  n1 : NoAttr K Ch "new_scheme"
  n2 : NoAttr K Ch "change_time"
structure Chg (C Ch : Addr) (H : Hp) (p : Addr) (b f b2 f2 c : Nat) : Prop where
  ob : ∃ dx q1 q2, H p = some (.ins Ch dx (cfl q1 q2 c)) ∧ Sch C H q1 b f ∧ Sch C H q2 b2 f2
  pw : ∃ k, 1 ≤ k ∧ b2 = b ^ k
  ct : c < 2 ^ 120
theorem Chg.same {C Ch : Addr} {H H' : Hp} {p : Addr} {b f b2 f2 c : Nat} (h : Chg C Ch H p b f b2 f2 c) (s : Same H H') : Chg C Ch H' p b f b2 f2 c := by
  obtain ⟨dx, q1, q2, e, S1, S2⟩ := h.ob
  exact ⟨⟨dx, q1, q2, s _ _ e, S1.same s, S2.same s⟩, h.pw, h.ct⟩
theorem Chg.but {C Ch : Addr} {H H' : Hp} {p a : Addr} {b f b2 f2 c : Nat} {xs : List V} (h : Chg C Ch H p b f b2 f2 c) (ha : H a = some (.lst xs)) (B : But a H H') : Chg C Ch H' p b f b2 f2 c := by
  obtain ⟨dx, q1, q2, e, ⟨⟨d1, e1⟩, r1, r2, r3, r4⟩, ⟨⟨d2, e2⟩, t1, t2, t3, t4⟩⟩ := h.ob
  exact ⟨⟨dx, q1, q2, B _ _ e (ne_of e ha (by intro z; cases z)), ⟨⟨d1, B _ _ e1 (ne_of e1 ha (by intro z; cases z))⟩, r1, r2, r3, r4⟩, ⟨⟨d2, B _ _ e2 (ne_of e2 ha (by intro z; cases z))⟩, t1, t2, t3, t4⟩⟩, h.pw, h.ct⟩
theorem Chg.b2 {C Ch : Addr} {H : Hp} {p : Addr} {b f b2 f2 c : Nat} (h : Chg C Ch H p b f b2 f2 c) : (2 ≤ b ∧ b ≤ 1000 ∧ 1 ≤ f ∧ f ≤ 1000000) ∧ 2 ≤ b2 ∧ b2 ≤ 1000 ∧ 1 ≤ f2 ∧ f2 ≤ 1000000 := by
  obtain ⟨dx, q1, q2, e, S1, S2⟩ := h.ob
  exact ⟨⟨S1.b2, S1.bt, S1.f1, S1.ft⟩, S2.b2, S2.bt, S2.f1, S2.ft⟩
/-! the old scheme has dropped it -/
def drp (b f c n : Nat) : Bool := decide (n ≤ c) && !kpt b f n c
def gon (b f b2 f2 c t n : Nat) : Bool := kpt b2 f2 n t && drp b f c n
def ckp (b f b2 f2 c t n : Nat) : Bool := kpt b2 f2 n t && !drp b f c n
def sp_ispow : Sp := fun vs H Q _ => ∃ b k : Nat, vs = [.int b, .int ((b ^ k : Nat) : Int)] ∧ 2 ≤ b ∧ b ≤ 1000 ∧ Q (.bl true) H
def sp_cinit (C Ch : Addr) : Sp := fun vs H Q _ => ∃ (p dx q1 q2 : Addr) (b f b2 f2 k c : Nat), vs = [.ref p, .ref q1, .ref q2, .int c] ∧ H p = some (.ins Ch dx []) ∧ Sch C H q1 b f ∧ Sch C H q2 b2 f2 ∧ b2 = b ^ k ∧ Q .non (upd H p (.ins Ch dx (cfl q1 q2 c)))
def sp_cold (C Ch : Addr) : Sp := fun vs H Q _ => ∃ (p : Addr) (b f b2 f2 c : Nat), vs = [.ref p] ∧ Chg C Ch H p b f b2 f2 c ∧ ∀ q, Sch C H q b f → Q (.ref q) H
def sp_cnew (C Ch : Addr) : Sp := fun vs H Q _ => ∃ (p : Addr) (b f b2 f2 c : Nat), vs = [.ref p] ∧ Chg C Ch H p b f b2 f2 c ∧ ∀ q, Sch C H q b2 f2 → Q (.ref q) H
def sp_cat (C Ch : Addr) : Sp := fun vs H Q _ => ∃ (p : Addr) (b f b2 f2 c : Nat), vs = [.ref p] ∧ Chg C Ch H p b f b2 f2 c ∧ Q (.int c) H
def sp_clater (C Ch : Addr) : Sp := fun vs H Q _ => ∃ (p : Addr) (b f b2 f2 c t : Nat), vs = [.ref p, .int t] ∧ Chg C Ch H p b f b2 f2 c ∧ c ≤ t ∧ Q .non H
def sp_ckbn (C Ch : Addr) : Sp := fun vs H Q _ => ∃ (p : Addr) (b f b2 f2 c n t : Nat), vs = [.ref p, .int n, .int t] ∧ Chg C Ch H p b f b2 f2 c ∧ c ≤ t ∧ Q (.bl (kpt b2 f2 n t)) H
def sp_cdrp (C Ch : Addr) : Sp := fun vs H Q _ => ∃ (p : Addr) (b f b2 f2 c n : Nat), vs = [.ref p, .int n] ∧ Chg C Ch H p b f b2 f2 c ∧ Q (.bl (drp b f c n)) H
def sp_ckept (C Ch : Addr) : Sp := fun vs H Q _ => ∃ (p : Addr) (b f b2 f2 c n t : Nat), vs = [.ref p, .int n, .int t] ∧ Chg C Ch H p b f b2 f2 c ∧ c ≤ t ∧ Q (.bl (ckp b f b2 f2 c t n)) H
def sp_cgone (C Ch : Addr) : Sp := fun vs H Q _ => ∃ (p : Addr) (b f b2 f2 c n t : Nat), vs = [.ref p, .int n, .int t] ∧ Chg C Ch H p b f b2 f2 c ∧ c ≤ t ∧ Q (.bl (gon b f b2 f2 c t n)) H
/-! numbers that a step divides and a greater one doesn't -/
def gel (r : Nat × Nat × Nat × Nat) : List Nat := (List.range (r.2.1 + 1)).filter fun n => decide (r.1 ≤ n ∧ r.2.2.1 ∣ n ∧ ¬ r.2.2.2 ∣ n)
structure Gok1 (lo hi s g : Nat) : Prop where
  s0 : 0 < s
  s2 : g < 2 ^ 200
  al : lo ≤ hi
  sg : s ∣ g
  lt : s < g
def sp_cmul : Sp := fun vs H Q _ => ∃ lo hi s : Int, vs = [.int lo, .int hi, .int s] ∧ 0 < s ∧ s < 2 ^ 200 ∧ Q (.int (hi / s - (lo - 1) / s)) H
def sp_capt : Sp := fun vs H Q _ => ∃ lo hi s g : Nat, vs = [.int lo, .int hi, .int s, .int g] ∧ Gok1 lo hi s g ∧ Q (.int (gel (lo, hi, s, g)).length) H
def sp_fapt : Sp := fun vs H Q _ => ∃ lo s g : Nat, vs = [.int lo, .int s, .int g] ∧ 0 < s ∧ s ∣ g ∧ s < g ∧ ∀ m : Nat, lo ≤ m → s ∣ m → ¬ g ∣ m → (∀ j, lo ≤ j → j < m → s ∣ j → g ∣ j) → Q (.int m) H
theorem cnt_mul {s : Nat} (hs : 0 < s) : ∀ N : Nat, ((((List.range N).filter fun n => decide (s ∣ n)).length : Nat) : Int) = ((N : Int) - 1) / (s : Int) + 1
  | 0 => by
    show (0 : Int) = ((0 : Nat) - 1 : Int) / (s : Int) + 1
    rw [show ((0 : Nat) : Int) - 1 = -1 from rfl, Int.neg_one_ediv, Int.sign_eq_one_of_pos (by omega)]
    rfl
  | N + 1 => by
    have ih := cnt_mul hs N
    rw [List.range_succ, List.filter_append, List.length_append, Int.natCast_add, ih]
    have e0 : ((N + 1 : Nat) : Int) - 1 = (N : Int) := by omega
    rw [e0]
    by_cases h : s ∣ N
    · have e1 : ([N].filter fun n => decide (s ∣ n)) = [N] := by simp [h]
      rw [e1]
      obtain ⟨q, rfl⟩ := h
      have e2 : (((s * q : Nat) : Int) - 1) / (s : Int) = (q : Int) - 1 := by
        rw [Int.natCast_mul, show (s : Int) * (q : Int) - 1 = -1 + (s : Int) * (q : Int) by omega, Int.add_mul_ediv_left _ _ (by omega), Int.neg_one_ediv, Int.sign_eq_one_of_pos (by omega)]
        omega
      rw [e2, Int.natCast_mul, Int.mul_ediv_cancel_left _ (by omega)]
      show _ + ((1 : Nat) : Int) = _
      omega
    · have e1 : ([N].filter fun n => decide (s ∣ n)) = [] := by simp [h]
      rw [e1]
      have e2 : ((N : Int) - 1) / (s : Int) = (N : Int) / (s : Int) := by
        have h1 := Int.mul_ediv_add_emod (N : Int) (s : Int)
        have h2 : 0 ≤ (N : Int) % (s : Int) := Int.emod_nonneg _ (by omega)
        have h3 : (N : Int) % (s : Int) < (s : Int) := Int.emod_lt_of_pos _ (by omega)
        have h4 : (N : Int) % (s : Int) ≠ 0 := fun z => h (by
          have : ((N % s : Nat) : Int) = 0 := by rw [Int.natCast_emod]; exact z
          exact Nat.dvd_of_mod_eq_zero (by omega))
        rw [show (N : Int) - 1 = ((N : Int) % (s : Int) - 1) + (s : Int) * ((N : Int) / (s : Int)) by omega, Int.add_mul_ediv_left _ _ (by omega), Int.ediv_eq_zero_of_lt (by omega) (by omega)]
        omega
      rw [e2]
      show _ + ((0 : Nat) : Int) = _
      omega
theorem cnt_apt {s g : Nat} (hs : 0 < s) (hg : 0 < g) (h : s ∣ g) (N : Nat) : ((((List.range N).filter fun n => decide (s ∣ n ∧ ¬ g ∣ n)).length : Nat) : Int) = ((N : Int) - 1) / (s : Int) - ((N : Int) - 1) / (g : Int) := by
  have h1 := cnt_mul hs N
  have h2 := cnt_mul hg N
  have h3 : ((List.range N).filter fun n => decide (s ∣ n)).length = ((List.range N).filter fun n => decide (s ∣ n ∧ ¬ g ∣ n)).length + ((List.range N).filter fun n => decide (g ∣ n)).length := by
    generalize List.range N = l
    induction l with
    | nil => rfl
    | cons x r ih =>
      by_cases a : g ∣ x
      · have a' : s ∣ x := Nat.dvd_trans h a
        rw [List.filter_cons_of_pos (by simp [a']), List.filter_cons_of_neg (by simp [a]), List.filter_cons_of_pos (by simp [a]), List.length_cons, List.length_cons, ih]
        omega
      · by_cases c : s ∣ x
        · rw [List.filter_cons_of_pos (by simp [c]), List.filter_cons_of_pos (by simp [c, a]), List.filter_cons_of_neg (by simp [a]), List.length_cons, List.length_cons, ih]
          omega
        · rw [List.filter_cons_of_neg (by simp [c]), List.filter_cons_of_neg (by simp [c]), List.filter_cons_of_neg (by simp [a]), ih]
  omega
theorem filt_lo (p : Nat → Bool) {lo N : Nat} (h : lo ≤ N) : ((List.range N).filter fun n => decide (lo ≤ n) && p n).length + ((List.range lo).filter p).length = ((List.range N).filter p).length := by
  obtain ⟨d, rfl⟩ : ∃ d, N = lo + d := ⟨N - lo, by omega⟩
  induction d with
  | zero =>
    have : ((List.range (lo + 0)).filter fun n => decide (lo ≤ n) && p n) = [] := List.filter_eq_nil_iff.mpr fun x hx => by
      have := List.mem_range.mp hx
      simp
      intro z
      omega
    rw [this]
    simp
  | succ d ih =>
    have ih := ih (by omega)
    rw [show lo + (d + 1) = (lo + d) + 1 by omega, List.range_succ, List.filter_append, List.filter_append, List.length_append, List.length_append]
    have e : ([lo + d].filter fun n => decide (lo ≤ n) && p n) = [lo + d].filter p := by simp [List.filter]
    rw [e]
    omega
theorem gel_len {lo hi s g : Nat} (h : Gok1 lo hi s g) : (((gel (lo, hi, s, g)).length : Nat) : Int) = ((hi : Int) / (s : Int) - ((lo : Int) - 1) / (s : Int)) - ((hi : Int) / (g : Int) - ((lo : Int) - 1) / (g : Int)) := by
  have h1 := filt_lo (fun n => decide (s ∣ n ∧ ¬ g ∣ n)) (lo := lo) (N := hi + 1) (by have := h.al; omega)
  have hg : 0 < g := Nat.lt_of_le_of_lt (Nat.zero_le _) h.lt
  have h2 := cnt_apt h.s0 hg h.sg (hi + 1)
  have h3 := cnt_apt h.s0 hg h.sg lo
  have e0 : ((hi + 1 : Nat) : Int) - 1 = (hi : Int) := by omega
  rw [e0] at h2
  have e : gel (lo, hi, s, g) = (List.range (hi + 1)).filter fun n => decide (lo ≤ n) && decide (s ∣ n ∧ ¬ g ∣ n) := by
    unfold gel
    apply List.filter_congr
    intro x _
    exact Bool.decide_and _ _
  rw [e]
  omega
section
variable {P : Program} {w : World} {K : PySem.W.Frag} {mg : Str → Option Value} {base : Heap}
theorem ok_ispow {f C : Addr} {fd : FuncData} (F : Fun K "is_power" "is_power" s_is_power f fd) (T : Txt K mg C) : FnOk P w K mg base CX0 1 f fd ["base", "number"] sp_ispow := by
  refine F.ok sc_is_power (fun vs H Q E h => ?_) (fun cdv A outer s H vs Q E hr h => ?_)
  · obtain ⟨b, k, rfl, _⟩ := h
    rfl
  · obtain ⟨b, k, rfl, hb, hb2, q⟩ := h
    refine ⟨_, (pss_cons (ps_while PassesOwn.never (pt_cmpR op_eq (pe_op op_mod (pv 1) (pv 0)) pe_int (nomark _)) (pss_one (ps_aug (i := 1) sc_is_power.nd rfl (Or.inl rfl) (pv 0) iop_fdivB)))
      (pss_one (ps_ret (pe_cmpR op_eq (pv 1) pe_int (nomark _))))), ?_⟩
    refine ⟨fun m σ H' => σ = [some (.int (b : Nat)), some (.int ((b ^ m : Nat) : Int))] ∧ H' = H, ⟨k, rfl, rfl⟩, ?_⟩
    rintro m σ H1 ⟨rfl, rfl⟩
    have hb0 : (0 : Int) < (b : Int) := by omega
    refine ⟨_, rfl, _, rfl, _, _, rfl, rfl, hb0, rfl, _, rfl, ?_⟩
    rcases Nat.eq_zero_or_pos m with z | z
    · subst z
      have e : ((b ^ 0 : Nat) : Int) % (b : Int) = 1 := by
        rw [Nat.pow_zero]
        exact Int.emod_eq_of_lt (by decide) (by omega)
      refine ifI (fun q => by rw [e] at q; cases q) (fun _ => ?_)
      refine ⟨_, rfl, rfl, ?_⟩
      exact endB (by rw [Nat.pow_zero]; rfl) q
    · obtain ⟨m, rfl⟩ : ∃ j, m = j + 1 := ⟨m - 1, by omega⟩
      have e : ((b ^ (m + 1) : Nat) : Int) % (b : Int) = 0 := by
        rw [Nat.pow_succ, Int.natCast_mul]
        exact Int.mul_emod_left _ _
      refine ifI (fun _ => ?_) (fun q => absurd e q)
      refine ⟨_, fun σ' H'' h => h, ?_⟩
      refine ⟨_, rfl, _, rfl, _, _, rfl, rfl, ⟨hb0, by show (b : Int) < 2 ^ 200; exact Int.lt_of_le_of_lt (show (b : Int) ≤ 1000 by omega) (by decide)⟩, ?_⟩
      have e2 : ((b ^ (m + 1) : Nat) : Int) / (b : Int) = ((b ^ m : Nat) : Int) := by
        rw [Nat.pow_succ, Int.natCast_mul]
        exact Int.mul_ediv_cancel _ (by omega)
      refine ⟨m, Nat.lt_succ_self _, ?_, rfl⟩
      show [some (V.int (b : Int)), some (V.int (((b ^ (m + 1) : Nat) : Int) / (b : Int)))] = _
      rw [e2]
theorem ok_cinit {f C Ch : Addr} {fd : FuncData} (F : Fun K "__init__" "Change.__init__" s_Change___init__ f fd) (T : Txt K mg C) (TD : TxtD K mg Ch) (c_is_power : CalF P w K mg base 1 "is_power" ["base", "number"] sp_ispow) (c_check_time : CalF P w K mg base 3 "check_time" ["time"] sp_check) (c_Scheme_base : CalM P w K mg base 1 C "base" ["self"] (sp_base C)) : FnOk P w K mg base CX0 4 f fd ["self", "old", "new", "time"] (sp_cinit C Ch) := by
  refine F.ok sc_Change___init__ (fun vs H Q E h => ?_) (fun cdv A outer s H vs Q E hr h => ?_)
  · obtain ⟨p, dx, q1, q2, b, f, b2, f2, k, c, rfl, _⟩ := h
    rfl
  · obtain ⟨p, dx, q1, q2, b, f, b2, f2, k, c, rfl, hp, S1, S2, e2, q⟩ := h
    subst e2
    refine ⟨_, (pss_cons (ps_if (pt_not (pt_val (pe_callF c_is_power (hr.mono (by decide)) rfl (pa_cons (pe_methF0 c_Scheme_base (hr.mono (by decide)) (pv 1)) (pa_cons (pe_methF0 c_Scheme_base (hr.mono (by decide)) (pv 2)) pa_nil))))) (pss_one ps_never) pss_nil)
      (pss_cons (ps_expr (pe_callF c_check_time (hr.mono (by decide)) rfl (pa_cons (pv 3) pa_nil)))
      (pss_cons (ps_fld (pv 0) (pv 1) rfl)
      (pss_cons (ps_fld (pv 0) (pv 2) rfl)
      (pss_one (ps_fld (pv 0) (pv 3) rfl)))))), ?_⟩
    obtain ⟨⟨d1, e1⟩, _⟩ := id S1
    obtain ⟨⟨d2, e3⟩, _⟩ := id S2
    refine ⟨_, rfl, q1, d1, _, rfl, e1, flds_no _ _ (by decide +kernel) (by decide +kernel), q1, b, f, rfl, S1, _, rfl, q2, d2, _, rfl, e3, flds_no _ _ (by decide +kernel) (by decide +kernel), q2, _, f2, rfl, S2, b, k, rfl, S1.b2, S1.bt, _, rfl, ?_⟩
    refine iteF ?_
    refine ⟨_, rfl, (c : Int), rfl, by omega, ?_⟩
    refine ⟨_, rfl, _, rfl, p, Ch, dx, [], rfl, hp, TD.cl, TD.n0, (by show 0 < 1000; decide), ?_⟩
    refine ⟨_, rfl, _, rfl, p, Ch, dx, _, rfl, upd_same, TD.cl, TD.n1, (by show 1 < 1000; decide), ?_⟩
    refine ⟨_, rfl, _, rfl, p, Ch, dx, _, rfl, upd_same, TD.cl, TD.n2, (by show 2 < 1000; decide), ?_⟩
    rw [upd_upd, upd_upd]
    exact q
theorem ok_cold {f C Ch : Addr} {fd : FuncData} (F : Fun K "old" "Change.old" s_Change_old f fd) (T : Txt K mg C) (TD : TxtD K mg Ch) : FnOk P w K mg base CX0 1 f fd ["self"] (sp_cold C Ch) := by
  refine F.ok sc_Change_old (fun vs H Q E h => ?_) (fun cdv A outer s H vs Q E hr h => ?_)
  · obtain ⟨p, b, f, b2, f2, c, rfl, _⟩ := h
    rfl
  · obtain ⟨p, b, f, b2, f2, c, rfl, X, k⟩ := h
    obtain ⟨dx, q1, q2, hp, S1, S2⟩ := X.ob
    refine ⟨_, (pss_one (ps_ret (pe_fld (pv 0) rfl))), ?_⟩
    exact ⟨_, rfl, p, Ch, dx, _, _, rfl, hp, TD.cl, TD.n0, cfl_0 .., k q1 S1⟩
theorem ok_cnew {f C Ch : Addr} {fd : FuncData} (F : Fun K "new" "Change.new" s_Change_new f fd) (T : Txt K mg C) (TD : TxtD K mg Ch) : FnOk P w K mg base CX0 1 f fd ["self"] (sp_cnew C Ch) := by
  refine F.ok sc_Change_new (fun vs H Q E h => ?_) (fun cdv A outer s H vs Q E hr h => ?_)
  · obtain ⟨p, b, f, b2, f2, c, rfl, _⟩ := h
    rfl
  · obtain ⟨p, b, f, b2, f2, c, rfl, X, k⟩ := h
    obtain ⟨dx, q1, q2, hp, S1, S2⟩ := X.ob
    refine ⟨_, (pss_one (ps_ret (pe_fld (pv 0) rfl))), ?_⟩
    exact ⟨_, rfl, p, Ch, dx, _, _, rfl, hp, TD.cl, TD.n1, cfl_1 .., k q2 S2⟩
theorem ok_clater {f C Ch : Addr} {fd : FuncData} (F : Fun K "check_later" "Change.check_later" s_Change_check_later f fd) (T : Txt K mg C) (TD : TxtD K mg Ch) (c_is_integer_from : CalF P w K mg base 2 "is_integer_from" ["value", "least"] sp_from) : FnOk P w K mg base CX0 3 f fd ["self", "time"] (sp_clater C Ch) := by
  refine F.ok sc_Change_check_later (fun vs H Q E h => ?_) (fun cdv A outer s H vs Q E hr h => ?_)
  · obtain ⟨p, b, f, b2, f2, c, t, rfl, _⟩ := h
    rfl
  · obtain ⟨p, b, f, b2, f2, c, t, rfl, X, hct, k⟩ := h
    obtain ⟨dx, q1, q2, hp, S1, S2⟩ := X.ob
    refine ⟨_, (pss_one (ps_if (pt_not (pt_val (pe_callF c_is_integer_from (hr.mono (by decide)) rfl (pa_cons (pv 1) (pa_cons (pe_fld (pv 0) rfl) pa_nil))))) (pss_one ps_never) pss_nil)), ?_⟩
    refine ⟨_, rfl, _, rfl, p, Ch, dx, _, _, rfl, hp, TD.cl, TD.n2, cfl_2 .., (t : Int), (c : Int), rfl, _, rfl, ?_⟩
    rw [decide_eq_true (by omega)]
    exact iteF k
theorem ok_cmul {f C : Addr} {fd : FuncData} (F : Fun K "count_multiples" "count_multiples" s_count_multiples f fd) (T : Txt K mg C) : FnOk P w K mg base CX0 1 f fd ["low", "high", "step"] sp_cmul := by
  refine F.ok sc_count_multiples (fun vs H Q E h => ?_) (fun cdv A outer s H vs Q E hr h => ?_)
  · obtain ⟨lo, hi, s, rfl, _⟩ := h
    rfl
  · obtain ⟨lo, hi, s, rfl, h0, h2, k⟩ := h
    refine ⟨_, (pss_one (ps_ret (pe_op op_sub (pe_op op_fdivB (pv 1) (pv 2)) (pe_op op_fdivB (pe_op op_sub (pv 0) pe_int) (pv 2))))), ?_⟩
    exact ⟨_, rfl, _, rfl, _, _, rfl, rfl, ⟨h0, h2⟩, _, rfl, _, _, rfl, rfl, _, rfl, _, _, rfl, rfl, ⟨h0, h2⟩, _, _, rfl, rfl, k⟩
theorem ok_capt {f C : Addr} {fd : FuncData} (F : Fun K "count_apart" "count_apart" s_count_apart f fd) (T : Txt K mg C) (c_count_multiples : CalF P w K mg base 1 "count_multiples" ["low", "high", "step"] sp_cmul) : FnOk P w K mg base CX0 2 f fd ["low", "high", "step", "greater"] sp_capt := by
  refine F.ok sc_count_apart (fun vs H Q E h => ?_) (fun cdv A outer s H vs Q E hr h => ?_)
  · obtain ⟨lo, hi, s, g, rfl, _⟩ := h
    rfl
  · obtain ⟨lo, hi, s, g, rfl, hG, k⟩ := h
    refine ⟨_, (pss_one (ps_ret (pe_op op_sub (pe_callF c_count_multiples (hr.mono (by decide)) rfl (pa_cons (pv 0) (pa_cons (pv 1) (pa_cons (pv 2) pa_nil)))) (pe_callF c_count_multiples (hr.mono (by decide)) rfl (pa_cons (pv 0) (pa_cons (pv 1) (pa_cons (pv 3) pa_nil))))))), ?_⟩
    have h0 := hG.s0
    have h1 := hG.lt
    have h2 : ((g : Nat) : Int) < 2 ^ 200 := by exact_mod_cast hG.s2
    refine ⟨_, rfl, _, rfl, _, rfl, _, _, (s : Int), rfl, by omega, by omega, _, rfl, _, rfl, _, rfl, _, _, (g : Int), rfl, by omega, h2, _, _, rfl, rfl, ?_⟩
    exact endI (gel_len hG).symm k
theorem ok_fapt {f C : Addr} {fd : FuncData} (F : Fun K "first_apart" "first_apart" s_first_apart f fd) (T : Txt K mg C) (c_round_up : CalF P w K mg base 1 "round_up" ["number", "step"] sp_rup) : FnOk P w K mg base CX0 2 f fd ["low", "step", "greater"] sp_fapt := by
  refine F.ok sc_first_apart (fun vs H Q E h => ?_) (fun cdv A outer s H vs Q E hr h => ?_)
  · obtain ⟨lo, s, g, rfl, _⟩ := h
    rfl
  · obtain ⟨lo, s, g, rfl, h0, hsg, hlt, k⟩ := h
    refine ⟨_, (pss_cons (ps_set (i := 3) sc_first_apart.nd rfl (Or.inl rfl) (pe_callF c_round_up (hr.mono (by decide)) rfl (pa_cons (pv 0) (pa_cons (pv 1) pa_nil))))
      (pss_one (ps_ret (pe_ifExp (pt_cmpR op_eq (pe_op op_mod (pv 3) (pv 2)) pe_int (nomark _)) (pe_op op_add (pv 3) (pv 1)) (pv 3))))), ?_⟩
    have hs0 : (0 : Int) < (s : Int) := by omega
    obtain ⟨r1, r2⟩ := rup_spec (x := (lo : Int)) hs0
    refine ⟨_, rfl, _, rfl, _, (s : Int), rfl, hs0, ?_⟩
    generalize hU : (lo : Int) + -(lo : Int) % (s : Int) = U at *
    have hlU : (lo : Int) ≤ U := (r2 U r1).mp (Int.le_refl _)
    obtain ⟨u, rfl⟩ : ∃ u : Nat, U = (u : Int) := ⟨U.toNat, by omega⟩
    have hsu : s ∣ u := by exact_mod_cast r1
    have hlu : lo ≤ u := by omega
    have hmin : ∀ j, lo ≤ j → s ∣ j → u ≤ j := fun j hj hd => by
      have := (r2 (j : Int) (by exact_mod_cast hd)).mpr (by omega)
      omega
    have hg0 : (0 : Int) < (g : Int) := by omega
    refine ⟨_, rfl, _, rfl, _, _, rfl, rfl, hg0, rfl, _, rfl, ?_⟩
    refine ifI (fun q => ?_) (fun q => ?_)
    · have hgu : g ∣ u := by
        have : (g : Int) ∣ (u : Int) := Int.dvd_of_emod_eq_zero q
        exact_mod_cast this
      refine ⟨_, rfl, _, rfl, _, _, rfl, rfl, ?_⟩
      have e : (u : Int) + (s : Int) = ((u + s : Nat) : Int) := by omega
      refine endI e ?_
      refine k (u + s) (by omega) (Nat.dvd_add hsu (Nat.dvd_refl _)) (fun z => ?_) (fun j h1 h2 h3 => ?_)
      · have : g ∣ s := (Nat.dvd_add_right hgu).mp z
        have := Nat.le_of_dvd h0 this
        omega
      · have h4 := hmin j h1 h3
        obtain ⟨x, rfl⟩ := h3
        obtain ⟨y, rfl⟩ := hsu
        have : x = y := by
          have a1 : s * y ≤ s * x := h4
          have a2 : s * x < s * (y + 1) := by rw [Nat.mul_add, Nat.mul_one]; exact h2
          have b1 := Nat.le_of_mul_le_mul_left a1 h0
          have b2 := Nat.lt_of_mul_lt_mul_left a2
          omega
        rw [this]
        exact hgu
    · refine ⟨_, rfl, ?_⟩
      refine k u hlu hsu (fun z => ?_) (fun j h1 h2 h3 => ?_)
      · exact q (Int.emod_eq_zero_of_dvd (by exact_mod_cast z))
      · have := hmin j h1 h3
        omega
end
end My

set_option Elab.async false
set_option linter.all false
set_option maxRecDepth 100000
set_option maxHeartbeats 4000000
namespace My
open PySem L2 Mth
abbrev s_Change_gone_rows : Stmt := inClass (top 20) 15
theorem sc_Change_gone_rows : FnScope ["self", "time", "rows", "spans", "first", "last", "step", "low", "high", "kept_step"] ["self", "time"] (defScope s_Change_gone_rows) := ⟨rfl, rfl, rfl, by decide +kernel, rfl, by decide +kernel, by decide +kernel⟩
abbrev s_Change_gone_count : Stmt := inClass (top 20) 6
theorem sc_Change_gone_count : FnScope ["self", "time", "low", "high", "step", "kept_step"] ["self", "time"] (defScope s_Change_gone_count) := ⟨rfl, rfl, rfl, by decide +kernel, rfl, by decide +kernel, by decide +kernel⟩
abbrev s_Change_next_gone : Stmt := inClass (top 20) 7
theorem sc_Change_next_gone : FnScope ["self", "number", "time", "low", "high", "step", "kept_step", "found"] ["self", "number", "time"] (defScope s_Change_next_gone) := ⟨rfl, rfl, rfl, by decide +kernel, rfl, by decide +kernel, by decide +kernel⟩
/-! rows whose steps are powers of the base -/
def Stp (b : Nat) (R : List (Nat × Nat × Nat)) : Prop := ∀ r ∈ R, ∃ i, r.2.2 = b ^ i
theorem stp_nil {b : Nat} : Stp b [] := fun r h => by cases h
theorem stp_snoc {b : Nat} {R : List (Nat × Nat × Nat)} {r : Nat × Nat × Nat} (h : Stp b R) (e : ∃ i, r.2.2 = b ^ i) : Stp b (R ++ [r]) := fun x hx => by
  rcases List.mem_append.mp hx with q | q
  · exact h x q
  · rw [List.mem_singleton.mp q]
    exact e
def sp_krowsP (C : Addr) : Sp := fun vs H Q _ => ∃ (p : Addr) (b f t : Nat), vs = [.ref p, .int t] ∧ Sch C H p b f ∧ t < 2 ^ 150 ∧ ∀ D ts R H', Same H H' → H D = none → H' D = some (.lst (ts.map V.ref)) → RowsAt H' ts (R.map rw3) → Rok R → R.length ≤ 200 → ela R = alv b f t (t + 1) → Stp b R → Q (.ref D) H'
def sp_cutP : Sp := fun vs H Q _ => ∃ (D : Addr) (ts : List Addr) (R : List (Nat × Nat × Nat)) (lo h B : Nat), vs = [.ref D, .int lo, .int ((h : Int) - 1)] ∧ H D = some (.lst (ts.map V.ref)) ∧ RowsAt H ts (R.map rw3) ∧ Rok R ∧ R.length ≤ 200 ∧ Stp B R ∧
  ∀ D' ts' R' H', Same H H' → H D' = none → H' D' = some (.lst (ts'.map V.ref)) → RowsAt H' ts' (R'.map rw3) → Rok R' → R'.length ≤ 200 → ela R' = (ela R).filter (inR lo h) → Stp B R' → Q (.ref D') H'
/-! the gone numbers -/
def gnl (b f b2 f2 c t : Nat) : List Nat := (List.range (c + 1)).filter (gon b f b2 f2 c t)
theorem gnl_asc (b f b2 f2 c t : Nat) : (gnl b f b2 f2 c t).Pairwise (· < ·) := rng_asc _ _
theorem gnl_mem {b f b2 f2 c t n : Nat} : n ∈ gnl b f b2 f2 c t ↔ gon b f b2 f2 c t n = true := by
  unfold gnl
  rw [List.mem_filter, List.mem_range]
  constructor
  · exact fun h => h.2
  · intro h
    refine ⟨?_, h⟩
    unfold gon drp at h
    simp only [Bool.and_eq_true, decide_eq_true_eq] at h
    omega
abbrev G4 := Nat × Nat × Nat × Nat
def rw4 (r : G4) : List Int := [((r.1 : Nat) : Int), ((r.2.1 : Nat) : Int), ((r.2.2.1 : Nat) : Int), ((r.2.2.2 : Nat) : Int)]
theorem rw4_item {R : List G4} {i : Nat} {r : List Int} (h : (R.map rw4)[i]? = some r) : ∃ a l s g : Nat, R[i]? = some (a, l, s, g) ∧ r = [(a : Int), (l : Int), (s : Int), (g : Int)] := by
  rw [List.getElem?_map] at h
  obtain ⟨⟨a, l, s, g⟩, h1, rfl⟩ := Option.map_eq_some_iff.mp h
  exact ⟨a, l, s, g, h1, rfl⟩
def gela (G : List G4) : List Nat := G.flatMap gel
theorem gela_snoc (r : G4) (G : List G4) : gela (G ++ [r]) = gela G ++ gel r := by unfold gela; rw [List.flatMap_append, List.flatMap_cons, List.flatMap_nil, List.append_nil]
def Gok (G : List G4) : Prop := ∀ r ∈ G, Gok1 r.1 r.2.1 r.2.2.1 r.2.2.2
theorem gok_snoc {r : G4} {G : List G4} (h : Gok G) (h1 : Gok1 r.1 r.2.1 r.2.2.1 r.2.2.2) : Gok (G ++ [r]) := fun x hx => by
  rcases List.mem_append.mp hx with q | q
  · exact h x q
  · rw [List.mem_singleton.mp q]
    exact h1
theorem gel_mem {a l s g n : Nat} : n ∈ gel (a, l, s, g) ↔ a ≤ n ∧ n ≤ l ∧ s ∣ n ∧ ¬ g ∣ n := by
  unfold gel
  rw [List.mem_filter, List.mem_range, decide_eq_true_eq]
  constructor
  · rintro ⟨h1, h2, h3, h4⟩
    exact ⟨h2, by have h1 : n < l + 1 := h1; omega, h3, h4⟩
  · rintro ⟨h1, h2, h3, h4⟩
    exact ⟨by show n < l + 1; omega, h1, h3, h4⟩
theorem imax (x y : Nat) : (if ((y : Nat) : Int) > ((x : Nat) : Int) then ((y : Nat) : Int) else ((x : Nat) : Int)) = ((max x y : Nat) : Int) := by
  split <;> omega
theorem imin (x y : Nat) : (if ((y : Nat) : Int) < ((x : Nat) : Int) then ((y : Nat) : Int) else ((x : Nat) : Int)) = ((min x y : Nat) : Int) := by
  split <;> omega
/-- an ascending list, cut at x -/
theorem asc_cut {l : List Nat} (p : Nat → Bool) {x y : Nat} (h : l.Pairwise (· < ·)) (hxy : x ≤ y) : (l.filter fun n => p n && decide (n < y)) = (l.filter fun n => p n && decide (n < x)) ++ l.filter fun n => p n && decide (x ≤ n ∧ n < y) := by
  apply asc_ext (List.Pairwise.filter _ h)
  · rw [List.pairwise_append]
    refine ⟨List.Pairwise.filter _ h, List.Pairwise.filter _ h, fun u hu v hv => ?_⟩
    have h1 := (List.mem_filter.mp hu).2
    have h2 := (List.mem_filter.mp hv).2
    simp only [Bool.and_eq_true, decide_eq_true_eq] at h1 h2
    omega
  · intro u
    rw [List.mem_append, List.mem_filter, List.mem_filter, List.mem_filter]
    simp only [Bool.and_eq_true, decide_eq_true_eq]
    constructor
    · rintro ⟨h1, h2, h3⟩
      rcases Nat.lt_or_ge u x with q | q
      · exact .inl ⟨h1, h2, q⟩
      · exact .inr ⟨h1, h2, q, h3⟩
    · rintro (⟨h1, h2, h3⟩ | ⟨h1, h2, h3, h4⟩)
      · exact ⟨h1, h2, by omega⟩
      · exact ⟨h1, h2, h4⟩
theorem pow_dv {b i j : Nat} (h : i ≤ j) : b ^ i ∣ b ^ j := ⟨b ^ (j - i), by rw [← Nat.pow_add]; congr 1; omega⟩
theorem pow_lt_dv {b i j : Nat} (hb : 2 ≤ b) (h : b ^ i < b ^ j) : i < j := by
  rcases Nat.lt_or_ge i j with q | q
  · exact q
  · exact absurd (Nat.pow_le_pow_right (show b > 0 by omega) q) (Nat.not_le.mpr h)
theorem pow_ge_dv {b i j : Nat} (hb : 2 ≤ b) (h : ¬ b ^ i < b ^ j) : j ≤ i := by
  rcases Nat.lt_or_ge i j with q | q
  · exact absurd (Nat.pow_lt_pow_right (by omega) q) h
  · exact q
/-- a row and a span -/
theorem gone_step {b f c a l s j i : Nat} (hb : 2 ≤ b) (hf : 1 ≤ f) (hr : Rok1 a l s) (hs : s = b ^ i) (h0 : 0 < aft b f c j) :
    ((els a l s).filter fun n => drp b f c n && decide (n < aft b f c j)) = ((els a l s).filter fun n => drp b f c n && decide (n < aft b f c (j + 1))) ++
      (if s < b ^ j ∧ max a (aft b f c (j + 1)) ≤ min l (aft b f c j - 1) then gel (max a (aft b f c (j + 1)), min l (aft b f c j - 1), s, b ^ j) else []) := by
  have hlt := aft_le hb hf j h0
  have hT := @aft_T b f c j
  rw [asc_cut _ (els_asc hr.s0) (Nat.le_of_lt hlt)]
  congr 1
  have key : ∀ n, n ∈ ((els a l s).filter fun n => drp b f c n && decide (aft b f c (j + 1) ≤ n ∧ n < aft b f c j)) ↔ a ≤ n ∧ n ≤ l ∧ s ∣ n ∧ aft b f c (j + 1) ≤ n ∧ n < aft b f c j ∧ ¬ b ^ j ∣ n := by
    intro n
    rw [List.mem_filter, els_mem hr]
    simp only [Bool.and_eq_true, decide_eq_true_eq]
    unfold drp
    simp only [Bool.and_eq_true, decide_eq_true_eq, Bool.not_eq_true']
    constructor
    · rintro ⟨⟨h1, h2, h3⟩, ⟨h4, h5⟩, h6, h7⟩
      refine ⟨h1, h2, h3, h6, h7, fun z => ?_⟩
      rw [(aft_kpt hb hf h6 h7).mpr z] at h5
      cases h5
    · rintro ⟨h1, h2, h3, h6, h7, h8⟩
      refine ⟨⟨h1, h2, h3⟩, ⟨by omega, ?_⟩, h6, h7⟩
      cases e : kpt b f n c with
      | false => rfl
      | true => exact absurd ((aft_kpt hb hf h6 h7).mp e) h8
  split
  · rename_i q
    apply asc_ext (List.Pairwise.filter _ (els_asc hr.s0)) (rng_asc _ _)
    intro n
    show _ ↔ n ∈ gel (max a (aft b f c (j + 1)), min l (aft b f c j - 1), s, b ^ j)
    rw [key, gel_mem]
    constructor
    · rintro ⟨h1, h2, h3, h4, h5, h6⟩
      exact ⟨by omega, by omega, h3, h6⟩
    · rintro ⟨h1, h2, h3, h4⟩
      exact ⟨by omega, by omega, h3, by omega, by omega, h4⟩
  · rename_i q
    refine List.eq_nil_iff_forall_not_mem.mpr fun n hn => ?_
    obtain ⟨h1, h2, h3, h4, h5, h6⟩ := (key n).mp hn
    refine q ⟨?_, by omega⟩
    rcases Nat.lt_or_ge s (b ^ j) with z | z
    · exact z
    · exact absurd (Nat.dvd_trans (pow_dv (b := b) (pow_ge_dv hb (by rw [← hs]; omega))) (by rw [← hs]; exact h3)) h6
theorem gnl_rows {b f b2 f2 c t : Nat} (hct : c ≤ t) : (((alv b2 f2 t (t + 1)).filter (inR 0 (c + 1))).filter (drp b f c)) = gnl b f b2 f2 c t := by
  apply asc_ext (List.Pairwise.filter _ (List.Pairwise.filter _ (rng_asc _ _))) (gnl_asc ..)
  intro n
  rw [gnl_mem, List.mem_filter, List.mem_filter, List.mem_filter, List.mem_range]
  unfold gon inR
  simp only [Bool.and_eq_true, decide_eq_true_eq]
  constructor
  · rintro ⟨⟨⟨h1, h2⟩, h3⟩, h4⟩
    exact ⟨h2, h4⟩
  · rintro ⟨h1, h2⟩
    have h3 : n ≤ c := by
      unfold drp at h2
      simp only [Bool.and_eq_true, decide_eq_true_eq] at h2
      exact h2.1
    exact ⟨⟨⟨by omega, h1⟩, by omega, by omega⟩, h2⟩
def sp_grows (C Ch : Addr) : Sp := fun vs H Q _ => ∃ (p : Addr) (b f b2 f2 c t : Nat), vs = [.ref p, .int t] ∧ Chg C Ch H p b f b2 f2 c ∧ c ≤ t ∧ t < 2 ^ 150 ∧ ∀ D ts G H', Same H H' → H D = none → H' D = some (.lst (ts.map V.ref)) → RowsAt H' ts (G.map rw4) → Gok G → G.length ≤ 31000 → gela G = gnl b f b2 f2 c t → Q (.ref D) H'
def sp_gcount (C Ch : Addr) : Sp := fun vs H Q _ => ∃ (p : Addr) (b f b2 f2 c t : Nat), vs = [.ref p, .int t] ∧ Chg C Ch H p b f b2 f2 c ∧ c ≤ t ∧ t < 2 ^ 150 ∧ ∀ H', Same H H' → Q (.int (gnl b f b2 f2 c t).length) H'
def sp_ngone (C Ch : Addr) : Sp := fun vs H Q _ => ∃ (p : Addr) (b f b2 f2 c n t : Nat), vs = [.ref p, .int n, .int t] ∧ Chg C Ch H p b f b2 f2 c ∧ c ≤ t ∧ t < 2 ^ 150 ∧
  ((∀ j ∈ gnl b f b2 f2 c t, j < n) → ∀ H', Same H H' → Q .non H') ∧ ∀ m H', Same H H' → m ∈ gnl b f b2 f2 c t → n ≤ m → (∀ j ∈ gnl b f b2 f2 c t, n ≤ j → m ≤ j) → Q (.int (m : Nat)) H'
theorem small31 {n : Nat} (h : n ≤ 31000) : n < sizeLine := Nat.lt_of_le_of_lt h (by decide)
section
variable {P : Program} {w : World} {K : PySem.W.Frag} {mg : Str → Option Value} {base : Heap}
theorem ok_krowsP {f C : Addr} {fd : FuncData} (F : Fun K "kept_rows" "kept_rows" s_kept_rows f fd) (T : Txt K mg C) (c_kept_spans : CalF P w K mg base 2 "kept_spans" ["scheme", "time"] (sp_kspans C)) (c_round_up : CalF P w K mg base 1 "round_up" ["number", "step"] sp_rup) (c_round_down : CalF P w K mg base 1 "round_down" ["number", "step"] sp_rdn) : FnOk P w K mg base CX0 3 f fd ["scheme", "time"] (sp_krowsP C) := by
  refine F.ok sc_kept_rows (fun vs H Q E h => ?_) (fun cdv A outer s H vs Q E hr h => ?_)
  · obtain ⟨p, b, f, t, rfl, _⟩ := h
    rfl
  · obtain ⟨p, b, f, t, rfl, S, ht, k⟩ := h
    obtain ⟨⟨dx, hp⟩, hb, hb2, hf, hf2⟩ := id S
    refine ⟨_, (pss_cons (ps_set (i := 2) sc_kept_rows.nd rfl (Or.inl rfl) (pe_lst pa_nil))
      (pss_cons (ps_for PassesOwn.never rfl (pi_list (pe_callF c_kept_spans (hr.mono (by decide)) rfl (pa_cons (pv 0) (pa_cons (pv 1) pa_nil)))) (pg_tup (by rfl) (pgs_cons (pg_name (i := 3) sc_kept_rows.nd rfl (Or.inl rfl)) (pgs_cons (pg_name (i := 4) sc_kept_rows.nd rfl (Or.inl rfl)) (pgs_cons (pg_name (i := 5) sc_kept_rows.nd rfl (Or.inl rfl)) pgs_nil))))
      (pss_cons (ps_set (i := 6) sc_kept_rows.nd rfl (Or.inl rfl) (pe_callF c_round_up (hr.mono (by decide)) rfl (pa_cons (pv 3) (pa_cons (pv 5) pa_nil))))
      (pss_cons (ps_set (i := 7) sc_kept_rows.nd rfl (Or.inl rfl) (pe_callF c_round_down (hr.mono (by decide)) rfl (pa_cons (pv 4) (pa_cons (pv 5) pa_nil))))
      (pss_one (ps_if (pt_cmpR op_le (pv 6) (pv 7) (nomark _)) (pss_one (ps_expr (pe_bm PySem.F.plainAttrs_list PySem.F.slot_list_append PySem.F.type_list_append mt_append (pv 2) (pa_cons (pe_tup (pa_cons (pv 6) (pa_cons (pv 7) (pa_cons (pv 5) pa_nil)))) pa_nil)))) pss_nil)))))
      (pss_one (ps_ret (pv 2))))), ?_⟩
    refine ⟨by show 0 ≤ sizeLine; decide, fun D2 hD2 => ?_⟩
    have hD2' : (upd H D2 (.lst [])) D2 = some (.lst []) := upd_same
    have s0 : Same H (upd H D2 (.lst [])) := Same.upd hD2
    generalize upd H D2 (.lst []) = H0 at *
    refine ⟨_, rfl, _, rfl, p, b, f, t, rfl, S.same s0, ht, fun D ts J H1 s1 hD hD1 hR hJ => ?_⟩
    have hDD : D ≠ D2 := (ne_of_none hD2' hD).symm
    refine ⟨D, rfl, ⟨_, SqL.of hD1⟩, for_list (K := K) (a := D) (xs := ts.map V.ref) (fun i σ H2 => ∃ (c3 c4 c5 c6 c7 : Option V) (us : List Addr) (R : List (Nat × Nat × Nat)), σ = [some (.ref p), some (.int t), some (.ref D2), c3, c4, c5, c6, c7] ∧ Same H H2 ∧ H2 D = some (.lst (ts.map V.ref)) ∧ RowsAt H2 ts ((spans b f t J).map rw3) ∧ H2 D2 = some (.lst (us.map V.ref)) ∧ RowsAt H2 us (R.map rw3) ∧ Rok R ∧ Stp b R ∧ R.length ≤ i ∧ ela R = alv b f t (aft b f t (J - i))) ⟨none, none, none, none, none, [], [], rfl, s0.trans s1, hD1, hR, s1 _ _ hD2', .nil, rok_nil, stp_nil, Nat.le_refl _, ?_⟩ (fun i σ H2 _ ⟨_, _, _, _, _, _, _, _, s2, z, _⟩ => SqL.of z) ?_ ?_⟩
    · rw [Nat.sub_zero, hJ.nul]
      rfl
    · rintro i y σ H2 hi ⟨c3, c4, c5, c6, c7, us, R, rfl, s2, hDl, hRs, h2, hR', hok', hst', hlen', hel⟩
      obtain ⟨t', rfl, ht'⟩ := ref_item hi
      obtain ⟨r, hr', hrt⟩ := hRs.get ht'
      obtain ⟨a0, l0, st, hi', rfl⟩ := rw3_item hr'
      obtain ⟨hiJ, er⟩ := spans_get hi'
      obtain ⟨j, hj⟩ : ∃ j, j = J - 1 - i := ⟨_, rfl⟩
      rw [← hj] at er
      cases er
      have h0 : 0 < aft b f t j := hJ.pos j (by omega)
      have hu : 0 < b ^ j := pow_pos' hb
      have hs0 : (0 : Int) < ((b ^ j : Nat) : Int) := by omega
      have hJ151 := hJ.le
      have eJ : J - i = j + 1 := by omega
      have eJ2 : J - (i + 1) = j := by omega
      refine ⟨t', _, rfl, SqT.of hrt, rfl, _, _, rfl, _, _, rfl, _, _, rfl, rfl, ?_⟩
      refine ⟨_, rfl, _, rfl, _, _, rfl, hs0, ?_⟩
      refine ⟨_, rfl, _, rfl, _, _, rfl, hs0, ?_⟩
      have e6 : ((aft b f t j - 1 : Nat) : Int) = ((aft b f t j : Nat) : Int) - 1 := by omega
      have sA := rup_spec (x := ((aft b f t (j + 1) : Nat) : Int)) hs0
      have sL := rdn_spec (x := ((aft b f t j - 1 : Nat) : Int)) hs0
      generalize hA : ((aft b f t (j + 1) : Nat) : Int) + -((aft b f t (j + 1) : Nat) : Int) % ((b ^ j : Nat) : Int) = A at *
      generalize hL : ((aft b f t j - 1 : Nat) : Int) - ((aft b f t j - 1 : Nat) : Int) % ((b ^ j : Nat) : Int) = L at *
      rw [e6] at sL
      obtain ⟨r1, r2⟩ := row_in2 hb hb2 hf ht h0 sA sL
      rw [eJ] at hel
      refine ⟨_, rfl, _, rfl, _, _, rfl, rfl, _, rfl, ?_⟩
      refine ifD (fun q1 => ?_) (fun q1 => ?_)
      · obtain ⟨a', l', eA, eL, hr1', he⟩ := r1 q1
        refine ⟨_, rfl, .inl ⟨rfl, _, SqL.of h2⟩, _, rfl, _, rfl, _, rfl, by show 3 ≤ sizeLine; decide, fun q hq => ?_⟩
        have hqD : D2 ≠ q := ne_of_none h2 hq
        have h3 : (upd H2 q (.tup [.int A, .int L, .int ((b ^ j : Nat) : Int)])) D2 = some (.lst (us.map V.ref)) := by rw [upd_ne hqD]; exact h2
        have s3 : Same H2 (upd H2 q (.tup [.int A, .int L, .int ((b ^ j : Nat) : Int)])) := Same.upd hq
        refine ⟨D2, _, _, rfl, rfl, h3, by rw [List.length_map, hR'.len, List.length_map]; exact Nat.lt_of_le_of_lt (show R.length ≤ 200 by omega) (by decide), ?_⟩
        refine ⟨_, _, _, _, _, us ++ [q], R ++ [(a', l', b ^ j)], rfl, ?_, ?_, ?_, ?_, ?_, rok_snoc hok' hr1', stp_snoc hst' ⟨_, rfl⟩, ?_, ?_⟩
        · intro x o e
          rw [upd_ne (ne_of_none e hD2)]
          exact s3 _ _ (s2 _ _ e)
        · rw [upd_ne hDD]
          exact s3 _ _ hDl
        · exact RowsAt.lst h3 (hRs.same s3)
        · rw [upd_same, List.map_append]
          rfl
        · rw [List.map_append]
          refine RowsAt.lst h3 ((hR'.same s3).snoc ?_)
          rw [upd_same, eA, eL]
          rfl
        · rw [List.length_append]
          show R.length + 1 ≤ i + 1
          omega
        · rw [ela_snoc, eJ2, hel, he]
      · refine ⟨_, _, _, _, _, us, R, rfl, s2, hDl, hRs, h2, hR', hok', hst', by omega, ?_⟩
        rw [eJ2, hel, r2 q1]
    · rintro σ H2 ⟨c3, c4, c5, c6, c7, us, R, rfl, s2, hDl, hRs, h2, hR', hok', hst', hlen', hel⟩
      have e : (ts.map V.ref).length = J := by rw [List.length_map, hR.len, List.length_map, spans_len]
      rw [e] at hlen' hel
      rw [Nat.sub_self] at hel
      have := hJ.le
      exact ⟨_, rfl, k D2 us R _ s2 hD2 h2 hR' hok' (by omega) hel hst'⟩
theorem ok_cutP {f C : Addr} {fd : FuncData} (F : Fun K "cut_rows" "cut_rows" s_cut_rows f fd) (T : Txt K mg C) (c_round_up : CalF P w K mg base 1 "round_up" ["number", "step"] sp_rup) (c_round_down : CalF P w K mg base 1 "round_down" ["number", "step"] sp_rdn) : FnOk P w K mg base CX0 2 f fd ["rows", "low", "high"] sp_cutP := by
  refine F.ok sc_cut_rows (fun vs H Q E h => ?_) (fun cdv A outer s H vs Q E hr h => ?_)
  · obtain ⟨D, ts, R, lo, h, B, rfl, _⟩ := h
    rfl
  · obtain ⟨D, ts, R, lo, h, B, rfl, hD, hR, hok, hlen, hst, k⟩ := h
    refine ⟨_, (pss_cons (ps_set (i := 3) sc_cut_rows.nd rfl (Or.inl rfl) (pe_lst pa_nil))
      (pss_cons (ps_for PassesOwn.never rfl (pi_list (pv 0)) (pg_tup (by rfl) (pgs_cons (pg_name (i := 4) sc_cut_rows.nd rfl (Or.inl rfl)) (pgs_cons (pg_name (i := 5) sc_cut_rows.nd rfl (Or.inl rfl)) (pgs_cons (pg_name (i := 6) sc_cut_rows.nd rfl (Or.inl rfl)) pgs_nil))))
      (pss_cons (ps_set (i := 7) sc_cut_rows.nd rfl (Or.inl rfl) (pe_callB (call_max2 rfl) (by rfl) T.b_max (by decide +kernel) (pa_cons (pv 4) (pa_cons (pe_callF c_round_up (hr.mono (by decide)) rfl (pa_cons (pv 1) (pa_cons (pv 6) pa_nil))) pa_nil))))
      (pss_cons (ps_set (i := 8) sc_cut_rows.nd rfl (Or.inl rfl) (pe_callB (call_min2 rfl) (by rfl) T.b_min (by decide +kernel) (pa_cons (pv 5) (pa_cons (pe_callF c_round_down (hr.mono (by decide)) rfl (pa_cons (pv 2) (pa_cons (pv 6) pa_nil))) pa_nil))))
      (pss_one (ps_if (pt_cmpR op_le (pv 7) (pv 8) (nomark _)) (pss_one (ps_expr (pe_bm PySem.F.plainAttrs_list PySem.F.slot_list_append PySem.F.type_list_append mt_append (pv 3) (pa_cons (pe_tup (pa_cons (pv 7) (pa_cons (pv 8) (pa_cons (pv 6) pa_nil)))) pa_nil)))) pss_nil)))))
      (pss_one (ps_ret (pv 3))))), ?_⟩
    refine ⟨by show 0 ≤ sizeLine; decide, fun D2 hD2 => ?_⟩
    have hDD : D ≠ D2 := ne_of_none hD hD2
    refine ⟨_, rfl, D, rfl, ⟨_, SqL.of (show (upd H D2 (.lst [])) D = _ by rw [upd_ne hDD]; exact hD)⟩, for_list (K := K) (a := D) (xs := ts.map V.ref) (fun i σ H2 => ∃ (c4 c5 c6 c7 c8 : Option V) (us : List Addr) (R' : List (Nat × Nat × Nat)), σ = [some (.ref D), some (.int lo), some (.int ((h : Int) - 1)), some (.ref D2), c4, c5, c6, c7, c8] ∧ Same H H2 ∧ H2 D2 = some (.lst (us.map V.ref)) ∧ RowsAt H2 us (R'.map rw3) ∧ Rok R' ∧ Stp B R' ∧ R'.length ≤ i ∧ ela R' = (ela (R.take i)).filter (inR lo h)) ⟨none, none, none, none, none, [], [], rfl, Same.upd hD2, upd_same, .nil, rok_nil, stp_nil, Nat.le_refl _, rfl⟩ (fun i σ H2 _ ⟨_, _, _, _, _, _, _, _, s2, _⟩ => SqL.of (s2 _ _ hD)) ?_ ?_⟩
    · rintro i y σ H2 hi ⟨c4, c5, c6, c7, c8, us, R', rfl, s2, h2, hR', hok', hst', hlen', hel⟩
      obtain ⟨t', rfl, ht'⟩ := ref_item hi
      obtain ⟨r, hr', hrt⟩ := hR.get ht'
      obtain ⟨a, l, s, hi', rfl⟩ := rw3_item hr'
      have hr1 : Rok1 a l s := hok _ (List.mem_of_getElem? hi')
      have hlt := (List.getElem?_eq_some_iff.mp hi').1
      have hs0 : (0 : Int) < (s : Int) := by have := hr1.s0; show (0 : Int) < (s : Int); omega
      refine ⟨t', _, rfl, SqT.of (s2 _ _ hrt), rfl, _, _, rfl, _, _, rfl, _, _, rfl, rfl, ?_⟩
      refine ⟨_, rfl, _, rfl, _, rfl, _, _, rfl, hs0, _, _, rfl, ?_⟩
      refine ⟨_, rfl, _, rfl, _, rfl, _, _, rfl, hs0, _, _, rfl, ?_⟩
      have sU := rup_spec (x := (lo : Int)) hs0
      have sG := rdn_spec (x := (h : Int) - 1) hs0
      generalize hU : (lo : Int) + -(lo : Int) % (s : Int) = U at *
      generalize hG : (h : Int) - 1 - ((h : Int) - 1) % (s : Int) = G at *
      obtain ⟨X, hX⟩ : ∃ X : Int, X = if U > (a : Int) then U else (a : Int) := ⟨_, rfl⟩
      obtain ⟨L, hL⟩ : ∃ L : Int, L = if G < (l : Int) then G else (l : Int) := ⟨_, rfl⟩
      obtain ⟨r1, r2⟩ := cut_in hr1 sU sG hX hL
      rw [← hX, ← hL]
      refine ⟨_, rfl, _, rfl, _, _, rfl, rfl, _, rfl, ?_⟩
      have eR : (ela (R.take (i + 1))).filter (inR lo h) = ela R' ++ (els a l s).filter (inR lo h) := by
        rw [take_s hi', ela_snoc, List.filter_append, hel]
      refine ifD (fun q1 => ?_) (fun q1 => ?_)
      · obtain ⟨a', l', eA, eL, hr1', he⟩ := r1 q1
        refine ⟨_, rfl, .inl ⟨rfl, _, SqL.of h2⟩, _, rfl, _, rfl, _, rfl, by show 3 ≤ sizeLine; decide, fun q hq => ?_⟩
        have hqD : D2 ≠ q := ne_of_none h2 hq
        have h3 : (upd H2 q (.tup [.int X, .int L, .int (s : Int)])) D2 = some (.lst (us.map V.ref)) := by rw [upd_ne hqD]; exact h2
        have s3 : Same H2 (upd H2 q (.tup [.int X, .int L, .int (s : Int)])) := Same.upd hq
        refine ⟨D2, _, _, rfl, rfl, h3, by rw [List.length_map, hR'.len, List.length_map]; exact Nat.lt_of_le_of_lt (show R'.length ≤ 200 by omega) (by decide), ?_⟩
        refine ⟨_, _, _, _, _, us ++ [q], R' ++ [(a', l', s)], rfl, ?_, ?_, ?_, rok_snoc hok' hr1', stp_snoc hst' (hst (a, l, s) (List.mem_of_getElem? hi')), ?_, ?_⟩
        · intro x o e
          rw [upd_ne (ne_of_none e hD2)]
          exact s3 _ _ (s2 _ _ e)
        · rw [upd_same, List.map_append]
          rfl
        · rw [List.map_append]
          refine RowsAt.lst h3 ((hR'.same s3).snoc ?_)
          rw [upd_same, eA, eL]
          rfl
        · rw [List.length_append]
          show R'.length + 1 ≤ i + 1
          omega
        · rw [ela_snoc, eR, he]
      · refine ⟨_, _, _, _, _, us, R', rfl, s2, h2, hR', hok', hst', by omega, ?_⟩
        rw [eR, r2 q1, List.append_nil]
    · rintro σ H2 ⟨c4, c5, c6, c7, c8, us, R', rfl, s2, h2, hR', hok', hst', hlen', hel⟩
      have e : (ts.map V.ref).length = R.length := by rw [List.length_map, hR.len, List.length_map]
      rw [e] at hlen' hel
      rw [List.take_length] at hel
      exact ⟨_, rfl, k D2 us R' _ s2 hD2 h2 hR' hok' (by omega) hel hst'⟩
end
end My

set_option Elab.async false
set_option linter.all false
set_option maxRecDepth 100000
set_option maxHeartbeats 4000000
namespace My
open PySem L2 Mth
/-- what stays while the gone rows are laid -/
structure Gi (H0 : Hp) (D D1 D3 : Addr) (us ws : List Addr) (S R : List (Nat × Nat × Nat)) (H : Hp) (ts : List Addr) (G : List G4) : Prop where
  s : Same H0 H
  d3 : H D3 = some (.lst (ws.map V.ref))
  r3 : RowsAt H ws (R.map rw3)
  d1 : H D1 = some (.lst (us.map V.ref))
  r1 : RowsAt H us (S.map rw3)
  d : H D = some (.lst (ts.map V.ref))
  r : RowsAt H ts (G.map rw4)
  ok : Gok G
theorem Gi.put {H0 : Hp} {D D1 D3 : Addr} {us ws : List Addr} {S R : List (Nat × Nat × Nat)} {H : Hp} {ts : List Addr} {G : List G4} {q : Addr} {a l s g : Nat} (h : Gi H0 D D1 D3 us ws S R H ts G) (h0 : H0 D = none) (n1 : D1 ≠ D) (n3 : D3 ≠ D) (hq : H q = none) (hg : Gok1 a l s g) :
    Gi H0 D D1 D3 us ws S R (upd (upd H q (.tup [.int (a : Nat), .int (l : Nat), .int (s : Nat), .int (g : Nat)])) D (.lst (ts.map V.ref ++ [V.ref q]))) (ts ++ [q]) (G ++ [(a, l, s, g)]) := by
  have s3 : Same H (upd H q (.tup [.int (a : Nat), .int (l : Nat), .int (s : Nat), .int (g : Nat)])) := Same.upd hq
  have hd := s3 _ _ h.d
  refine ⟨fun x o e => ?_, ?_, RowsAt.lst hd (h.r3.same s3), ?_, RowsAt.lst hd (h.r1.same s3), ?_, ?_, gok_snoc h.ok hg⟩
  · rw [upd_ne (ne_of_none e h0)]
    exact s3 _ _ (h.s _ _ e)
  · rw [upd_ne n3]
    exact s3 _ _ h.d3
  · rw [upd_ne n1]
    exact s3 _ _ h.d1
  · rw [upd_same, List.map_append]
    rfl
  · rw [List.map_append]
    refine RowsAt.lst hd ((h.r.same s3).snoc ?_)
    rw [upd_same]
    rfl
theorem cnt_end {b f c : Nat} {L : List Nat} (h : ∀ n ∈ L, n ≤ c) : (L.filter fun n => drp b f c n && decide (n < aft b f c 0)) = L.filter (drp b f c) := by
  apply List.filter_congr
  intro n hn
  have e : decide (n < aft b f c 0) = true := decide_eq_true (show n < c + 1 by have := h n hn; omega)
  rw [e, Bool.and_true]
theorem cnt_beg {b f c : Nat} {L : List Nat} : (L.filter fun n => drp b f c n && decide (n < 0)) = [] := List.filter_eq_nil_iff.mpr fun n _ => by simp
section
variable {P : Program} {w : World} {K : PySem.W.Frag} {mg : Str → Option Value} {base : Heap}
theorem ok_grows {f C Ch : Addr} {fd : FuncData} (F : Fun K "gone_rows" "Change.gone_rows" s_Change_gone_rows f fd) (T : Txt K mg C) (TD : TxtD K mg Ch) (c_kept_spans : CalF P w K mg base 2 "kept_spans" ["scheme", "time"] (sp_kspans C)) (c_kept_rows : CalF P w K mg base 3 "kept_rows" ["scheme", "time"] (sp_krowsP C)) (c_cut_rows : CalF P w K mg base 2 "cut_rows" ["rows", "low", "high"] sp_cutP) : FnOk P w K mg base CX0 4 f fd ["self", "time"] (sp_grows C Ch) := by
  refine F.ok sc_Change_gone_rows (fun vs H Q E h => ?_) (fun cdv A outer s H vs Q E hr h => ?_)
  · obtain ⟨p, b, f, b2, f2, c, t, rfl, _⟩ := h
    rfl
  · obtain ⟨p, b, f, b2, f2, c, t, rfl, X, hct, ht, k⟩ := h
    obtain ⟨⟨hb, hbt, hf, hft⟩, hb2, hb2t, hf2, hf2t⟩ := X.b2
    obtain ⟨kk, hk1, hkk⟩ := X.pw
    obtain ⟨dx, q1, q2, hp, S1, S2⟩ := X.ob
    have hc := X.ct
    have hc2 : c < 2 ^ 150 := Nat.lt_trans hc (by decide)
    refine ⟨_, (pss_cons (ps_set (i := 2) sc_Change_gone_rows.nd rfl (Or.inl rfl) (pe_lst pa_nil))
      (pss_cons (ps_set (i := 3) sc_Change_gone_rows.nd rfl (Or.inl rfl) (pe_callF c_kept_spans (hr.mono (by decide)) rfl (pa_cons (pe_fld (pv 0) rfl) (pa_cons (pe_fld (pv 0) rfl) pa_nil))))
      (pss_cons (ps_for PassesOwn.never rfl (pi_list (pe_callF c_cut_rows (hr.mono (by decide)) rfl (pa_cons (pe_callF c_kept_rows (hr.mono (by decide)) rfl (pa_cons (pe_fld (pv 0) rfl) (pa_cons (pv 1) pa_nil))) (pa_cons pe_int (pa_cons (pe_fld (pv 0) rfl) pa_nil))))) (pg_tup (by rfl) (pgs_cons (pg_name (i := 4) sc_Change_gone_rows.nd rfl (Or.inl rfl)) (pgs_cons (pg_name (i := 5) sc_Change_gone_rows.nd rfl (Or.inl rfl)) (pgs_cons (pg_name (i := 6) sc_Change_gone_rows.nd rfl (Or.inl rfl)) pgs_nil))))
      (pss_one (ps_for PassesOwn.never rfl (pi_list (pv 3)) (pg_tup (by rfl) (pgs_cons (pg_name (i := 7) sc_Change_gone_rows.nd rfl (Or.inl rfl)) (pgs_cons (pg_name (i := 8) sc_Change_gone_rows.nd rfl (Or.inl rfl)) (pgs_cons (pg_name (i := 9) sc_Change_gone_rows.nd rfl (Or.inl rfl)) pgs_nil))))
      (pss_one (ps_if (PW.pt (pw_and (pt_cmpR op_lt (pv 6) (pv 9) (nomark _)) (pw_and1 (pt_cmpR op_le (pe_callB (call_max2 rfl) (by rfl) T.b_max (by decide +kernel) (pa_cons (pv 4) (pa_cons (pv 7) pa_nil))) (pe_callB (call_min2 rfl) (by rfl) T.b_min (by decide +kernel) (pa_cons (pv 5) (pa_cons (pv 8) pa_nil))) (nomark _))))) (pss_one (ps_expr (pe_bm PySem.F.plainAttrs_list PySem.F.slot_list_append PySem.F.type_list_append mt_append (pv 2) (pa_cons (pe_tup (pa_cons (pe_callB (call_max2 rfl) (by rfl) T.b_max (by decide +kernel) (pa_cons (pv 4) (pa_cons (pv 7) pa_nil))) (pa_cons (pe_callB (call_min2 rfl) (by rfl) T.b_min (by decide +kernel) (pa_cons (pv 5) (pa_cons (pv 8) pa_nil))) (pa_cons (pv 6) (pa_cons (pv 9) pa_nil))))) pa_nil)))) pss_nil)))))
      (pss_one (ps_ret (pv 2)))))), ?_⟩
    refine ⟨by show 0 ≤ sizeLine; decide, fun D hD => ?_⟩
    have hD' : (upd H D (.lst [])) D = some (.lst []) := upd_same
    have s0 : Same H (upd H D (.lst [])) := Same.upd hD
    generalize upd H D (.lst []) = H0 at *
    refine ⟨_, rfl, p, Ch, dx, _, _, rfl, s0 _ _ hp, TD.cl, TD.n0, cfl_0 .., _, rfl, p, Ch, dx, _, _, rfl, s0 _ _ hp, TD.cl, TD.n2, cfl_2 .., q1, b, f, c, rfl, S1.same s0, hc2, fun D1 us J H1 s1 n1 hD1 hR1 hJ => ?_⟩
    have s01 := s0.trans s1
    refine ⟨_, rfl, p, Ch, dx, _, _, rfl, s01 _ _ hp, TD.cl, TD.n1, cfl_1 .., _, rfl, q2, b2, f2, t, rfl, S2.same s01, ht, fun D2 vs R H2 s2 n2 hD2 hR2 hok2 hlen2 hel2 hst2 => ?_⟩
    have s02 := s01.trans s2
    refine ⟨_, rfl, p, Ch, dx, _, _, rfl, s02 _ _ hp, TD.cl, TD.n2, cfl_2 .., D2, vs, R, 0, c + 1, b2, by rw [show (((c + 1 : Nat) : Int) - 1) = (c : Int) by omega]; rfl, hD2, hR2, hok2, hlen2, hst2, fun D3 ws R3 H3 s3 n3 hD3 hR3 hok3 hlen3 hel3 hst3 => ?_⟩
    have s13 := s2.trans s3
    have hD1n : D1 ≠ D := (ne_of_none hD' n1).symm
    have hD3n : D3 ≠ D := (ne_of_none (s2 _ _ (s1 _ _ hD')) n3).symm
    have h151 := hJ.le
    rw [hel2] at hel3
    have bnd : ∀ n ∈ ela R3, n ≤ c := fun n hn => by
      rw [hel3] at hn
      have := (List.mem_filter.mp hn).2
      unfold inR at this
      simp only [decide_eq_true_eq] at this
      omega
    refine ⟨D3, rfl, ⟨_, SqL.of hD3⟩, for_list (K := K) (a := D3) (xs := ws.map V.ref) (fun i σ Hx => ∃ (c4 c5 c6 c7 c8 c9 : Option V) (ts : List Addr) (G : List G4), σ = [some (.ref p), some (.int t), some (.ref D), some (.ref D1), c4, c5, c6, c7, c8, c9] ∧ Gi H D D1 D3 us ws (spans b f c J) R3 Hx ts G ∧ G.length ≤ i * 151 ∧ gela G = (ela (R3.take i)).filter (drp b f c)) ⟨none, none, none, none, none, none, [], [], rfl, ⟨s0.trans (s1.trans s13), hD3, hR3, s13 _ _ hD1, hR1.same s13, s13 _ _ (s1 _ _ hD'), .nil, fun x hx => by cases hx⟩, Nat.zero_le _, rfl⟩ (fun i σ Hx _ ⟨_, _, _, _, _, _, _, _, _, g, _⟩ => SqL.of g.d3) ?_ ?_⟩
    · rintro i y σ Hx hi ⟨c4, c5, c6, c7, c8, c9, ts, G, rfl, g, hGl, hGe⟩
      obtain ⟨t', rfl, ht'⟩ := ref_item hi
      obtain ⟨r, hr', hrt⟩ := g.r3.get ht'
      obtain ⟨a, l, s, hi', rfl⟩ := rw3_item hr'
      have hr1 : Rok1 a l s := hok3 _ (List.mem_of_getElem? hi')
      obtain ⟨ii, hs⟩ : ∃ ii, s = b2 ^ ii := hst3 (a, l, s) (List.mem_of_getElem? hi')
      have hsb : s = b ^ (kk * ii) := by rw [hs, hkk, Nat.pow_mul]
      have hlt3 := (List.getElem?_eq_some_iff.mp hi').1
      have bnd2 : ∀ n ∈ els a l s, n ≤ c := fun n hn => bnd n (List.mem_flatMap.mpr ⟨_, List.mem_of_getElem? hi', hn⟩)
      refine ⟨t', _, rfl, SqT.of hrt, rfl, _, _, rfl, _, _, rfl, _, _, rfl, rfl, ?_⟩
      refine ⟨_, rfl, D1, rfl, ⟨_, SqL.of g.d1⟩, for_list (K := K) (a := D1) (xs := us.map V.ref) (fun j σ Hy => ∃ (e7 e8 e9 : Option V) (ts : List Addr) (G : List G4), σ = [some (.ref p), some (.int t), some (.ref D), some (.ref D1), some (.int (a : Nat)), some (.int (l : Nat)), some (.int (s : Nat)), e7, e8, e9] ∧ Gi H D D1 D3 us ws (spans b f c J) R3 Hy ts G ∧ G.length ≤ i * 151 + j ∧ gela G = (ela (R3.take i)).filter (drp b f c) ++ (els a l s).filter fun n => drp b f c n && decide (n < aft b f c (J - j))) ⟨_, _, _, ts, G, rfl, g, hGl, ?_⟩ (fun j σ Hy _ ⟨_, _, _, _, _, _, g, _⟩ => SqL.of g.d1) ?_ ?_⟩
      · rw [Nat.sub_zero, hJ.nul, cnt_beg, List.append_nil]
        exact hGe
      · clear g hGl hGe
        rintro j y σ Hy hj ⟨e7, e8, e9, ts, G, rfl, g, hGl, hGe⟩
        obtain ⟨u', rfl, hu'⟩ := ref_item hj
        obtain ⟨r, hr2, hrt2⟩ := g.r1.get hu'
        obtain ⟨lo, hi2, ks, hj', rfl⟩ := rw3_item hr2
        obtain ⟨hjJ, er⟩ := spans_get hj'
        obtain ⟨jj, hjj⟩ : ∃ jj, jj = J - 1 - j := ⟨_, rfl⟩
        rw [← hjj] at er
        cases er
        have h0 : 0 < aft b f c jj := hJ.pos jj (by omega)
        have eJ : J - j = jj + 1 := by omega
        have eJ2 : J - (j + 1) = jj := by omega
        have st := gone_step hb hf hr1 hsb h0
        rw [eJ] at hGe
        refine ⟨u', _, rfl, SqT.of hrt2, rfl, _, _, rfl, _, _, rfl, _, _, rfl, rfl, ?_⟩
        refine ⟨_, rfl, _, rfl, _, _, rfl, rfl, _, rfl, ?_⟩
        refine ifD (fun p1 => ?_) (fun p1 => ?_)
        · have p1 : s < b ^ jj := by exact_mod_cast p1
          refine ⟨_, rfl, _, rfl, _, _, rfl, _, rfl, _, rfl, _, _, rfl, ?_⟩
          rw [imax, imin]
          refine ⟨_, _, rfl, rfl, _, rfl, ?_⟩
          refine ifD (fun p2 => ?_) (fun p2 => ?_)
          · have p2 : max a (aft b f c (jj + 1)) ≤ min l (aft b f c jj - 1) := by exact_mod_cast p2
            rw [if_pos ⟨p1, p2⟩] at st
            have hG1 : Gok1 (max a (aft b f c (jj + 1))) (min l (aft b f c jj - 1)) s (b ^ jj) := ⟨hr1.s0, Nat.lt_trans (aft_pow hb hbt hf hc2 jj h0).1 (by decide), p2, by rw [hsb]; exact pow_dv (Nat.le_of_lt (pow_lt_dv hb (by rw [← hsb]; exact p1))), p1⟩
            refine ⟨_, rfl, .inl ⟨rfl, _, SqL.of g.d⟩, _, rfl, _, rfl, _, _, rfl, _, rfl, _, rfl, _, _, rfl, _, rfl, _, rfl, by show 4 ≤ sizeLine; decide, fun q hq => ?_⟩
            rw [imax, imin]
            have hqD : D ≠ q := ne_of_none g.d hq
            refine ⟨D, _, _, rfl, rfl, (by rw [upd_ne hqD]; exact g.d), by rw [List.length_map, g.r.len, List.length_map]; exact small31 (by omega), ?_⟩
            refine ⟨_, _, _, ts ++ [q], _, rfl, g.put hD hD1n hD3n hq hG1, by rw [List.length_append]; show G.length + 1 ≤ _; omega, ?_⟩
            rw [gela_snoc, hGe, eJ2, st, List.append_assoc]
          · have p2 : ¬ max a (aft b f c (jj + 1)) ≤ min l (aft b f c jj - 1) := fun z => p2 (by exact_mod_cast z)
            rw [if_neg (fun z => p2 z.2), List.append_nil] at st
            refine ⟨_, _, _, ts, G, rfl, g, by omega, ?_⟩
            rw [hGe, eJ2, st]
        · have p1 : ¬ s < b ^ jj := fun z => p1 (by exact_mod_cast z)
          rw [if_neg (fun z => p1 z.1), List.append_nil] at st
          refine iteF ?_
          refine ⟨_, _, _, ts, G, rfl, g, by omega, ?_⟩
          rw [hGe, eJ2, st]
      · clear g hGl hGe
        rintro σ Hy ⟨e7, e8, e9, ts, G, rfl, g, hGl, hGe⟩
        have e : (us.map V.ref).length = J := by rw [List.length_map, g.r1.len, List.length_map, spans_len]
        rw [e] at hGl hGe
        rw [Nat.sub_self, cnt_end bnd2] at hGe
        refine ⟨_, _, _, _, _, _, ts, G, rfl, g, by omega, ?_⟩
        rw [take_s hi', ela_snoc, List.filter_append, hGe]
    · rintro σ Hx ⟨c4, c5, c6, c7, c8, c9, ts, G, rfl, g, hGl, hGe⟩
      have e : (ws.map V.ref).length = R3.length := by rw [List.length_map, g.r3.len, List.length_map]
      rw [e] at hGl hGe
      rw [List.take_length, hel3, gnl_rows hct] at hGe
      exact ⟨_, rfl, k D ts G Hx g.s hD g.d g.r g.ok (by omega) hGe⟩
end
end My

set_option Elab.async false
set_option linter.all false
set_option maxRecDepth 100000
set_option maxHeartbeats 4000000
namespace My
open PySem L2 Mth
def gcI (G : List G4) : List Int := G.map fun r => (((gel r).length : Nat) : Int)
theorem gcI_sum : ∀ G : List G4, (gcI G).sum = (((gela G).length : Nat) : Int)
  | [] => rfl
  | r :: G => by
    have ih := gcI_sum G
    unfold gcI gela at *
    rw [List.map_cons, List.sum_cons, ih, List.flatMap_cons, List.length_append, Int.natCast_add]
theorem gela_app (G G' : List G4) : gela (G ++ G') = gela G ++ gela G' := by unfold gela; rw [List.flatMap_append]
section
variable {P : Program} {w : World} {K : PySem.W.Frag} {mg : Str → Option Value} {base : Heap}
theorem ok_gcount {f C Ch : Addr} {fd : FuncData} (F : Fun K "gone_count" "Change.gone_count" s_Change_gone_count f fd) (T : Txt K mg C) (TD : TxtD K mg Ch) (c_Change_check_later : CalM P w K mg base 3 Ch "check_later" ["self", "time"] (sp_clater C Ch)) (c_Change_gone_rows : CalM P w K mg base 4 Ch "gone_rows" ["self", "time"] (sp_grows C Ch)) (c_count_apart : CalF P w K mg base 2 "count_apart" ["low", "high", "step", "greater"] sp_capt) : FnOk P w K mg base CX0 5 f fd ["self", "time"] (sp_gcount C Ch) := by
  refine F.ok sc_Change_gone_count (fun vs H Q E h => ?_) (fun cdv A outer s H vs Q E hr h => ?_)
  · obtain ⟨p, b, f, b2, f2, c, t, rfl, _⟩ := h
    rfl
  · obtain ⟨p, b, f, b2, f2, c, t, rfl, X, hct, ht, k⟩ := h
    obtain ⟨dx, q1, q2, hp, S1, S2⟩ := X.ob
    refine ⟨_, (pss_cons (ps_expr (pe_methF c_Change_check_later (hr.mono (by decide)) (pv 0) (pa_cons (pv 1) pa_nil)))
      (pss_one (ps_ret (pe_callB (cr_sum rfl) (by rfl) T.b_sum (by decide +kernel) (pa_cons (pe_lc (own := [("low", 2), ("high", 3), ("step", 4), ("kept_step", 5)]) (g := gTup K 4 (gCons (gName 2) (gCons (gName 3) (gCons (gName 4) (gCons (gName 5) gNil))))) (by rfl) sc_Change_gone_count.nd (pi_list (pe_methF c_Change_gone_rows (hr.mono (by decide)) (pv 0) (pa_cons (pv 1) pa_nil))) (blkOk_by (own := [("low", 2), ("high", 3), ("step", 4), ("kept_step", 5)]) (N := ["self", "time", "low", "high", "step", "kept_step"]) (sc := defScope s_Change_gone_count) (by decide +kernel)) (fun _ _ _ _ _ => (pg_tup (by rfl) (pgs_cons (pg_name (i := 2) sc_Change_gone_count.nd rfl (Or.inl rfl)) (pgs_cons (pg_name (i := 3) sc_Change_gone_count.nd rfl (Or.inl rfl)) (pgs_cons (pg_name (i := 4) sc_Change_gone_count.nd rfl (Or.inl rfl)) (pgs_cons (pg_name (i := 5) sc_Change_gone_count.nd rfl (Or.inl rfl)) pgs_nil)))))) (fun _ _ _ _ _ => pts_nil) (fun _ _ _ _ _ => (pe_callF c_count_apart (hr.mono (by decide)) rfl (pa_cons (pv 2) (pa_cons (pv 3) (pa_cons (pv 4) (pa_cons (pv 5) pa_nil))))))) pa_nil))))), ?_⟩
    refine ⟨_, rfl, p, dx, _, rfl, hp, cfl_no (by decide +kernel), _, rfl, p, b, f, b2, f2, c, t, rfl, X, hct, ?_⟩
    refine ⟨_, rfl, p, dx, _, rfl, hp, cfl_no (by decide +kernel), _, rfl, p, b, f, b2, f2, c, t, rfl, X, hct, ht, fun D ts G H1 s1 hD hD1 hR hok hlen hel => ?_⟩
    refine ⟨D, rfl, ⟨_, SqL.of hD1⟩, fun D2 hD2 => lc_list (K := K) (a := D) (xs := ts.map V.ref) (fun i H2 => Same H1 H2 ∧ H2 D2 = some (.lst ((gcI (G.take i)).map V.int))) ⟨Same.upd hD2, upd_same⟩ (fun i H2 _ h2 => SqL.of (h2.1 _ _ hD1)) ?_ ?_⟩
    · rintro i y H2 hi ⟨s2, h2⟩
      obtain ⟨t', rfl, ht'⟩ := ref_item hi
      obtain ⟨r, hr', hrt⟩ := hR.get ht'
      obtain ⟨a, l, s, g, hi', rfl⟩ := rw4_item hr'
      have hG1 : Gok1 a l s g := hok _ (List.mem_of_getElem? hi')
      refine ⟨t', _, rfl, SqT.of (s2 _ _ hrt), rfl, _, _, rfl, _, _, rfl, _, _, rfl, _, _, rfl, rfl, rfl, ?_⟩
      refine ⟨_, rfl, _, rfl, _, rfl, _, rfl, a, l, s, g, rfl, hG1, _, h2, ?_, ?_, ?_⟩
      · rw [List.length_map]
        unfold gcI
        rw [List.length_map, List.length_take]
        exact small31 (by omega)
      · exact fun x o e => by
          rw [upd_ne (ne_of_none e hD2)]
          exact s2 _ _ e
      · rw [upd_same]
        rw [take_s hi']
        unfold gcI
        rw [List.map_append, List.map_append]
        rfl
    · rintro H2 ⟨s2, h2⟩
      have e : (ts.map V.ref).length = G.length := by rw [List.length_map, hR.len, List.length_map]
      rw [e, List.take_length] at h2
      refine ⟨D2, _, rfl, SqL.of h2, ?_⟩
      rw [gcI_sum, hel]
      exact k _ (s1.trans s2)
theorem ok_ngone {f C Ch : Addr} {fd : FuncData} (F : Fun K "next_gone" "Change.next_gone" s_Change_next_gone f fd) (T : Txt K mg C) (TD : TxtD K mg Ch) (c_check_number : CalF P w K mg base 3 "check_number" ["number"] sp_check) (c_Change_check_later : CalM P w K mg base 3 Ch "check_later" ["self", "time"] (sp_clater C Ch)) (c_Change_gone_rows : CalM P w K mg base 4 Ch "gone_rows" ["self", "time"] (sp_grows C Ch)) (c_first_apart : CalF P w K mg base 2 "first_apart" ["low", "step", "greater"] sp_fapt) : FnOk P w K mg base CX0 5 f fd ["self", "number", "time"] (sp_ngone C Ch) := by
  refine F.ok sc_Change_next_gone (fun vs H Q E h => ?_) (fun cdv A outer s H vs Q E hr h => ?_)
  · obtain ⟨p, b, f, b2, f2, c, n, t, rfl, _⟩ := h
    rfl
  · obtain ⟨p, b, f, b2, f2, c, n, t, rfl, X, hct, ht, kn, k⟩ := h
    obtain ⟨dx, q1, q2, hp, S1, S2⟩ := X.ob
    refine ⟨_, (pss_cons (ps_expr (pe_callF c_check_number (hr.mono (by decide)) rfl (pa_cons (pv 1) pa_nil)))
      (pss_cons (ps_expr (pe_methF c_Change_check_later (hr.mono (by decide)) (pv 0) (pa_cons (pv 2) pa_nil)))
      (pss_cons (ps_for PassesOwn.never rfl (pi_list (pe_methF c_Change_gone_rows (hr.mono (by decide)) (pv 0) (pa_cons (pv 2) pa_nil))) (pg_tup (by rfl) (pgs_cons (pg_name (i := 3) sc_Change_next_gone.nd rfl (Or.inl rfl)) (pgs_cons (pg_name (i := 4) sc_Change_next_gone.nd rfl (Or.inl rfl)) (pgs_cons (pg_name (i := 5) sc_Change_next_gone.nd rfl (Or.inl rfl)) (pgs_cons (pg_name (i := 6) sc_Change_next_gone.nd rfl (Or.inl rfl)) pgs_nil)))))
      (pss_cons (ps_set (i := 7) sc_Change_next_gone.nd rfl (Or.inl rfl) (pe_callF c_first_apart (hr.mono (by decide)) rfl (pa_cons (pe_callB (call_max2 rfl) (by rfl) T.b_max (by decide +kernel) (pa_cons (pv 3) (pa_cons (pv 1) pa_nil))) (pa_cons (pv 5) (pa_cons (pv 6) pa_nil)))))
      (pss_one (ps_if (pt_cmpR op_le (pv 7) (pv 4) (nomark _)) (pss_one (ps_ret (pv 7))) pss_nil))))
      (pss_one (ps_ret pe_non))))), ?_⟩
    refine ⟨_, rfl, (n : Int), rfl, by omega, ?_⟩
    refine ⟨_, rfl, p, dx, _, rfl, hp, cfl_no (by decide +kernel), _, rfl, p, b, f, b2, f2, c, t, rfl, X, hct, ?_⟩
    refine ⟨_, rfl, p, dx, _, rfl, hp, cfl_no (by decide +kernel), _, rfl, p, b, f, b2, f2, c, t, rfl, X, hct, ht, fun D ts G H1 s1 hD hD1 hR hok hlen hel => ?_⟩
    refine ⟨D, rfl, ⟨_, SqL.of hD1⟩, for_list (K := K) (a := D) (xs := ts.map V.ref) (fun i σ H2 => ∃ c3 c4 c5 c6 c7 : Option V, σ = [some (.ref p), some (.int n), some (.int t), c3, c4, c5, c6, c7] ∧ Same H1 H2 ∧ ∀ j ∈ gela (G.take i), j < n) ⟨none, none, none, none, none, rfl, Same.refl _, fun j hj => by cases hj⟩ (fun i σ H2 _ ⟨_, _, _, _, _, _, s2, _⟩ => SqL.of (s2 _ _ hD1)) ?_ ?_⟩
    · rintro i y σ H2 hi ⟨c3, c4, c5, c6, c7, rfl, s2, hj⟩
      obtain ⟨t', rfl, ht'⟩ := ref_item hi
      obtain ⟨r, hr', hrt⟩ := hR.get ht'
      obtain ⟨a, l, s, g, hi', rfl⟩ := rw4_item hr'
      have hG1 : Gok1 a l s g := hok _ (List.mem_of_getElem? hi')
      refine ⟨t', _, rfl, SqT.of (s2 _ _ hrt), rfl, _, _, rfl, _, _, rfl, _, _, rfl, _, _, rfl, rfl, ?_⟩
      refine ⟨_, rfl, _, rfl, _, _, rfl, _, rfl, _, rfl, max a n, s, g, by rw [imax]; rfl, hG1.s0, hG1.sg, hG1.lt, fun m h1 h2 h3 h4 => ?_⟩
      refine ⟨_, rfl, _, rfl, _, _, rfl, rfl, _, rfl, ?_⟩
      have none_in : ∀ j ∈ gel (a, l, s, g), n ≤ j → m ≤ j := fun j hj hn => by
        obtain ⟨g1, g2, g3, g4⟩ := gel_mem.mp hj
        rcases Nat.lt_or_ge j m with z | z
        · exact absurd (h4 j (by omega) z g3) g4
        · exact z
      refine ifD (fun q => ?_) (fun q => ?_)
      · have q : m ≤ l := by exact_mod_cast q
        refine ⟨_, rfl, k m H2 (s1.trans s2) ?_ (by omega) ?_⟩
        · rw [← hel]
          exact List.mem_flatMap.mpr ⟨_, List.mem_of_getElem? hi', gel_mem.mpr ⟨by omega, q, h2, h3⟩⟩
        · intro j hjm hjn
          have hasc := gnl_asc b f b2 f2 c t
          rw [← hel, ← List.take_append_drop (i + 1) G, take_s hi', gela_app, gela_snoc] at hjm hasc
          rcases List.mem_append.mp hjm with z | z
          · rcases List.mem_append.mp z with z | z
            · have := hj j z
              omega
            · exact none_in j z hjn
          · have := (List.pairwise_append.mp hasc).2.2 m (List.mem_append.mpr (.inr (gel_mem.mpr ⟨by omega, q, h2, h3⟩))) j z
            omega
      · have q : ¬ m ≤ l := fun z => q (by exact_mod_cast z)
        refine ⟨_, _, _, _, _, rfl, s2, fun j hjm => ?_⟩
        rw [take_s hi', gela_snoc] at hjm
        rcases List.mem_append.mp hjm with z | z
        · exact hj j z
        · rcases Nat.lt_or_ge j n with u | u
          · exact u
          · have := none_in j z u
            have := (gel_mem.mp z).2.1
            omega
    · rintro σ H2 ⟨c3, c4, c5, c6, c7, rfl, s2, hj⟩
      have e : (ts.map V.ref).length = G.length := by rw [List.length_map, hR.len, List.length_map]
      rw [e, List.take_length, hel] at hj
      exact kn hj H2 (s1.trans s2)
end
end My

set_option Elab.async false
set_option linter.all false
set_option maxRecDepth 100000
set_option maxHeartbeats 4000000
namespace My
open PySem L2 Mth
/-- a well of draws: three ints, at most e draws so far -/
structure Wel (H : Hp) (a : Addr) (e : Nat) : Prop where
  ob : ∃ x c z : Int, H a = some (.lst [.int x, .int c, .int z]) ∧ 0 ≤ x ∧ 0 ≤ z ∧ z ≤ e
theorem Wel.same {H H' : Hp} {a : Addr} {e : Nat} (h : Wel H a e) (s : Same H H') : Wel H' a e := by
  obtain ⟨x, d, z, h1, h2⟩ := h.ob
  exact ⟨x, d, z, s _ _ h1, h2⟩
theorem Wel.mono {H : Hp} {a : Addr} {e e' : Nat} (h : Wel H a e) (s : e ≤ e') : Wel H a e' := by
  obtain ⟨x, d, z, h1, h2, h3, h4⟩ := h.ob
  exact ⟨x, d, z, h1, h2, h3, by omega⟩
theorem Wel.ne {H : Hp} {a l : Addr} {e : Nat} (S : Wel H a e) (hl : H l = none) : l ≠ a := by
  obtain ⟨x, d, z, ha, _⟩ := S.ob
  exact (ne_of_none ha hl).symm
theorem sch_wel {C : Addr} {H H' : Hp} {p a : Addr} {b f : Nat} {e : Nat} (h : Sch C H p b f) (S : Wel H a e) (B : But a H H') : Sch C H' p b f := by
  obtain ⟨⟨dx, hp⟩, h2⟩ := id h
  obtain ⟨x, d, z, ha, _⟩ := S.ob
  exact ⟨⟨dx, B _ _ hp (ne_of hp ha (by intro z; cases z))⟩, h.b2, h.bt, h.f1, h.ft⟩
def sp_mixed : Sp := fun vs H Q _ => ∃ c k : Int, vs = [.int c, .int k] ∧ 0 ≤ k ∧ k ≤ 10000000 ∧ ∀ r, 0 ≤ r → Q (.int r) H
def sp_well : Sp := fun vs H Q _ => ∃ c : Int, vs = [.int c] ∧ ∀ a H', H a = none → Wel H' a 0 → Same H H' → Q (.ref a) H'
def sp_drawC : Sp := fun vs H Q _ => ∃ (a : Addr) (m : Int) (e : Nat), vs = [.ref a, .int m] ∧ Wel H a e ∧ e ≤ 1000000 ∧ 0 < m ∧ m < 2 ^ 200 ∧ ∀ r H', 0 ≤ r → r < m → Wel H' a (e + 1) → But a H H' → Q (.int r) H'
def sp_oneC : Sp := fun vs H Q _ => ∃ (a l : Addr) (xs : List V) (e : Nat), vs = [.ref a, .ref l] ∧ Wel H a e ∧ e ≤ 1000000 ∧ l ≠ a ∧ H l = some (.lst xs) ∧ 0 < xs.length ∧ xs.length ≤ 1000000 ∧ ∀ v H', v ∈ xs → Wel H' a (e + 1) → But a H H' → Q v H'
def sp_pile : Sp := fun vs H Q _ => ∃ b n : Nat, vs = [.int b, .int n] ∧ b ≤ 1000 ∧ Q (.int ((b ^ n : Nat) : Int)) H
def sp_big : Sp := fun vs H Q _ => ∃ (a : Addr) (e : Nat), vs = [.ref a] ∧ Wel H a e ∧ e ≤ 100000 ∧ ∀ (n : Nat) (H' : Hp), n < 10 ^ 28 → Wel H' a (e + 5) → But a H H' → Q (.int n) H'
def sp_planC : Sp := fun vs H Q _ => ∃ (a : Addr) (e : Nat), vs = [.ref a] ∧ Wel H a e ∧ e ≤ 100000 ∧ ∀ (b f : Nat) (t : Addr) (H' : Hp), 2 ≤ b → b ≤ 1000 → 1 ≤ f → f ≤ 1000000 → H' t = some (.tup [.int b, .int f]) → Wel H' a (e + 5) → But a H H' → Q (.ref t) H'
section
variable {P : Program} {w : World} {K : PySem.W.Frag} {mg : Str → Option Value} {base : Heap}
theorem ok_mixed {f C : Addr} {fd : FuncData} (F : Fun K "_law_mixed" "_law_mixed" s_law_mixed f fd) (T : Txt K mg C) : FnOk P w K mg base CX0 1 f fd ["_law_cell", "_law_k"] sp_mixed := by
  refine F.ok sc_law_mixed (fun vs H Q E h => ?_) (fun cdv A outer s H vs Q E hr h => ?_)
  · obtain ⟨c, j, rfl, _⟩ := h
    rfl
  · obtain ⟨c, j, rfl, h0, h1, k⟩ := h
    refine ⟨_, (pss_cons (ps_set (i := 2) sc_law_mixed.nd rfl (Or.inl rfl) (pe_op op_mod (pe_op op_pow (pe_op op_add (pe_op op_add (pe_op op_mod (pv 0) pe_int) (pe_op op_mul pe_int (pv 1))) pe_int) pe_int) pe_int))
      (pss_cons (ps_set (i := 2) sc_law_mixed.nd rfl (Or.inl rfl) (pe_op op_mod (pe_op op_add (pv 2) (pe_op op_mul (pe_op op_mod (pe_op op_fdivB (pv 0) pe_int) pe_int) (pe_op op_add (pv 1) pe_int))) pe_int))
      (pss_cons (ps_set (i := 2) sc_law_mixed.nd rfl (Or.inl rfl) (pe_op op_mod (pe_op op_mul (pv 2) (pe_op op_add (pe_op op_add (pe_op op_fdivB (pv 2) pe_int) pe_int) (pv 1))) pe_int))
      (pss_one (ps_ret (pe_op op_mod (pe_op op_mul (pv 2) (pe_op op_add (pe_op op_fdivB (pv 2) pe_int) pe_int)) pe_int)))))), ?_⟩
    have a0 : 0 ≤ c % 2147483629 := Int.emod_nonneg _ (by decide)
    have a1 : c % 2147483629 < 2147483629 := Int.emod_lt_of_pos _ (by decide)
    refine ⟨_, rfl, _, _, rfl, rfl, (by show (0 : Int) < 2147483629; decide), _, rfl, _, _, rfl, rfl, .inl ⟨by decide, by decide⟩, _, _, rfl, rfl, _, _, rfl, rfl, _, _, rfl, rfl, ⟨by decide, by decide, ?_⟩, _, _, rfl, rfl, (by show (0 : Int) < 2147483647; decide), ?_⟩
    · show (c % 2147483629 + 30011 * j + 7).natAbs < 2 ^ 64
      omega
    generalize (c % 2147483629 + 30011 * j + 7) ^ (3 : Int).toNat % 2147483647 = f1
    have b0 : 0 ≤ c / 2147483629 % 65537 := Int.emod_nonneg _ (by decide)
    have b1 : c / 2147483629 % 65537 < 65537 := Int.emod_lt_of_pos _ (by decide)
    refine ⟨_, rfl, _, rfl, _, _, rfl, rfl, ⟨by decide, by decide⟩, _, _, rfl, rfl, (by show (0 : Int) < 65537; decide), _, rfl, _, _, rfl, rfl, _, _, rfl, rfl, .inl ⟨by show -(2 ^ 64) < c / 2147483629 % 65537; omega, by show c / 2147483629 % 65537 < 2 ^ 64; omega⟩, _, _, rfl, rfl, _, _, rfl, rfl, (by show (0 : Int) < 2147483587; decide), ?_⟩
    generalize hf2 : ((fun i j => V.int (i % j)) (f1 + c / 2147483629 % 65537 * (j + 5)) 2147483587) = v2
    obtain ⟨f2, rfl, c0, c1⟩ : ∃ f2 : Int, v2 = V.int f2 ∧ 0 ≤ f2 ∧ f2 < 2147483587 := ⟨(f1 + c / 2147483629 % 65537 * (j + 5)) % 2147483587, hf2.symm, Int.emod_nonneg _ (by decide), Int.emod_lt_of_pos _ (by decide)⟩
    refine ⟨_, rfl, _, rfl, _, _, rfl, rfl, ⟨by decide, by decide⟩, _, _, rfl, rfl, _, rfl, _, _, rfl, rfl, _, _, rfl, rfl, .inl ⟨by omega, by omega⟩, _, _, rfl, rfl, (by show (0 : Int) < 2147483563; decide), ?_⟩
    generalize hf3 : ((fun i j => V.int (i % j)) (f2 * (f2 / 1009 + 69621 + j)) 2147483563) = v3
    obtain ⟨f3, rfl, d0, d1⟩ : ∃ f3 : Int, v3 = V.int f3 ∧ 0 ≤ f3 ∧ f3 < 2147483563 := ⟨(f2 * (f2 / 1009 + 69621 + j)) % 2147483563, hf3.symm, Int.emod_nonneg _ (by decide), Int.emod_lt_of_pos _ (by decide)⟩
    refine ⟨_, rfl, _, rfl, _, _, rfl, rfl, ⟨by decide, by decide⟩, _, _, rfl, rfl, _, _, rfl, rfl, .inl ⟨by omega, by omega⟩, _, _, rfl, rfl, (by show (0 : Int) < 2147483399; decide), ?_⟩
    exact k _ (Int.emod_nonneg _ (by decide))
theorem ok_well {f C : Addr} {fd : FuncData} (F : Fun K "_law_well" "_law_well" s_law_well f fd) (T : Txt K mg C) : FnOk P w K mg base CX0 1 f fd ["_law_cell"] sp_well := by
  refine F.ok sc_law_well (fun vs H Q E h => ?_) (fun cdv A outer s H vs Q E hr h => ?_)
  · obtain ⟨c, rfl, _⟩ := h
    rfl
  · obtain ⟨c, rfl, k⟩ := h
    refine ⟨_, (pss_one (ps_ret (pe_lst (pa_cons (pe_op op_mul (pv 0) (pe_callTy call_int1 (by rfl) T.b_int (by decide +kernel) (pa_cons (pe_cmpR op_ge (pv 0) (pe_op op_pow pe_int pe_int) (nomark _)) pa_nil))) (pa_cons (pv 0) (pa_cons pe_int pa_nil)))))), ?_⟩
    refine ⟨_, rfl, _, rfl, _, _, rfl, rfl, ⟨by decide, by decide, by decide⟩, _, _, rfl, rfl, .inr ⟨_, rfl, _, _, rfl, rfl, .inr ?_, _, rfl, by show 3 ≤ sizeLine; decide, fun l hl => ?_⟩⟩
    · split <;> exact ⟨by decide, by decide⟩
    · refine k l _ hl ⟨_, _, _, upd_same, ?_, by decide, by decide⟩ (Same.upd hl)
      show (0 : Int) ≤ c * (if decide ((10 : Int) ^ (18 : Int).toNat ≤ c) = true then 1 else 0)
      rw [p10_18]
      split
      · rename_i z
        have := of_decide_eq_true z
        omega
      · omega
theorem ok_drawC {f C : Addr} {fd : FuncData} (F : Fun K "_law_draw" "_law_draw" s_law_draw f fd) (T : Txt K mg C) (c_law_mixed : CalF P w K mg base 1 "_law_mixed" ["_law_cell", "_law_k"] sp_mixed) : FnOk P w K mg base CX0 2 f fd ["_law_well_here", "_law_many"] sp_drawC := by
  --only _law_draw "_law_mixed("
  refine F.ok sc_law_draw (fun vs H Q E h => ?_) (fun cdv A outer s H vs Q E hr h => ?_)
  · obtain ⟨a, m, e, rfl, _⟩ := h
    rfl
  · obtain ⟨a, m, e, rfl, S, he, hm, hm2, k⟩ := h
    obtain ⟨x, d, z, ha, hx, hz, hz2⟩ := S.ob
    refine ⟨_, (pss_cons (ps_if (pt_cmpR op_gt (pe_ix ix_list (pv 0) pe_int (fun _ _ => rfl)) pe_int (nomark _)) (pss_cons (ps_set (i := 2) sc_law_draw.nd rfl (Or.inl rfl) (pe_op op_mod (pe_ix ix_list (pv 0) pe_int (fun _ _ => rfl)) (pv 1)))
      (pss_cons (ps_asg (pe_op op_fdivB (pe_ix ix_list (pv 0) pe_int (fun _ _ => rfl)) (pv 1)) (pg_sub (pv 0) pe_int set_list))
      (pss_one (ps_ret (pv 2))))) pss_nil)
      (pss_cons (ps_asg (pe_op op_add (pe_ix ix_list (pv 0) pe_int (fun _ _ => rfl)) pe_int) (pg_sub (pv 0) pe_int set_list))
      (pss_one (ps_ret (pe_op op_mod (pe_callF c_law_mixed (hr.mono (by decide)) rfl (pa_cons (pe_ix ix_list (pv 0) pe_int (fun _ _ => rfl)) (pa_cons (pe_ix ix_list (pv 0) pe_int (fun _ _ => rfl)) pa_nil))) (pv 1)))))), ?_⟩
    refine ⟨_, rfl, a, _, _, _, rfl, rfl, SqL.of ha, atI_nat (j := 0) rfl, _, _, rfl, rfl, _, rfl, ?_⟩
    refine ifD (fun q => ?_) (fun q => ?_)
    · refine ⟨_, rfl, a, _, _, _, rfl, rfl, SqL.of ha, atI_nat (j := 0) rfl, _, rfl, _, _, rfl, rfl, hm, ?_⟩
      refine ⟨_, rfl, a, _, _, _, rfl, rfl, SqL.of ha, atI_nat (j := 0) rfl, _, rfl, _, _, rfl, rfl, ⟨hm, hm2⟩, _, rfl, a, _, _, 0, rfl, rfl, ha, rfl, ?_⟩
      refine ⟨_, rfl, ?_⟩
      refine k _ _ (Int.emod_nonneg _ (by omega)) (Int.emod_lt_of_pos _ hm) ⟨_, _, _, upd_same, Int.ediv_nonneg hx (by omega), hz, by omega⟩ But.upd
    · refine ⟨_, rfl, a, _, _, _, rfl, rfl, SqL.of ha, atI_nat (j := 2) rfl, _, _, rfl, rfl, _, rfl, a, _, _, 2, rfl, rfl, ha, rfl, ?_⟩
      refine ⟨_, rfl, a, _, _, _, rfl, rfl, SqL.of upd_same, atI_nat (j := 1) rfl, _, rfl, a, _, _, _, rfl, rfl, SqL.of upd_same, atI_nat (j := 2) rfl, d, z + 1, rfl, by omega, by omega, fun r hr0 => ?_⟩
      refine ⟨_, rfl, _, _, rfl, rfl, hm, ?_⟩
      exact k _ _ (Int.emod_nonneg _ (by omega)) (Int.emod_lt_of_pos _ hm) ⟨_, _, _, upd_same, hx, by omega, by omega⟩ But.upd
theorem ok_oneC {f C : Addr} {fd : FuncData} (F : Fun K "_law_one" "_law_one" s_law_one f fd) (T : Txt K mg C) (c_law_draw : CalF P w K mg base 2 "_law_draw" ["_law_well_here", "_law_many"] sp_drawC) : FnOk P w K mg base CX0 3 f fd ["_law_well_here", "_law_some"] sp_oneC := by
  --only _law_one "_law_draw("
  refine F.ok sc_law_one (fun vs H Q E h => ?_) (fun cdv A outer s H vs Q E hr h => ?_)
  · obtain ⟨a, l, xs, e, rfl, _⟩ := h
    rfl
  · obtain ⟨a, l, xs, e, rfl, S, he, hla, hl, h0, h1, k⟩ := h
    refine ⟨_, (pss_one (ps_ret (pe_ix ix_list (pv 1) (pe_callF c_law_draw (hr.mono (by decide)) rfl (pa_cons (pv 0) (pa_cons (pe_callB call_len_seq (by rfl) T.b_len (by decide +kernel) (pa_cons (pv 1) pa_nil)) pa_nil))) (fun _ _ => rfl)))), ?_⟩
    refine ⟨_, rfl, _, rfl, _, rfl, l, _, rfl, .inl (SqL.of hl), a, (xs.length : Int), e, rfl, S, he, by omega, Int.lt_of_le_of_lt (Int.ofNat_le.mpr h1) (by decide), fun r H' r0 r1 S' B => ?_⟩
    obtain ⟨i, rfl⟩ : ∃ i : Nat, r = (i : Int) := ⟨r.toNat, by omega⟩
    have hi : i < xs.length := by omega
    exact ⟨l, _, _, xs[i], rfl, rfl, SqL.of (B _ _ hl hla), atI_nat (by simp [hi]), k _ _ (List.getElem_mem hi) S' B⟩
theorem ok_pile {f C : Addr} {fd : FuncData} (F : Fun K "_law_pile" "_law_pile" s_law_pile f fd) (T : Txt K mg C) : FnOk P w K mg base CX0 1 f fd ["_law_base", "_law_count"] sp_pile := by
  refine F.ok sc_law_pile (fun vs H Q E h => ?_) (fun cdv A outer s H vs Q E hr h => ?_)
  · obtain ⟨b, n, rfl, _⟩ := h
    rfl
  · obtain ⟨b, n, rfl, hb, k⟩ := h
    refine ⟨_, (pss_cons (ps_set (i := 2) sc_law_pile.nd rfl (Or.inl rfl) pe_int)
      (pss_cons (ps_for PassesOwn.never rfl (pi_range1B (by rfl) T.b_range (pa_cons (pv 1) pa_nil)) (pg_name (i := 3) sc_law_pile.nd rfl (Or.inl rfl))
      (pss_one (ps_set (i := 2) sc_law_pile.nd rfl (Or.inl rfl) (pe_op op_mul (pv 2) (pv 0)))))
      (pss_one (ps_ret (pv 2))))), ?_⟩
    refine ⟨_, rfl, _, rfl, for_range (fun j σ H' => ∃ c : Option V, σ = [some (.int b), some (.int n), some (.int ((b ^ j : Nat) : Int)), c] ∧ H' = H) ⟨none, by rw [Nat.pow_zero]; rfl, rfl⟩ ?_ ?_⟩
    · rintro j σ H' hj ⟨c, rfl, rfl⟩
      refine ⟨_, rfl, _, rfl, _, _, rfl, rfl, .inr ⟨by omega, by omega⟩, some (V.int (0 + (j : Int))), ?_, rfl⟩
      rw [Nat.pow_succ, Int.natCast_mul]
      rfl
    · rintro σ H' ⟨c, rfl, rfl⟩
      rw [Int.toNat_natCast]
      exact ⟨_, rfl, k⟩
theorem ok_big {f C : Addr} {fd : FuncData} (F : Fun K "_law_big" "_law_big" s_law_big f fd) (T : Txt K mg C) (c_law_draw : CalF P w K mg base 2 "_law_draw" ["_law_well_here", "_law_many"] sp_drawC) (c_law_pile : CalF P w K mg base 1 "_law_pile" ["_law_base", "_law_count"] sp_pile) : FnOk P w K mg base CX0 3 f fd ["_law_well_here"] sp_big := by
  refine F.ok sc_law_big (fun vs H Q E h => ?_) (fun cdv A outer s H vs Q E hr h => ?_)
  · obtain ⟨a, e, rfl, _⟩ := h
    rfl
  · obtain ⟨a, e, rfl, S, he, k⟩ := h
    refine ⟨_, (pss_cons (ps_set (i := 1) sc_law_big.nd rfl (Or.inl rfl) (pe_callF c_law_draw (hr.mono (by decide)) rfl (pa_cons (pv 0) (pa_cons pe_int pa_nil))))
      (pss_cons (ps_for PassesOwn.never rfl (pi_range1B (by rfl) T.b_range (pa_cons pe_int pa_nil)) (pg_name (i := 2) sc_law_big.nd rfl (Or.inl rfl))
      (pss_one (ps_set (i := 1) sc_law_big.nd rfl (Or.inl rfl) (pe_op op_add (pe_op op_mul (pv 1) (pe_op op_pow pe_int pe_int)) (pe_callF c_law_draw (hr.mono (by decide)) rfl (pa_cons (pv 0) (pa_cons (pe_op op_pow pe_int pe_int) pa_nil)))))))
      (pss_one (ps_ret (pe_op op_fdivB (pv 1) (pe_callF c_law_pile (hr.mono (by decide)) rfl (pa_cons pe_int (pa_cons (pe_callF c_law_draw (hr.mono (by decide)) rfl (pa_cons (pv 0) (pa_cons pe_int pa_nil))) pa_nil)))))))), ?_⟩
    refine ⟨_, rfl, a, 10, e, rfl, S, by omega, by decide, by decide, fun r H1 r0 r1 S1 B1 => ?_⟩
    obtain ⟨i, rfl, hi⟩ := nat_of r0 r1
    refine ⟨_, rfl, for_range (lo := 0) (n := 3) (fun j σ H2 => ∃ (x : Nat) (c : Option V), σ = [some (.ref a), some (.int x), c] ∧ x < 10 ^ (1 + 9 * j) ∧ Wel H2 a (e + 1 + j) ∧ But a H H2) ⟨i, none, rfl, by show i < 10; omega, S1, B1⟩ ?_ ?_⟩
    · rintro j σ H2 hj ⟨x, c, rfl, hx, S2, B2⟩
      refine ⟨_, rfl, _, _, rfl, rfl, ⟨by decide, by decide, by decide⟩, _, _, rfl, rfl, .inr ⟨by decide, by decide⟩, _, rfl, _, _, rfl, rfl, ⟨by decide, by decide, by decide⟩, a, 1000000000, _, rfl, S2, by omega, by decide, by decide, fun r H3 r0 r1 S3 B3 => ?_⟩
      obtain ⟨y, rfl, hy⟩ := nat_of r0 r1
      refine ⟨_, _, rfl, rfl, x * 1000000000 + y, some (V.int (0 + (j : Int))), ?_, ?_, S3, B2.trans B3⟩
      · rw [Int.natCast_add, Int.natCast_mul]
        rfl
      · have e1 : 10 ^ (1 + 9 * (j + 1)) = 10 ^ (1 + 9 * j) * 1000000000 := by
          rw [show 1 + 9 * (j + 1) = (1 + 9 * j) + 9 from by omega, Nat.pow_add]
        rw [e1]
        have h2 : (x + 1) * 1000000000 ≤ 10 ^ (1 + 9 * j) * 1000000000 := Nat.mul_le_mul_right _ hx
        omega
    · rintro σ H2 ⟨x, c, rfl, hx, S2, B2⟩
      refine ⟨_, rfl, _, rfl, a, 28, _, rfl, S2, by omega, by decide, by decide, fun r H3 r0 r1 S3 B3 => ?_⟩
      obtain ⟨d, rfl, hd⟩ := nat_of r0 r1
      refine ⟨10, d, rfl, by decide, ?_⟩
      have h10 : 0 < 10 ^ d := Nat.pow_pos (by decide)
      have h11 : 10 ^ d ≤ 10 ^ 28 := Nat.pow_le_pow_right (by decide) (by omega)
      refine ⟨_, _, rfl, rfl, ⟨by omega, ?_⟩, ?_⟩
      · have h12 : 10 ^ d < 2 ^ 200 := Nat.lt_of_le_of_lt h11 (by decide)
        exact (by exact_mod_cast h12 : ((10 ^ d : Nat) : Int) < 2 ^ 200)
      · have kk := k (x / 10 ^ d) H3 (Nat.lt_of_le_of_lt (Nat.div_le_self _ _) hx) S3 (B2.trans B3)
        rw [Int.natCast_ediv] at kk
        exact kk
end
end My

set_option Elab.async false
set_option linter.all false
set_option maxRecDepth 100000
set_option maxHeartbeats 4000000
namespace My
open PySem L2 Mth
abbrev s_law_right : Stmt := top 45
theorem sc_law_right : FnScope ["_law_well_here", "_law_k"] ["_law_well_here"] (defScope s_law_right) := ⟨rfl, rfl, rfl, by decide +kernel, rfl, by decide +kernel, by decide +kernel⟩
def sp_livesC : Sp := fun vs H Q _ => ∃ (t : Addr) (b f n T : Nat), vs = [.ref t, .int n, .int T] ∧ H t = some (.tup [.int b, .int f]) ∧ 2 ≤ b ∧ b ≤ 1000 ∧ 1 ≤ f ∧ f ≤ 1000000 ∧ Q (.bl (kpt b f n T)) H
def sp_nearC : Sp := fun vs H Q _ => ∃ (a : Addr) (e : Nat), vs = [.ref a] ∧ Wel H a e ∧ e ≤ 100000 ∧ ∀ (b f : Nat) (t : Addr) (H' : Hp), 2 ≤ b → b ≤ 15 → 1 ≤ f → f ≤ 9 → H' t = some (.tup [.int b, .int f]) → Wel H' a (e + 5) → But a H H' → Q (.ref t) H'
def sp_rightC : Sp := fun vs H Q _ => ∃ a : Addr, vs = [.ref a] ∧ Wel H a 0 ∧ ∀ H', But a H H' → Q (.bl true) H'
section
variable {P : Program} {w : World} {K : PySem.W.Frag} {mg : Str → Option Value} {base : Heap}
theorem ok_powC {f C : Addr} {fd : FuncData} (F : Fun K "_law_pow" "_law_pow" s_law_pow f fd) (T : Txt K mg C) : FnOk P w K mg base CX0 1 f fd ["_law_base", "_law_figure"] sp_lowest := by
  refine F.ok sc_law_pow (fun vs H Q E h => ?_) (fun cdv A outer s H vs Q E hr h => ?_)
  · obtain ⟨b, n, rfl, _⟩ := h
    rfl
  · obtain ⟨b, n, rfl, hb, hb2, hn, k⟩ := h
    refine ⟨_, (pss_cons (ps_set (i := 2) sc_law_pow.nd rfl (Or.inl rfl) pe_int)
      (pss_cons (ps_while PassesOwn.never (pt_cmpR op_eq (pe_op op_mod (pv 1) (pe_op op_mul (pv 2) (pv 0))) pe_int (nomark _)) (pss_one (ps_set (i := 2) sc_law_pow.nd rfl (Or.inl rfl) (pe_op op_mul (pv 2) (pv 0)))))
      (pss_one (ps_ret (pv 2))))), ?_⟩
    refine ⟨fun m σ H' => ∃ j : Nat, σ = [some (.int b), some (.int n), some (.int (b ^ j : Nat))] ∧ H' = H ∧ b ^ j ∣ n ∧ m + j = n + 1, ⟨n + 1, 0, by rw [Nat.pow_zero]; rfl, rfl, by simp, rfl⟩, ?_⟩
    rintro m σ H' ⟨j, rfl, rfl, hd, hm⟩
    refine ⟨_, rfl, _, rfl, _, rfl, _, _, rfl, rfl, .inr ⟨by omega, by omega⟩, _, _, rfl, rfl, ?_, rfl, _, rfl, ?_⟩
    · have := pow_pos' (k := j) hb
      have h2 : (0 : Int) < ((b ^ j : Nat) : Int) * (b : Int) := Int.mul_pos (by omega) (by omega)
      exact h2
    · have e : ((n : Int) % (((b ^ j : Nat) : Int) * (b : Int))) = ((n % (b ^ (j + 1)) : Nat) : Int) := by
        rw [Nat.pow_succ]
        push_cast
        rfl
      refine ifI (fun q => ?_) (fun q => ?_)
      · have q2 : n % b ^ (j + 1) = 0 := by rw [e] at q; omega
        refine ⟨_, fun σ' H'' h => h, ?_⟩
        refine ⟨_, rfl, _, rfl, _, _, rfl, rfl, .inr ⟨by omega, by omega⟩, ?_⟩
        have hlt := lt_pow_self' (n := j + 1) hb
        have hle := Nat.le_of_dvd hn (Nat.dvd_of_mod_eq_zero q2)
        refine ⟨m - 1, by omega, j + 1, ?_, rfl, Nat.dvd_of_mod_eq_zero q2, by omega⟩
        show [some (V.int b), some (V.int n), some (V.int (((b ^ j : Nat) : Int) * b))] = _
        rw [Nat.pow_succ]
        push_cast
        rfl
      · have q2 : ¬ n % b ^ (j + 1) = 0 := fun z => q (by rw [e, z]; rfl)
        refine ⟨_, rfl, ?_⟩
        have el : lev b n = j := lev_uniq hb hn hd fun z => q2 (Nat.mod_eq_zero_of_dvd z)
        unfold lp at k
        rw [el] at k
        exact k
theorem ok_livesC {f C : Addr} {fd : FuncData} (F : Fun K "_law_lives" "_law_lives" s_law_lives f fd) (T : Txt K mg C) (c_law_pow : CalF P w K mg base 1 "_law_pow" ["_law_base", "_law_figure"] sp_lowest) : FnOk P w K mg base CX0 2 f fd ["_law_plan", "_law_figure", "_law_clock"] sp_livesC := by
  --only _law_lives "_law_plan[1]"
  refine F.ok sc_law_lives (fun vs H Q E h => ?_) (fun cdv A outer s H vs Q E hr h => ?_)
  · obtain ⟨t, b, f, n, T', rfl, _⟩ := h
    rfl
  · obtain ⟨t, b, f, n, T', rfl, ht, hb, hb2, hf, hf2, k⟩ := h
    refine ⟨_, (pss_cons (ps_if (pt_cmpR op_eq (pv 1) pe_int (nomark _)) (pss_one (ps_ret pe_bl)) pss_nil)
      (pss_one (ps_ret (pe_chain3 op_lt op_le op_le pe_int (pv 1) (pv 2) (pe_op op_add (pv 1) (pe_op op_mul (pe_ix ix_tup (pv 0) pe_int (fun _ _ => rfl)) (pe_callF c_law_pow (hr.mono (by decide)) rfl (pa_cons (pe_ix ix_tup (pv 0) pe_int (fun _ _ => rfl)) (pa_cons (pv 1) pa_nil))))))))), ?_⟩
    refine ⟨_, rfl, rfl, _, rfl, ?_⟩
    refine ifI (fun e => ?_) (fun e => ?_)
    · obtain rfl : n = 0 := by omega
      rw [kpt_zero] at k
      exact k
    have hn : 0 < n := by omega
    refine ⟨_, rfl, _, _, rfl, rfl, _, rfl, ?_⟩
    rw [decide_eq_true (show (0 : Int) < (n : Int) by omega)]
    refine iteT ⟨_, rfl, _, _, rfl, rfl, _, rfl, ?_⟩
    refine ifD (fun q => ?_) (fun q => ?_)
    · refine ⟨_, rfl, _, rfl, t, _, _, _, rfl, rfl, SqT.of ht, atI_nat (j := 1) rfl, _, rfl, t, _, _, _, rfl, rfl, SqT.of ht, atI_nat (j := 0) rfl, _, rfl, b, n, rfl, hb, hb2, hn, _, _, rfl, rfl, .inl ⟨by omega, by omega⟩, _, _, rfl, rfl, _, _, rfl, rfl, ?_⟩
      refine endB ?_ k
      rw [kpt_num hn (by omega)]
      rw [show (((n + f * lp b n : Nat)) : Int) = (n : Int) + (f : Int) * (lp b n : Int) from by push_cast; rfl]
    · refine endB ?_ k
      rw [kpt_gt (by omega)]
theorem ok_lawC {f C : Addr} {fd : FuncData} (F : Fun K "law" "law" s_law f fd) (T : Txt K mg C) (c_law_well : CalF P w K mg base 1 "_law_well" ["_law_cell"] sp_well) (c_law_right : CalF P w K mg base 16 "_law_right" ["_law_well_here"] sp_rightC) :
    FnOk P w K mg base CX0 17 f fd ["_law_script"] (sp_law K) := by
  refine F.ok sc_law (fun vs H Q E h => ?_) (fun cdv A outer s H vs Q E hr h => ?_)
  · obtain ⟨a, ns, rfl, _⟩ := h
    rfl
  · obtain ⟨a, ns, rfl, hS, hlen, k⟩ := h
    refine ⟨_, (pss_cons (ps_for PassesOwn.never rfl (pi_list (pe_op op_cat (pe_slice sl_list (pv 0) po_none (po_some pe_int)) (pe_lst (pa_cons pe_int pa_nil)))) (pg_name (i := 1) sc_law.nd rfl (Or.inl rfl))
      (pss_one (ps_if (pt_not (pt_val (pe_callF c_law_right (hr.mono (by decide)) rfl (pa_cons (pe_callF c_law_well (hr.mono (by decide)) rfl (pa_cons (pv 1) pa_nil)) pa_nil)))) (pss_one (ps_ret pe_bl)) pss_nil)))
      (pss_one (ps_ret pe_bl))), ?_⟩
    refine ⟨_, rfl, _, rfl, a, _, rfl, hS, fun l2 hl2 => ?_⟩
    obtain ⟨ms, hms, hml⟩ := cut_ints ns none (some _)
    rw [hms]
    refine ⟨by show 1 ≤ sizeLine; decide, fun l hl => ?_⟩
    refine ⟨l2, l, _, _, rfl, rfl, Same.upd hl _ _ upd_same, upd_same, Nat.le_of_lt (small300 (by simp; omega)), fun l3 hl3 => ?_⟩
    have e3 : (upd (upd (upd H l2 (.lst (ms.map V.int))) l (.lst [.int 0])) l3 (.lst (ms.map V.int ++ [.int 0]))) l3 = some (.lst ((ms ++ [0]).map V.int)) := by rw [upd_same, List.map_append]; rfl
    generalize upd (upd (upd H l2 (.lst (ms.map V.int))) l (.lst [.int 0])) l3 (.lst (ms.map V.int ++ [.int 0])) = H0 at *
    refine ⟨l3, rfl, ⟨_, SqL.of e3⟩, for_list (K := K) (a := l3) (xs := (ms ++ [0]).map V.int) (fun i σ H1 => ∃ c1 : Option V, σ = [some (.ref a), c1] ∧ Same H0 H1) ⟨none, rfl, Same.refl _⟩ (fun i σ H1 _ ⟨_, _, s1⟩ => SqL.of (s1 _ _ e3)) ?_ ?_⟩
    · rintro i y σ H1 hi ⟨c1, rfl, s1⟩
      obtain ⟨cell, rfl, _⟩ := int_item hi
      refine ⟨_, rfl, cell, rfl, fun a0 H2 ha0 S0 s2 => ⟨a0, rfl, S0, fun H3 B3 => ?_⟩⟩
      refine ⟨_, rfl, ?_⟩
      exact iteF ⟨_, rfl, (s1.trans s2).src (s1.free ha0) B3⟩
    · rintro σ H1 ⟨c1, rfl, s1⟩
      exact k H1
end
end My

set_option Elab.async false
set_option linter.all false
set_option maxRecDepth 100000
set_option maxHeartbeats 4000000
namespace L2
open PySem PySem.Spec PyProof.Rows
section
variable {X : Cx} {a b : Expr} {rest : List Expr} {pos : Pos} {ta : TE}
/-- x or 0, where x is an int or None -/
def tOr0 (ta : TE) : TE := fun σ H Q => ta σ H fun x H1 => ∃ z : Int, (x = .int z ∨ (x = .non ∧ z = 0)) ∧ Q (.int z) H1
theorem pe_or0 (ha : PE X a ta) (hb : PE X (.BoolOp .Or (b :: rest) pos) (tC (.int 0))) : PE X (.BoolOp .Or (a :: b :: rest) pos) (tOr0 ta) := by
  intro pins s σ H Q I h
  refine BoolOp_or (thn (ha pins s σ H _ I h) fun v s1 ⟨x, H1, I1, r1, q1⟩ => ?_)
  obtain ⟨z, hz, q1⟩ := q1
  rcases hz with rfl | ⟨rfl, rfl⟩
  · obtain ⟨t, rfl⟩ := r1
    refine PyProof.Rows.truthy_int ?_
    by_cases hz : z = 0
    · subst hz
      exact hb pins s1 σ H1 Q I1 q1
    · rw [show (z != 0) = true from by simp [hz]]
      exact ⟨.int z, H1, I1, ⟨_, rfl⟩, q1⟩
  · cases r1
    have e := hb pins s1 σ H1 Q I1 q1
    intro _ _ _
    exact e
end
end L2

set_option Elab.async false
set_option linter.all false
set_option maxRecDepth 100000
set_option maxHeartbeats 4000000
namespace My
open PySem L2 Mth
theorem gl_cases {b f a : Nat} {g : Option Nat} (hb : 2 ≤ b) (hf : 1 ≤ f) (h : GLis b f a g) : (g = none ∧ f = 1 ∧ 2 ≤ a) ∨ ∃ j, g = some (b ^ j - 1) ∧ glOk b f a j ∧ ∀ i, i < j → ¬ glOk b f a i := by
  by_cases q : 2 ≤ f ∨ a ≤ 1
  · obtain ⟨j, h1, h2, h3⟩ := glis_ex (a := a) hb hf q
    exact .inr ⟨j, h.uniq h3, h1, h2⟩
  · obtain rfl : f = 1 := by omega
    exact .inl ⟨h.uniq (glis_none hb (by omega)), rfl, by omega⟩
theorem gl_pow {b f a j : Nat} (hb : 2 ≤ b) (hf : 1 ≤ f) (h2 : ∀ i, i < j → ¬ glOk b f a i) (hj : 2 ≤ f ∨ j = 0) : b ^ j - 1 ≤ b * a := by
  rcases Nat.eq_zero_or_pos j with e | e
  · subst e; simp
  · have h3 := h2 (j - 1) (by omega)
    unfold glOk at h3
    have h4 : 1 * b ^ (j - 1) ≤ (f - 1) * b ^ (j - 1) := Nat.mul_le_mul_right _ (by omega)
    have h5 : b ^ j = b * b ^ (j - 1) := by rw [Nat.mul_comm, ← Nat.pow_succ]; congr 1; omega
    have h6 : b * b ^ (j - 1) ≤ b * a := Nat.mul_le_mul_left _ (by omega)
    omega
theorem gl_one {b a j : Nat} (h1 : glOk b 1 a j) (h2 : ∀ i, i < j → ¬ glOk b 1 a i) : j = 0 := by
  rcases Nat.eq_zero_or_pos j with e | e
  · exact e
  · exact absurd (by unfold glOk at *; omega) (h2 0 e)
theorem gl_bound {b f a g : Nat} (hb : 2 ≤ b) (hf : 1 ≤ f) (h : GLis b f a (some g)) : g ≤ b * a := by
  rcases gl_cases hb hf h with ⟨z, _⟩ | ⟨j, z, h1, h2⟩
  · cases z
  · cases z
    refine gl_pow hb hf h2 ?_
    rcases Nat.lt_or_ge f 2 with q | q
    · obtain rfl : f = 1 := by omega
      exact .inr (gl_one h1 h2)
    · exact .inl q
theorem gl_mono {b f a a' x : Nat} {g : Option Nat} (hb : 2 ≤ b) (hf : 1 ≤ f) (h : GLis b f a g) (h' : GLis b f a' (some x)) (ha : a ≤ a') : ∃ y, g = some y ∧ y ≤ x := by
  rcases gl_cases hb hf h' with ⟨z, _⟩ | ⟨j', z, h1', h2'⟩
  · cases z
  · cases z
    rcases gl_cases hb hf h with ⟨z, rfl, h3⟩ | ⟨j, z, h1, h2⟩
    · unfold glOk at h1'
      omega
    · refine ⟨_, z, ?_⟩
      have : j ≤ j' := by
        rcases Nat.lt_or_ge j' j with q | q
        · exact absurd (by unfold glOk at *; omega) (h2 j' q)
        · exact q
      have := Nat.pow_le_pow_right (n := b) (by omega) this
      omega
theorem safe_bound {b f a g : Nat} (hb : 2 ≤ b) (hf : 1 ≤ f) (h : GLis b f a (some g)) : a ≤ f * (g + 1) + 1 := by
  rcases gl_cases hb hf h with ⟨z, _⟩ | ⟨j, z, h1, h2⟩
  · cases z
  · cases z
    have h3 : 0 < b ^ j := pow_pos' hb
    rw [show b ^ j - 1 + 1 = b ^ j by omega]
    unfold glOk at h1
    have h4 : (f - 1) * b ^ j ≤ f * b ^ j := Nat.mul_le_mul_right _ (by omega)
    omega
theorem safe_uniq {b f a a' g m x : Nat} {g' z' : Option Nat} (hb : 2 ≤ b) (hf : 1 ≤ f) (h1 : GLis b f a (some g)) (h2 : g ≤ m) (h3 : GLis b f (a + 1) g') (h4 : ∀ y, g' = some y → m < y)
    (k1 : GLis b f a' (some x)) (k2 : x ≤ m) (k3 : GLis b f (a' + 1) z') (k4 : ∀ y, z' = some y → m < y) : a = a' := by
  rcases Nat.lt_trichotomy a a' with q | q | q
  · obtain ⟨y, e, hy⟩ := gl_mono hb hf h3 k1 q
    have := h4 y e
    omega
  · exact q
  · obtain ⟨y, e, hy⟩ := gl_mono hb hf k3 h1 q
    have := k4 y e
    omega
theorem first_bound {b f a m T : Nat} (hb : 2 ≤ b) (hf : 1 ≤ f) (h1 : a ≤ T) (h2 : m ≤ los b f T a) (h3 : ∀ T', a ≤ T' → T' < T → los b f T' a < m) : T ≤ a + b * m := by
  obtain ⟨T', k1, k2, k3⟩ := los_near hb hf h1 h2
  rcases Nat.lt_or_ge T' T with q | q
  · have := h3 T' k1 q
    omega
  · omega
theorem Wel.upd {H : Hp} {a c : Addr} {o : HO} {e : Nat} (S : Wel H a e) (h : c ≠ a) : Wel (upd H c o) a e := by
  obtain ⟨x, d, z, h1, h2⟩ := S.ob
  exact ⟨x, d, z, by rw [upd_ne (fun q => h q.symm)]; exact h1, h2⟩
theorem But.updN {H H' : Hp} {a c : Addr} {o : HO} (B : But a H H') (h : H c = none) : But a H (upd H' c o) := fun b u e n => by
  rw [upd_ne (ne_of_none e h)]
  exact B _ _ e n
theorem mulB {b m : Nat} (hb : b ≤ 1000) (hm : m < 2 ^ 110) : b * m < 2 ^ 125 := Nat.lt_of_le_of_lt (Nat.mul_le_mul hb (Nat.le_of_lt hm)) (by decide)
end My

set_option Elab.async false
set_option linter.all false
set_option maxRecDepth 100000
set_option maxHeartbeats 4000000
namespace My
open PySem L2 Mth
def pws (b n : Nat) : List Nat := (List.range n).map fun j => b ^ j
theorem pws_succ (b n : Nat) : pws b (n + 1) = pws b n ++ [b ^ n] := by
  unfold pws
  rw [List.range_succ, List.map_append]
  rfl
theorem pws_len (b n : Nat) : (pws b n).length = n := by unfold pws; rw [List.length_map, List.length_range]
theorem pws_mem {b n q : Nat} : q ∈ pws b n ↔ ∃ j, j < n ∧ q = b ^ j := by
  unfold pws
  rw [List.mem_map]
  constructor
  · rintro ⟨j, h, e⟩
    exact ⟨j, List.mem_range.mp h, e.symm⟩
  · rintro ⟨j, h, e⟩
    exact ⟨j, List.mem_range.mpr h, e.symm⟩
/-- the powers up to a number -/
def sp_powers : Sp := fun vs H Q _ => ∃ b m : Nat, vs = [.int b, .int m] ∧ 2 ≤ b ∧ b ≤ 1000 ∧ m < 2 ^ 150 ∧ ∀ n D H', n ≤ 200 → (∀ j, j < n ↔ b ^ j ≤ max 1 m) → H D = none → Same H H' → H' D = some (.lst ((pws b n).map nV)) → Q (.ref D) H'
theorem eq_ints {K : PySem.W.Frag} {H : Hp} {a b : Addr} {ns : List Int} {Q : VK} (ha : SqL K H a (ns.map V.int)) (hb : SqL K H b (ns.map V.int)) (q : Q (.bl true) H) : rEqD K (.ref a) (.ref b) H Q := by
  refine ⟨_, _, .lst ha (dp_ints ns), .lst hb (dp_ints ns), shaped_ints ns, shaped_ints ns, ?_⟩
  rw [eqv_ints]
  exact q
section
variable {P : Program} {w : World} {K : PySem.W.Frag} {mg : Str → Option Value} {base : Heap}
end
end My

set_option Elab.async false
set_option linter.all false
set_option maxRecDepth 100000
set_option maxHeartbeats 4000000
namespace My
open PySem L2 Mth
-- no _law_stock
-- no _law_newest
/-! the newest kept number by its multiples of each power -/
def newL (b f T s i : Nat) : List Nat := [0] ++ ((List.range i).filter fun j => decide (T ≤ flo (b ^ j) s + f * b ^ j)).map fun j => flo (b ^ j) s
theorem newL_succ (b f T s i : Nat) : newL b f T s (i + 1) = newL b f T s i ++ (if T ≤ flo (b ^ i) s + f * b ^ i then [flo (b ^ i) s] else []) := by
  unfold newL
  rw [List.range_succ, List.filter_append, List.filter_cons, List.filter_nil, List.map_append, List.append_assoc]
  by_cases q : T ≤ flo (b ^ i) s + f * b ^ i
  · rw [if_pos q, if_pos (decide_eq_true q)]; rfl
  · rw [if_neg q, if_neg fun z => q (of_decide_eq_true z)]; rfl
theorem newL_len (b f T s i : Nat) : (newL b f T s i).length ≤ i + 1 := by
  unfold newL
  rw [List.length_append, List.length_map]
  have := List.length_filter_le (fun j => decide (T ≤ flo (b ^ j) s + f * b ^ j)) (List.range i)
  rw [List.length_range] at this
  simp only [List.length_cons, List.length_nil]
  omega
theorem kpt_flo {b f T s j : Nat} (hb : 2 ≤ b) (hs : s ≤ T) (h : T ≤ flo (b ^ j) s + f * b ^ j) : kpt b f (flo (b ^ j) s) T = true := by
  rcases Nat.eq_zero_or_pos (flo (b ^ j) s) with e | e
  · rw [e]; exact kpt_zero
  · refine decide_eq_true ⟨Nat.le_trans (flo_le _ _) hs, .inr ?_⟩
    have h3 : b ^ j ≤ lp b (flo (b ^ j) s) := Nat.pow_le_pow_right (by omega) (lev_ge hb e (flo_dvd _ _))
    have h4 : f * b ^ j ≤ f * lp b (flo (b ^ j) s) := Nat.mul_le_mul_left _ h3
    omega
theorem newL_kpt {b f T s i n : Nat} (hb : 2 ≤ b) (hs : s ≤ T) (h : n ∈ newL b f T s i) : kpt b f n T = true ∧ n ≤ s := by
  unfold newL at h
  rcases List.mem_append.mp h with h | h
  · obtain rfl : n = 0 := by simpa using h
    exact ⟨kpt_zero, Nat.zero_le _⟩
  · obtain ⟨j, hj, rfl⟩ := List.mem_map.mp h
    exact ⟨kpt_flo hb hs (of_decide_eq_true (List.mem_filter.mp hj).2), flo_le _ _⟩
theorem newL_prv {b f T s n : Nat} (hb : 2 ≤ b) (hs : s ≤ T) (hn : ∀ j, j < n ↔ b ^ j ≤ max 1 s) : prv b f T s ∈ newL b f T s n := by
  unfold newL
  rcases Nat.eq_zero_or_pos (prv b f T s) with e | e
  · rw [e]; simp
  · refine List.mem_append.mpr (.inr (List.mem_map.mpr ⟨lev b (prv b f T s), ?_, ?_⟩))
    · have h1 := prv_le b f T s
      have h2 := lp_le hb e
      have h3 := flo_ge (lp_dvd hb e) h1
      obtain ⟨_, h4 | h4⟩ := of_decide_eq_true (prv_kpt b f T s)
      · omega
      · refine List.mem_filter.mpr ⟨List.mem_range.mpr ((hn _).mpr ?_), decide_eq_true ?_⟩
        · unfold lp at h2
          omega
        · unfold lp at h3 h4
          omega
    · have h1 := prv_le b f T s
      have h3 := flo_ge (lp_dvd hb e) h1
      obtain ⟨_, h4 | h4⟩ := of_decide_eq_true (prv_kpt b f T s)
      · omega
      · have h5 : kpt b f (flo (lp b (prv b f T s)) s) T = true := kpt_flo hb hs (by unfold lp at h3 h4; omega)
        have h6 := prv_max h5 (flo_le _ _)
        unfold lp at h3 h6
        omega
theorem max_newL {b f T s n : Nat} {m : Int} (hb : 2 ≤ b) (hs : s ≤ T) (hn : ∀ j, j < n ↔ b ^ j ≤ max 1 s) (h1 : m ∈ natI (newL b f T s n)) (h2 : ∀ y, y ∈ natI (newL b f T s n) → y ≤ m) : m = (prv b f T s : Nat) := by
  obtain ⟨q, rfl⟩ : ∃ q : Nat, m = (q : Int) := by
    unfold natI at h1
    obtain ⟨q, _, e⟩ := List.mem_map.mp h1
    exact ⟨q, e.symm⟩
  obtain ⟨k1, k2⟩ := newL_kpt hb hs (mem_natI.mp h1)
  have k3 := prv_max k1 k2
  have k4 := h2 _ (mem_natI.mpr (newL_prv hb hs hn))
  omega
theorem flo_mul (p s : Nat) : ((s : Int) / (p : Int)) * (p : Int) = ((flo p s : Nat) : Int) := by
  unfold flo
  have h := Nat.div_add_mod s p
  have e : s / p * p = s - s % p := by rw [Nat.mul_comm]; omega
  rw [← e]
  push_cast
  rfl
/-- one of two factors is small if the product is -/
theorem cmul_of {i j : Nat} (h : i * j < 2 ^ 128) : CMul (i : Int) (j : Int) := by
  rcases Nat.lt_or_ge i (2 ^ 64) with q | q
  · exact .inl ⟨by omega, by exact_mod_cast q⟩
  · rcases Nat.lt_or_ge j (2 ^ 64) with q' | q'
    · exact .inr ⟨by omega, by exact_mod_cast q'⟩
    · have := Nat.mul_le_mul q q'
      have e : (2 ^ 64 * 2 ^ 64 : Nat) = 2 ^ 128 := by decide
      omega
def sp_newest : Sp := fun vs H Q _ => ∃ (t : Addr) (b f s T : Nat), vs = [.ref t, .int s, .int T] ∧ H t = some (.tup [.int b, .int f]) ∧ 2 ≤ b ∧ b ≤ 1000 ∧ 1 ≤ f ∧ f ≤ 1000000 ∧ s ≤ T ∧ T < 2 ^ 120 ∧ ∀ H', Same H H' → Q (.int (prv b f T s : Nat)) H'
/-! the stock -/
theorem ceil_of {X p q : Int} (hp : 0 < p) (h1 : (q - 1) * p < X) (h2 : X ≤ q * p) : -((-X) / p) = q := by
  have h3 : (-X) / p = -q := by
    have e1 : (q - 1) * p = q * p - p := by rw [Int.sub_mul, Int.one_mul]
    refine ((Int.ediv_emod_unique (r := -X + q * p) hp).mpr ⟨?_, by omega, by omega⟩).1
    rw [Int.mul_neg, Int.mul_comm p q]
    omega
  omega
theorem first_lo {b f T l : Nat} (hb : 2 ≤ b) : -((-(if (T : Int) - (f : Int) * ((b ^ l : Nat) : Int) > 1 then (T : Int) - (f : Int) * ((b ^ l : Nat) : Int) else 1)) / ((b ^ l : Nat) : Int)) = ((loQ b f T l : Nat) : Int) := by
  have hp : 0 < b ^ l := pow_pos' hb
  unfold loQ
  generalize b ^ l = p at *
  have h1 := Nat.div_mul_le_self (T + p - 1) p
  have h2 := Nat.lt_div_mul_add (a := T + p - 1) hp
  generalize (T + p - 1) / p = c at *
  have e1 : (f : Int) * (p : Int) = ((f * p : Nat) : Int) := by push_cast; rfl
  rw [e1]
  rcases Nat.lt_or_ge f c with q | q
  · have e2 : max 1 (c - f) = c - f := by omega
    rw [e2]
    have e3 : (c - f) * p = c * p - f * p := Nat.sub_mul _ _ _
    have e4 : f * p + p ≤ c * p := by rw [← Nat.succ_mul]; exact Nat.mul_le_mul_right _ q
    refine ceil_of (by omega) ?_ ?_
    · have e5 : (((c - f : Nat) : Int) - 1) * (p : Int) = (((c - f) * p : Nat) : Int) - (p : Int) := by rw [Int.sub_mul, Int.one_mul]; push_cast; rfl
      rw [e5, e3]
      split <;> omega
    · have e5 : ((c - f : Nat) : Int) * (p : Int) = (((c - f) * p : Nat) : Int) := by push_cast; rfl
      rw [e5, e3]
      split <;> omega
  · have e2 : max 1 (c - f) = 1 := by omega
    rw [e2]
    have e4 : c * p ≤ f * p := Nat.mul_le_mul_right _ q
    refine ceil_of (by omega) ?_ ?_
    · split <;> omega
    · split <;> omega
def qsr (b lo r : Nat) : List Nat := ((List.range r).map fun i => lo + i).filter fun q => decide (q % b ≠ 0)
theorem qsr_succ (b lo r : Nat) : qsr b lo (r + 1) = qsr b lo r ++ (if (lo + r) % b ≠ 0 then [lo + r] else []) := by
  unfold qsr
  rw [List.range_succ, List.map_append, List.filter_append]
  by_cases q : (lo + r) % b ≠ 0
  · rw [if_pos q, List.map_cons, List.map_nil, List.filter_cons, if_pos (decide_eq_true q), List.filter_nil]
  · rw [if_neg q, List.map_cons, List.map_nil, List.filter_cons, if_neg fun z => q (of_decide_eq_true z), List.filter_nil]
theorem qsr_len (b lo r : Nat) : (qsr b lo r).length ≤ r := by
  unfold qsr
  have := List.length_filter_le (fun q => decide (q % b ≠ 0)) ((List.range r).map fun i => lo + i)
  rw [List.length_map, List.length_range] at this
  exact this
theorem qsr_eq {b lo hi : Nat} (hlo : 1 ≤ lo) : qsr b lo (hi + 1 - lo) = qs b lo hi := by
  refine asc_ext ?_ ?_ fun q => ?_
  · unfold qsr
    refine List.Pairwise.filter _ ?_
    rw [List.pairwise_map]
    exact List.pairwise_lt_range.imp fun h => by omega
  · unfold qs
    exact rng_asc _ _
  · unfold qsr qs
    rw [List.mem_filter, List.mem_filter, List.mem_map, List.mem_range, decide_eq_true_iff, decide_eq_true_iff]
    constructor
    · rintro ⟨⟨i, hi', rfl⟩, h2⟩
      have := List.mem_range.mp hi'
      exact ⟨by omega, by omega, by omega, h2⟩
    · rintro ⟨h1, h2, h3, h4⟩
      exact ⟨⟨q - lo, List.mem_range.mpr (by omega), by omega⟩, h4⟩
theorem lvl_qsr {b f T l : Nat} (hb : 2 ≤ b) : (qsr b (loQ b f T l) (hiQ b T l + 1 - loQ b f T l)).map (fun q => q * b ^ l) = lvl b f T l := by
  rw [qsr_eq (by unfold loQ; omega)]
  unfold lvl
  apply List.map_congr_left
  intro q _
  exact Nat.mul_comm _ _
theorem lo_hi {b f T l : Nat} (hb : 2 ≤ b) : hiQ b T l + 1 - loQ b f T l ≤ f + 1 := by
  unfold hiQ loQ
  have hp : 0 < b ^ l := pow_pos' hb
  have : T / b ^ l ≤ (T + b ^ l - 1) / b ^ l := Nat.div_le_div_right (by omega)
  omega
def stk (b f T i : Nat) : List Nat := 0 :: ((List.range i).map (lvl b f T)).flatten
theorem stk_succ (b f T i : Nat) : stk b f T (i + 1) = stk b f T i ++ lvl b f T i := by
  unfold stk
  rw [List.range_succ, List.map_append, List.flatten_append]
  simp
theorem lvl_le {b f T l : Nat} (hb : 2 ≤ b) : (lvl b f T l).length ≤ f + 1 := by
  rw [← lvl_qsr hb, List.length_map]
  exact Nat.le_trans (qsr_len _ _ _) (lo_hi hb)
theorem stk_len {b f T : Nat} (hb : 2 ≤ b) : ∀ i, (stk b f T i).length ≤ 1 + i * (f + 1)
  | 0 => by unfold stk; simp
  | i + 1 => by
    rw [stk_succ, List.length_append, Nat.succ_mul]
    have := stk_len (f := f) (T := T) hb i
    have := lvl_le (f := f) (T := T) (l := i) hb
    omega
theorem stk_mem {b f T i x : Nat} (hb : 2 ≤ b) : x ∈ stk b f T i ↔ x = 0 ∨ (0 < x ∧ lev b x < i ∧ kpt b f x T = true) := by
  unfold stk
  rw [List.mem_cons, List.mem_flatten]
  constructor
  · rintro (h | ⟨l, hl, hx⟩)
    · exact .inl h
    · obtain ⟨j, hj, rfl⟩ := List.mem_map.mp hl
      obtain ⟨h1, h2, h3⟩ := (lvl_mem hb).mp hx
      exact .inr ⟨h1, by have := List.mem_range.mp hj; omega, h3⟩
  · rintro (h | ⟨h1, h2, h3⟩)
    · exact .inl h
    · exact .inr ⟨_, List.mem_map.mpr ⟨lev b x, List.mem_range.mpr h2, rfl⟩, (lvl_mem hb).mpr ⟨h1, rfl, h3⟩⟩
theorem stk_nd {b f T : Nat} (hb : 2 ≤ b) : ∀ i, (stk b f T i).Nodup
  | 0 => by unfold stk; simp
  | i + 1 => by
    rw [stk_succ, List.nodup_append]
    refine ⟨stk_nd hb i, (lvl_asc hb).imp fun h => by omega, fun x hx y hy e => ?_⟩
    subst e
    obtain ⟨h1, h2, h3⟩ := (lvl_mem hb).mp hy
    rcases (stk_mem hb).mp hx with h | ⟨_, h, _⟩
    · omega
    · omega
theorem stk_perm {b f T n : Nat} (hb : 2 ≤ b) (hn : ∀ j, j < n ↔ b ^ j ≤ max 1 T) : (alv b f T (T + 1)).Perm (stk b f T n) := by
  refine (List.perm_ext_iff_of_nodup (alv_nd _ _ _ _) (stk_nd hb n)).mpr fun x => ?_
  rw [stk_mem hb, alv_mem]
  constructor
  · rintro ⟨h1, h2⟩
    rcases Nat.eq_zero_or_pos x with e | e
    · exact .inl e
    · have := lp_le hb e
      unfold lp at this
      exact .inr ⟨e, (hn _).mpr (by omega), h2⟩
  · rintro (h | ⟨h1, h2, h3⟩)
    · subst h; exact ⟨by omega, kpt_zero⟩
    · exact ⟨by have := (of_decide_eq_true h3).1; omega, h3⟩
def sp_stock : Sp := fun vs H Q _ => ∃ (t : Addr) (b f T : Nat), vs = [.ref t, .int T] ∧ H t = some (.tup [.int b, .int f]) ∧ 2 ≤ b ∧ b ≤ 1000 ∧ 1 ≤ f ∧ f ≤ 9 ∧ T < 2 ^ 120 ∧ ∀ D H', H D = none → Same H H' → H' D = some (.lst ((alv b f T (T + 1)).map nV)) → (alv b f T (T + 1)).length ≤ 2001 → Q (.ref D) H'
section
variable {P : Program} {w : World} {K : PySem.W.Frag} {mg : Str → Option Value} {base : Heap}
end
end My

set_option Elab.async false
set_option linter.all false
set_option maxRecDepth 100000
set_option maxHeartbeats 4000000
namespace My
open PySem L2 Mth
abbrev s_law_swap : Stmt := top 41
theorem sc_law_swap : FnScope ["_law_well_here", "_law_many", "_law_base", "_law_wide", "_law_k", "_law_factors"] ["_law_well_here", "_law_many"] (defScope s_law_swap) := ⟨rfl, rfl, rfl, by decide +kernel, rfl, by decide +kernel, by decide +kernel⟩
abbrev s_law_shift : Stmt := top 42
theorem sc_law_shift : FnScope ["_law_plans", "_law_clock", "_law_old_one", "_law_new_one"] ["_law_plans", "_law_clock"] (defScope s_law_shift) := ⟨rfl, rfl, rfl, by decide +kernel, rfl, by decide +kernel, by decide +kernel⟩
-- no _law_gone
theorem but_none {a D : Addr} {H H1 : Hp} {e : Nat} (B : But a H H1) (S : Wel H1 a e) (h : H1 D = none) : H D = none := by
  cases q : H D with
  | none => rfl
  | some o =>
    have n : D ≠ a := S.ne h
    rw [B _ _ q n] at h
    cases h
theorem but_put {a D : Addr} {H H3 : Hp} {o : HO} (h : H D = none) (B : But a H H3) : But a H (upd H3 D o) := fun b u e n => by
  rw [upd_ne (ne_of_none e h)]
  exact B b u e n
theorem wel_put {a D : Addr} {H : Hp} {e : Nat} {o : HO} (S : Wel H a e) (h : D ≠ a) : Wel (upd H D o) a e := by
  obtain ⟨x, d, z, ha, r⟩ := S.ob
  exact ⟨x, d, z, by rw [upd_ne h.symm]; exact ha, r⟩
/-- two plans -/
structure Pln (H : Hp) (t t1 t2 : Addr) (b f k f2 : Nat) : Prop where
  t : H t = some (.tup [.ref t1, .ref t2])
  t1 : H t1 = some (.tup [.int b, .int f])
  t2 : H t2 = some (.tup [.int (b ^ k : Nat), .int f2])
  b1 : 2 ≤ b
  b2 : b ≤ 1000
  f1 : 1 ≤ f
  fm : f ≤ 1000000
  k1 : 1 ≤ k
  k2 : b ^ k ≤ 1000
  g1 : 1 ≤ f2
  gm : f2 ≤ 1000000
theorem Pln.same {H H' : Hp} {t t1 t2 : Addr} {b f k f2 : Nat} (h : Pln H t t1 t2 b f k f2) (s : Same H H') : Pln H' t t1 t2 b f k f2 :=
  ⟨s _ _ h.t, s _ _ h.t1, s _ _ h.t2, h.b1, h.b2, h.f1, h.fm, h.k1, h.k2, h.g1, h.gm⟩
theorem Pln.but {H H' : Hp} {t t1 t2 a : Addr} {b f k f2 e : Nat} (h : Pln H t t1 t2 b f k f2) (S : Wel H a e) (B : But a H H') : Pln H' t t1 t2 b f k f2 := by
  obtain ⟨x, d, z, ha, _⟩ := S.ob
  have nd : ∀ {t xs}, H t = some (.tup xs) → t ≠ a := fun h => ne_of h ha (by intro z; cases z)
  exact ⟨B _ _ h.t (nd h.t), B _ _ h.t1 (nd h.t1), B _ _ h.t2 (nd h.t2), h.b1, h.b2, h.f1, h.fm, h.k1, h.k2, h.g1, h.gm⟩
theorem Pln.two {H : Hp} {t t1 t2 : Addr} {b f k f2 : Nat} (h : Pln H t t1 t2 b f k f2) : 2 ≤ b ^ k := by
  have h1 := h.b1
  have h2 : b ^ 1 ≤ b ^ k := Nat.pow_le_pow_right (by omega) h.k1
  rw [Nat.pow_one] at h2
  omega
def sp_swap : Sp := fun vs H Q _ => ∃ (a : Addr) (m e : Nat), vs = [.ref a, .int m] ∧ Wel H a e ∧ e ≤ 100000 ∧ 1 ≤ m ∧ m ≤ 1000000 ∧
  ∀ (b f k f2 : Nat) (t t1 t2 : Addr) (H' : Hp), b ≤ 30 → f ≤ max 3 m → f2 ≤ max 3 m → Pln H' t t1 t2 b f k f2 → Wel H' a (e + 7) → But a H H' → Q (.ref t) H'
def sp_shift (C Ch : Addr) : Sp := fun vs H Q _ => ∃ (t t1 t2 : Addr) (b f k f2 c : Nat), vs = [.ref t, .int c] ∧ Pln H t t1 t2 b f k f2 ∧ c < 2 ^ 120 ∧ ∀ p H', Same H H' → Chg C Ch H' p b f (b ^ k) f2 c → Q (.ref p) H'
def sp_lgone : Sp := fun vs H Q _ => ∃ (t t1 t2 : Addr) (b f k f2 c T : Nat), vs = [.ref t, .int c, .int T] ∧ Pln H t t1 t2 b f k f2 ∧ f2 ≤ 9 ∧ c ≤ T ∧ T < 2 ^ 120 ∧ ∀ D H', Same H H' → H D = none → H' D = some (.lst ((gnl b f (b ^ k) f2 c T).map nV)) → (gnl b f (b ^ k) f2 c T).length ≤ 2001 → Q (.ref D) H'
theorem small2001 {n : Nat} (h : n ≤ 2001) : n < sizeLine := Nat.lt_of_le_of_lt h (by decide)
section
variable {P : Program} {w : World} {K : PySem.W.Frag} {mg : Str → Option Value} {base : Heap}
theorem ok_swap {f C : Addr} {fd : FuncData} (F : Fun K "_law_swap" "_law_swap" s_law_swap f fd) (T : Txt K mg C) (c_law_draw : CalF P w K mg base 2 "_law_draw" ["_law_well_here", "_law_many"] sp_drawC) (c_law_one : CalF P w K mg base 3 "_law_one" ["_law_well_here", "_law_some"] sp_oneC) : FnOk P w K mg base CX0 4 f fd ["_law_well_here", "_law_many"] sp_swap := by
  refine F.ok sc_law_swap (fun vs H Q E h => ?_) (fun cdv A outer s H vs Q E hr h => ?_)
  · obtain ⟨a, m, e, rfl, _⟩ := h
    rfl
  · obtain ⟨a, m, e, rfl, S, he, hm1, hm2, kk⟩ := h
    refine ⟨_, (pss_cut (ps_par (i := 2) (j := 3) (by rfl) sc_law_swap.nd rfl rfl (by decide) rfl rfl (pa_cons (pe_callF c_law_one (hr.mono (by decide)) rfl (pa_cons (pv 0) (pa_cons (pe_lst (pa_cons pe_int (pa_cons pe_int (pa_cons pe_int (pa_cons pe_int (pa_cons pe_int (pa_cons (pe_op op_add pe_int (pe_callF c_law_draw (hr.mono (by decide)) rfl (pa_cons (pv 0) (pa_cons pe_int pa_nil)))) pa_nil))))))) pa_nil))) (pa_cons pe_int pa_nil)) (by rfl))
      (pss_cut (ps_for PassesOwn.never rfl (pi_range1B (by rfl) T.b_range (pa_cons (pe_op op_add pe_int (pe_callF c_law_draw (hr.mono (by decide)) rfl (pa_cons (pv 0) (pa_cons pe_int pa_nil)))) pa_nil)) (pg_name (i := 4) sc_law_swap.nd rfl (Or.inl rfl))
      (pss_one (ps_set (i := 3) sc_law_swap.nd rfl (Or.inl rfl) (pe_ix ix_list (pe_lst (pa_cons (pv 3) (pa_cons (pe_op op_mul (pv 3) (pv 2)) pa_nil))) (pe_callTy call_int1 (by rfl) T.b_int (by decide +kernel) (pa_cons (pe_cmpR op_le (pe_op op_mul (pv 3) (pv 2)) pe_int (nomark _)) pa_nil)) (fun _ _ => rfl)))))
      (pss_cut (ps_setLc (i := 5) (own := [("_law_k", 4)]) (g := gName 4) (by rfl) sc_law_swap.nd rfl rfl (sw_true rfl rfl rfl (by decide +kernel)) (pi_range1B (by rfl) T.b_range (pa_cons pe_int pa_nil)) (blkOk_by (own := [("_law_k", 4)]) (N := ["_law_well_here", "_law_many", "_law_base", "_law_wide", "_law_k", "_law_factors"]) (sc := defScope s_law_swap) (by decide +kernel)) (fun _ _ _ _ _ => (pg_name (i := 4) sc_law_swap.nd rfl (Or.inl rfl))) (fun _ _ _ _ _ => pts_nil) (fun _ _ _ _ _ => (pe_callF c_law_one (hr.mono (by decide)) rfl (pa_cons (pv 0) (pa_cons (pe_lst (pa_cons pe_int (pa_cons pe_int (pa_cons pe_int (pa_cons (pe_op op_add pe_int (pe_callF c_law_draw (hr.mono (by decide)) rfl (pa_cons (pv 0) (pa_cons (pv 1) pa_nil)))) pa_nil))))) pa_nil)))))
      (pss_one (ps_ret (pe_tup (pa_cons (pe_tup (pa_cons (pv 2) (pa_cons (pe_ix ix_list (pv 5) pe_int (fun _ _ => rfl)) pa_nil))) (pa_cons (pe_tup (pa_cons (pv 3) (pa_cons (pe_ix ix_list (pv 5) pe_int (fun _ _ => rfl)) pa_nil))) pa_nil)))))))), ?_⟩
    refine ⟨fun σ H1 => ∃ b : Nat, σ = [some (.ref a), some (.int m), some (.int b), some (.int 1), none, none] ∧ 2 ≤ b ∧ b ≤ 30 ∧ Wel H1 a (e + 2) ∧ But a H H1, ?_, ?_⟩
    · refine ⟨_, rfl, _, rfl, a, 29, e, rfl, S, by omega, by decide, by decide, fun r1 H1 r10 r11 S1 B1 => ?_⟩
      obtain ⟨i1, rfl, hi1⟩ := nat_of r10 r11
      refine ⟨_, _, rfl, rfl, by show 6 ≤ sizeLine; decide, fun l hl => ⟨a, l, _, _, rfl, S1.same (Same.upd hl), by omega, S1.ne hl, upd_same, (by show 0 < 6; decide), (by show 6 ≤ 1000000; decide), fun v H3 hv S3 B3 => ?_⟩⟩
      obtain ⟨b, rfl, hb, hb2⟩ : ∃ b : Nat, v = .int b ∧ 2 ≤ b ∧ b ≤ 30 := by
        simp only [List.mem_cons, List.not_mem_nil, or_false] at hv
        rcases hv with h | h | h | h | h | h
        · exact ⟨2, h, by decide, by decide⟩
        · exact ⟨2, h, by decide, by decide⟩
        · exact ⟨3, h, by decide, by decide⟩
        · exact ⟨4, h, by decide, by decide⟩
        · exact ⟨10, h, by decide, by decide⟩
        · exact ⟨2 + i1, by rw [h, Int.natCast_add]; rfl, by omega, by omega⟩
      exact ⟨_, _, rfl, b, rfl, hb, hb2, S3, B1.trans ((Same.but (Same.upd hl)).trans B3)⟩
    rintro σ H1 ⟨b, rfl, hb, hb2, S1, B1⟩
    refine ⟨fun σ H2 => ∃ (k : Nat) (c4 : Option V), σ = [some (.ref a), some (.int m), some (.int b), some (.int (b ^ k : Nat)), c4, none] ∧ 1 ≤ k ∧ b ^ k ≤ 1000 ∧ Wel H2 a (e + 3) ∧ But a H H2, ?_, ?_⟩
    · refine ⟨_, rfl, a, 4, _, rfl, S1, by omega, by decide, by decide, fun r1 H2 r10 r11 S2 B2 => ?_⟩
      obtain ⟨i1, rfl, hi1⟩ := nat_of r10 r11
      refine ⟨_, _, rfl, rfl, _, rfl, for_range (fun j σ H3 => ∃ (k : Nat) (c4 : Option V), σ = [some (.ref a), some (.int m), some (.int b), some (.int (b ^ k : Nat)), c4, none] ∧ (j = 0 ∧ k = 0 ∨ 1 ≤ k) ∧ b ^ k ≤ 1000 ∧ Wel H3 a (e + 3) ∧ But a H H3) ⟨0, none, by rw [Nat.pow_zero]; rfl, .inl ⟨rfl, rfl⟩, by rw [Nat.pow_zero]; decide, S2, B1.trans B2⟩ ?_ ?_⟩
      · rintro j σ H3 hj ⟨k, c4, rfl, hjk, hk, S3, B3⟩
        have hk0 : 0 < b ^ k := pow_pos' hb
        have cm : ∀ {x y : Int}, x = ((b ^ k : Nat) : Int) → -(2 ^ 64) < x ∧ x < 2 ^ 64 := fun h => by subst h; exact ⟨by omega, by omega⟩
        refine ⟨_, rfl, _, rfl, _, rfl, _, _, rfl, rfl, .inl (cm (y := 0) rfl), by show 2 ≤ sizeLine; decide, fun l hl => ?_⟩
        refine ⟨_, rfl, _, rfl, _, _, rfl, rfl, .inl (cm (y := 0) rfl), _, _, rfl, rfl, ?_⟩
        by_cases hw : b ^ k * b ≤ 1000
        · have e1 : decide (((b ^ k : Nat) : Int) * (b : Int) ≤ 1000) = true := decide_eq_true (by rw [← Int.natCast_mul]; omega)
          refine .inr ⟨_, rfl, l, _, _, V.int ((b ^ (k + 1) : Nat) : Int), rfl, rfl, SqL.of upd_same, ?_, k + 1, some (V.int (0 + (j : Int))), rfl, .inr (by omega), by rw [Nat.pow_succ]; exact hw, S3.same (Same.upd hl), B3.trans (Same.but (Same.upd hl))⟩
          rw [e1, Nat.pow_succ, Int.natCast_mul]
          exact atI_nat (j := 1) rfl
        · have e1 : decide (((b ^ k : Nat) : Int) * (b : Int) ≤ 1000) = false := decide_eq_false (by rw [← Int.natCast_mul]; omega)
          refine .inr ⟨_, rfl, l, _, _, V.int ((b ^ k : Nat) : Int), rfl, rfl, SqL.of upd_same, ?_, k, some (V.int (0 + (j : Int))), rfl, .inr ?_, hk, S3.same (Same.upd hl), B3.trans (Same.but (Same.upd hl))⟩
          · rw [e1]
            exact atI_nat (j := 0) rfl
          · rcases Nat.eq_zero_or_pos k with z | z
            · subst z
              rw [Nat.pow_zero] at hw
              omega
            · exact z
      · rintro σ H3 ⟨k, c4, rfl, hjk, hk, S3, B3⟩
        exact ⟨k, c4, rfl, by omega, hk, S3, B3⟩
    clear S1 B1
    rintro σ H2 ⟨k, c4, rfl, hk1, hk, S2, B2⟩
    refine ⟨fun σ H5 => ∃ (D : Addr) (f f2 : Nat) (c4 : Option V), σ = [some (.ref a), some (.int m), some (.int b), some (.int (b ^ k : Nat)), c4, some (.ref D)] ∧ H5 D = some (.lst [.int f, .int f2]) ∧ 1 ≤ f ∧ f ≤ max 3 m ∧ 1 ≤ f2 ∧ f2 ≤ max 3 m ∧ Wel H5 a (e + 7) ∧ But a H H5, ?_, ?_⟩
    · refine ⟨_, rfl, fun D hD => lc_range (lo := 0) (n := 2) (fun i H3 => ∃ rs : List Nat, But a H H3 ∧ Wel H3 a (e + 3 + 2 * i) ∧ H3 D = some (.lst (rs.map nV)) ∧ rs.length = i ∧ ∀ x ∈ rs, 1 ≤ x ∧ x ≤ max 3 m) ⟨[], B2.trans (Same.but (Same.upd hD)), S2.same (Same.upd hD), upd_same, rfl, fun x hx => by cases hx⟩ ?_ ?_⟩
      · rintro i H3 hi ⟨rs, B3, S3, h3, hl3, hm3⟩
        have hDa : D ≠ a := S2.ne hD
        refine ⟨rfl, ?_⟩
        refine ⟨_, rfl, _, rfl, _, rfl, a, m, _, rfl, S3, by omega, by omega, by omega, fun r1 H4 r10 r11 S4 B4 => ?_⟩
        obtain ⟨i1, rfl, hi1⟩ := nat_of r10 r11
        refine ⟨_, _, rfl, rfl, by show 4 ≤ sizeLine; decide, fun l hl => ⟨a, l, _, _, rfl, S4.same (Same.upd hl), by omega, S4.ne hl, upd_same, (by show 0 < 4; decide), (by show 4 ≤ 1000000; decide), fun v H5 hv S5 B5 => ?_⟩⟩
        obtain ⟨c, rfl, hc⟩ : ∃ c : Nat, v = .int c ∧ 1 ≤ c ∧ c ≤ max 3 m := by
          simp only [List.mem_cons, List.not_mem_nil, or_false] at hv
          rcases hv with h | h | h | h
          · exact ⟨1, h, by omega, by omega⟩
          · exact ⟨2, h, by omega, by omega⟩
          · exact ⟨3, h, by omega, by omega⟩
          · exact ⟨1 + i1, by rw [h, Int.natCast_add]; rfl, by omega, by omega⟩
        have h5 : H5 D = some (.lst (rs.map nV)) := B5 _ _ (Same.upd hl _ _ (B4 _ _ h3 hDa)) hDa
        refine ⟨_, h5, small300 (by rw [List.length_map]; omega), rs ++ [c], ?_, ?_, ?_, by simp [hl3], fun x hx => ?_⟩
        · exact but_put (but_none B2 S2 hD) (B3.trans (B4.trans ((Same.but (Same.upd hl)).trans B5)))
        · exact wel_put (S5.mono (by omega)) hDa
        · rw [upd_same, List.map_append]; rfl
        · rcases List.mem_append.mp hx with q | q
          · exact hm3 x q
          · rw [List.mem_singleton.mp q]; exact hc
      · rintro H3 ⟨rs, B3, S3, h3, hl3, hm3⟩
        match rs, hl3 with
        | [f, f2], _ => exact ⟨D, f, f2, _, rfl, h3, (hm3 f (by simp)).1, (hm3 f (by simp)).2, (hm3 f2 (by simp)).1, (hm3 f2 (by simp)).2, S3, B3⟩
    clear S2 B2
    rintro σ H5 ⟨D, f, f2, c4, rfl, hD, hf, hfm, hg, hgm, S5, B5⟩
    refine ⟨_, rfl, _, rfl, D, _, _, _, rfl, rfl, SqL.of hD, atI_nat (j := 0) rfl, by show 2 ≤ sizeLine; decide, fun t1 ht1 => ?_⟩
    have s1 := Same.upd (o := .tup [.int b, .int f]) ht1
    have h1 : (upd H5 t1 (.tup [.int b, .int f])) t1 = some (.tup [.int b, .int f]) := upd_same
    have hD1 := s1 _ _ hD
    generalize upd H5 t1 (.tup [.int b, .int f]) = H6 at *
    refine ⟨_, rfl, _, rfl, D, _, _, _, rfl, rfl, SqL.of hD1, atI_nat (j := 1) rfl, by show 2 ≤ sizeLine; decide, fun t2 ht2 => ?_⟩
    have s2 := Same.upd (o := .tup [.int ((b ^ k : Nat) : Int), .int f2]) ht2
    have h2 : (upd H6 t2 (.tup [.int ((b ^ k : Nat) : Int), .int f2])) t2 = some (.tup [.int ((b ^ k : Nat) : Int), .int f2]) := upd_same
    have h1' := s2 _ _ h1
    generalize upd H6 t2 (.tup [.int ((b ^ k : Nat) : Int), .int f2]) = H7 at *
    refine ⟨by show 2 ≤ sizeLine; decide, fun t ht => ?_⟩
    have s3 := Same.upd (o := .tup [.ref t1, .ref t2]) ht
    have s13 := s1.trans (s2.trans s3)
    exact kk b f k f2 t t1 t2 _ hb2 hfm hgm ⟨upd_same, s3 _ _ h1', s3 _ _ h2, hb, by omega, hf, by omega, hk1, hk, hg, by omega⟩ (S5.same s13) (B5.trans s13.but)
theorem ok_shift {f C Ch : Addr} {fd : FuncData} (F : Fun K "_law_shift" "_law_shift" s_law_shift f fd) (T : Txt K mg C) (TD : TxtD K mg Ch) (c_Scheme : CalC P w K mg base 3 "Scheme" C ["self", "base", "factor"] (sp_init C)) (c_Change : CalC P w K mg base 4 "Change" Ch ["self", "old", "new", "time"] (sp_cinit C Ch)) : FnOk P w K mg base CX0 6 f fd ["_law_plans", "_law_clock"] (sp_shift C Ch) := by
  refine F.ok sc_law_shift (fun vs H Q E h => ?_) (fun cdv A outer s H vs Q E hr h => ?_)
  · obtain ⟨t, t1, t2, b, f, k, f2, c, rfl, _⟩ := h
    rfl
  · obtain ⟨t, t1, t2, b, f, k, f2, c, rfl, X, hc, q⟩ := h
    refine ⟨_, (pss_cons (ps_asg (pv 0) (pg_tup (by rfl) (pgs_cons (pg_name (i := 2) sc_law_shift.nd rfl (Or.inl rfl)) (pgs_cons (pg_name (i := 3) sc_law_shift.nd rfl (Or.inl rfl)) pgs_nil))))
      (pss_one (ps_ret (pe_makeF c_Change (hr.mono (by decide)) rfl (pa_cons (pe_makeF c_Scheme (hr.mono (by decide)) rfl (pa_cons (pe_ix ix_tup (pv 2) pe_int (fun _ _ => rfl)) (pa_cons (pe_ix ix_tup (pv 2) pe_int (fun _ _ => rfl)) pa_nil))) (pa_cons (pe_makeF c_Scheme (hr.mono (by decide)) rfl (pa_cons (pe_ix ix_tup (pv 3) pe_int (fun _ _ => rfl)) (pa_cons (pe_ix ix_tup (pv 3) pe_int (fun _ _ => rfl)) pa_nil))) (pa_cons (pv 1) pa_nil))))))), ?_⟩
    refine ⟨_, rfl, t, _, rfl, SqT.of X.t, rfl, _, _, rfl, _, _, rfl, rfl, ?_⟩
    refine ⟨_, rfl, t1, _, _, _, rfl, rfl, SqT.of X.t1, atI_nat (j := 0) rfl, _, rfl, t1, _, _, _, rfl, rfl, SqT.of X.t1, atI_nat (j := 1) rfl, fun q1 d1 n1 m1 e1 => ?_⟩
    refine ⟨q1, d1, b, f, rfl, upd_same, X.b1, X.b2, X.f1, X.fm, rfl, ?_⟩
    have s1 := made_same (C := C) (fs := flds b f) n1 m1
    have hq1 : (upd (upd (upd H d1 (.own q1)) q1 (.ins C d1 [])) q1 (.ins C d1 (flds b f))) q1 = some (.ins C d1 (flds b f)) := upd_same
    generalize upd (upd (upd H d1 (.own q1)) q1 (.ins C d1 [])) q1 (.ins C d1 (flds b f)) = H1 at *
    have X1 := X.same s1
    refine ⟨_, rfl, t2, _, _, _, rfl, rfl, SqT.of X1.t2, atI_nat (j := 0) rfl, _, rfl, t2, _, _, _, rfl, rfl, SqT.of X1.t2, atI_nat (j := 1) rfl, fun q2 d2 n2 m2 e2 => ?_⟩
    refine ⟨q2, d2, b ^ k, f2, rfl, upd_same, X.two, X.k2, X.g1, X.gm, rfl, ?_⟩
    have s2 := made_same (C := C) (fs := flds (b ^ k) f2) n2 m2
    have hq2 : (upd (upd (upd H1 d2 (.own q2)) q2 (.ins C d2 [])) q2 (.ins C d2 (flds (b ^ k) f2))) q2 = some (.ins C d2 (flds (b ^ k) f2)) := upd_same
    generalize upd (upd (upd H1 d2 (.own q2)) q2 (.ins C d2 [])) q2 (.ins C d2 (flds (b ^ k) f2)) = H2 at *
    refine ⟨_, rfl, fun p dp np mp ep => ?_⟩
    have s3 := made_same (C := Ch) (fs := []) np mp
    have s4 := made_same (C := Ch) (fs := cfl q1 q2 c) np mp
    rw [upd_upd] at s3
    have A1 : Sch C H2 q1 b f := ⟨⟨d1, s2 _ _ hq1⟩, X.b1, X.b2, X.f1, X.fm⟩
    have A2 : Sch C H2 q2 (b ^ k) f2 := ⟨⟨d2, hq2⟩, X.two, X.k2, X.g1, X.gm⟩
    refine ⟨p, dp, q1, q2, b, f, b ^ k, f2, k, c, rfl, upd_same, A1.same s3, A2.same s3, rfl, rfl, ?_⟩
    exact q p _ (s1.trans (s2.trans s4)) ⟨⟨dp, q1, q2, upd_same, A1.same s4, A2.same s4⟩, ⟨k, X.k1, rfl⟩, hc⟩
end
end My

set_option Elab.async false
set_option linter.all false
set_option maxRecDepth 100000
set_option maxHeartbeats 4000000
namespace My
open PySem L2 Mth
-- no restore_point
-- no loss
-- no greatest_loss
section
variable {P : Program} {w : World} {K : PySem.W.Frag} {mg : Str → Option Value} {base : Heap}
end
end My

set_option Elab.async false
set_option linter.all false
set_option maxRecDepth 100000
set_option maxHeartbeats 4000000
namespace L2
open PySem PySem.Spec PyProof.Rows
/-- a loop over reversed of a list -/
theorem for_rev {K : PySem.W.Frag} {a : Addr} {xs : List V} {g : TG} {tb : TS} {D : Ends} {σ : St} {H : Hp} (Pv : Nat → St → Hp → Prop) (h0 : Pv 0 σ H) (hl : ∀ i σ H, i ≤ xs.length → Pv i σ H → SqL K H a xs)
    (hs : ∀ i x σ H, i < xs.length → xs[xs.length - 1 - i]? = some x → Pv i σ H → g x σ H fun σ2 H2 => tb { D with nx := Pv (i + 1), ct := Pv (i + 1), bk := D.nx } σ2 H2) (hd : ∀ σ H, Pv xs.length σ H → D.nx σ H) :
    ∃ W : Nat → Nat → St → Hp → Prop, (∃ m, W 0 m σ H) ∧ ∀ i m σ H, W i m σ H →
      ((Itv K a xs.length).stop i H ∧ D.nx σ H) ∨ ((Itv K a xs.length).go i H ∧ ∃ N : St → Hp → Prop, (∀ σ' H', N σ' H' → ∃ m', m' < m ∧ W (i + 1) m' σ' H') ∧ ∀ x H', (Itv K a xs.length).yld i H x H' → g x σ H' fun σ2 H2 => tb { D with nx := N, ct := N, bk := D.nx } σ2 H2) := by
  refine ⟨fun i m σ H => m = xs.length - i ∧ i ≤ xs.length ∧ Pv i σ H, ⟨_, rfl, Nat.zero_le _, h0⟩, ?_⟩
  rintro i m σ H ⟨rfl, hi, p⟩
  have q := hl i σ H hi p
  by_cases c : i < xs.length
  · have c2 : xs.length - 1 - i < xs.length := by omega
    refine .inr ⟨⟨c, xs, xs[xs.length - 1 - i], q, by simp [c2]⟩, Pv (i + 1), fun σ' H' z => ⟨xs.length - (i + 1), by omega, rfl, c, z⟩, fun x H' y => ?_⟩
    obtain ⟨rfl, hx⟩ := y
    exact hs i x σ H' c (hx xs q) p
  · obtain rfl : i = xs.length := by omega
    exact .inl ⟨Nat.le_refl _, hd σ H p⟩
end L2
namespace My
open PySem L2 Mth
-- no check_bound
abbrev s_places_up_to : Stmt := top 9
theorem sc_places_up_to : FnScope ["base", "most", "found", "place"] ["base", "most"] (defScope s_places_up_to) := ⟨rfl, rfl, rfl, by decide +kernel, rfl, by decide +kernel, by decide +kernel⟩
-- no first_time_of_loss
-- no first_state_of_loss
-- no safe_age
def pwL (b k : Nat) : List Nat := (List.range k).map fun j => b ^ j
theorem pwL_snoc (b k : Nat) : pwL b (k + 1) = pwL b k ++ [b ^ k] := by unfold pwL; rw [List.range_succ, List.map_append]; rfl
theorem pwL_len (b k : Nat) : (pwL b k).length = k := by unfold pwL; rw [List.length_map, List.length_range]
theorem pwL_get {b k i : Nat} (h : i < k) : (pwL b k)[i]? = some (b ^ i) := by unfold pwL; rw [List.getElem?_map, List.getElem?_range h]; rfl
def sp_places : Sp := fun vs H Q _ => ∃ b m : Nat, vs = [.int b, .int m] ∧ 2 ≤ b ∧ b ≤ 1000 ∧ m < 2 ^ 160 ∧ ∀ D k H', Same H H' → H D = none → H' D = some (.lst ((pwL b k).map nV)) → (∀ j, j < k → b ^ j ≤ m) → m < b ^ k → k ≤ 160 → Q (.ref D) H'
def sp_bound : Sp := fun vs H Q _ => ∃ (i j : Int) (v : V), vs = [.int i, .int j, v] ∧ j ≤ i ∧ Q .non H
/-! the least number from r on whose remainders reach their bounds -/
def cB (f a m b j : Nat) : Nat := min m (f * b ^ j + 1 - a)
def gS (f a m b : Nat) : Nat → Nat → Nat
  | 0, _ => 0
  | i + 1, r => (r - r % b ^ i) + gS f a m b i (max (r % b ^ i) (cB f a m b i))
theorem mod_pow {b i j q y : Nat} (h : j ≤ i) : (b ^ i * q + y) % b ^ j = y % b ^ j := by
  obtain ⟨d, rfl⟩ : ∃ d, i = j + d := ⟨i - j, by omega⟩
  rw [Nat.pow_add, Nat.mul_assoc, Nat.mul_add_mod]
theorem pred_mod {b j i : Nat} (hb : 2 ≤ b) (h : j ≤ i) : (b ^ i - 1) % b ^ j = b ^ j - 1 := by
  obtain ⟨d, rfl⟩ : ∃ d, i = j + d := ⟨i - j, by omega⟩
  have h1 : 0 < b ^ j := pow_pos' hb
  have h2 : 0 < b ^ d := pow_pos' hb
  have e : b ^ (j + d) - 1 = b ^ j * (b ^ d - 1) + (b ^ j - 1) := by
    rw [Nat.pow_add, Nat.mul_sub, Nat.mul_one]
    have h3 : b ^ j * 1 ≤ b ^ j * b ^ d := Nat.mul_le_mul_left _ h2
    omega
  rw [e, Nat.mul_add_mod, Nat.mod_eq_of_lt (by omega)]
theorem gS_spec {f a m b : Nat} (hb : 2 ≤ b) : ∀ i, (∀ j, j < i → cB f a m b j < b ^ j) → ∀ r, r < b ^ i →
    (r ≤ gS f a m b i r ∧ gS f a m b i r < b ^ i ∧ ∀ j, j < i → cB f a m b j ≤ gS f a m b i r % b ^ j) ∧ ∀ x, r ≤ x → (∀ j, j < i → cB f a m b j ≤ x % b ^ j) → gS f a m b i r ≤ x := by
  intro i
  induction i with
  | zero =>
    intro _ r hr
    rw [Nat.pow_zero] at hr
    have : r = 0 := by omega
    subst this
    exact ⟨⟨Nat.le_refl _, by rw [Nat.pow_zero]; exact Nat.one_pos, fun j h => by omega⟩, fun x _ _ => Nat.zero_le _⟩
  | succ i ih =>
    intro hc r hr
    have hu : 0 < b ^ i := pow_pos' hb
    have hcu := hc i (Nat.lt_succ_self i)
    have hr' : max (r % b ^ i) (cB f a m b i) < b ^ i := by
      have := Nat.mod_lt r hu
      omega
    obtain ⟨⟨g1, g2, g3⟩, g4⟩ := ih (fun j hj => hc j (by omega)) _ hr'
    show ((r ≤ (r - r % b ^ i) + gS f a m b i (max (r % b ^ i) (cB f a m b i)) ∧ _ < _ ∧ _) ∧ _)
    have eq0 : r - r % b ^ i = b ^ i * (r / b ^ i) := by have := Nat.div_add_mod r (b ^ i); omega
    have hG : gS f a m b (i + 1) r = b ^ i * (r / b ^ i) + gS f a m b i (max (r % b ^ i) (cB f a m b i)) := by
      show (r - r % b ^ i) + _ = _
      rw [eq0]
    rw [hG]
    rw [eq0]
    generalize hY : gS f a m b i (max (r % b ^ i) (cB f a m b i)) = y at *
    have hdm := Nat.div_add_mod r (b ^ i)
    have hq : r / b ^ i < b := by
      rw [Nat.div_lt_iff_lt_mul hu, Nat.mul_comm, ← Nat.pow_succ]
      exact hr
    refine ⟨⟨by omega, ?_, fun j hj => ?_⟩, fun x hx hx2 => ?_⟩
    · have h1 : b ^ i * (r / b ^ i + 1) ≤ b ^ i * b := Nat.mul_le_mul_left _ hq
      rw [Nat.mul_add, Nat.mul_one] at h1
      rw [Nat.pow_succ]
      omega
    · rw [mod_pow (show j ≤ i by omega)]
      rcases Nat.lt_or_ge j i with q | q
      · exact g3 j q
      · have : j = i := by omega
        subst this
        rw [Nat.mod_eq_of_lt g2]
        omega
    · have hxd := Nat.div_add_mod x (b ^ i)
      have hqq : r / b ^ i ≤ x / b ^ i := Nat.div_le_div_right hx
      rcases Nat.eq_or_lt_of_le hqq with e | e
      · have h1 : y ≤ x % b ^ i := by
          refine g4 _ ?_ fun j hj => ?_
          · have h2 := hx2 i (Nat.lt_succ_self i)
            rw [← e] at hxd
            omega
          · have h2 := hx2 j (by omega)
            rw [← hxd, mod_pow (show j ≤ i by omega)] at h2
            exact h2
        rw [← e] at hxd
        generalize b ^ i * (r / b ^ i) = z at *
        generalize x % b ^ i = z2 at *
        omega
      · have h1 : b ^ i * (r / b ^ i + 1) ≤ b ^ i * (x / b ^ i) := Nat.mul_le_mul_left _ e
        rw [Nat.mul_add, Nat.mul_one] at h1
        have hxl := Nat.mul_div_le x (b ^ i)
        generalize b ^ i * (r / b ^ i) = z at *
        generalize b ^ i * (x / b ^ i) = z2 at *
        clear hxd hdm
        omega
/-- what the loss at a state says of its remainders -/
theorem los_iff {b f a m k s : Nat} (hb : 2 ≤ b) (hf : 1 ≤ f) (hs : s < b ^ k) (hm : m ≤ s) : m ≤ los b f (a + s) a ↔ ∀ j, j < k → cB f a m b j ≤ s % b ^ j := by
  have e1 : a + s - a = s := by omega
  unfold los
  rw [e1]
  have hle := prv_le b f (a + s) s
  constructor
  · intro h j hj
    rcases Nat.lt_or_ge (s % b ^ j) (cB f a m b j) with q | q
    · exfalso
      unfold cB at q
      have h6 := Nat.mod_le s (b ^ j)
      have hd : b ^ j ∣ s - s % b ^ j := Nat.dvd_sub_mod s
      generalize s % b ^ j = r at *
      obtain ⟨n, rfl⟩ : ∃ n, s = n + r := ⟨s - r, by omega⟩
      rw [Nat.add_sub_cancel] at hd
      have hk : kpt b f n (a + (n + r)) = true := by
        rcases Nat.eq_zero_or_pos n with e | e
        · rw [e]; exact kpt_zero
        · refine decide_eq_true ⟨by omega, .inr ?_⟩
          have h3 : b ^ j ≤ lp b n := Nat.pow_le_pow_right (by omega) (lev_ge hb e hd)
          have h4 : f * b ^ j ≤ f * lp b n := Nat.mul_le_mul_left _ h3
          omega
      have h5 := prv_max hk (show n ≤ n + r by omega)
      omega
    · exact q
  · intro h
    have hk := prv_kpt b f (a + s) s
    generalize prv b f (a + s) s = n at *
    rcases Nat.eq_zero_or_pos n with e | e
    · omega
    · obtain ⟨_, h2 | h2⟩ := of_decide_eq_true hk
      · omega
      · have h3 := lp_le hb e
        have hj : lev b n < k := by
          rcases Nat.lt_or_ge (lev b n) k with q | q
          · exact q
          · have : b ^ k ≤ lp b n := Nat.pow_le_pow_right (by omega) q
            omega
        have h4 := h _ hj
        have h5 : s % b ^ lev b n ≤ s - n := by
          have hd : b ^ lev b n ∣ n := lp_dvd hb e
          obtain ⟨c, hc⟩ := hd
          have e3 : s = b ^ lev b n * c + (s - n) := by omega
          conv => lhs; rw [e3]
          rw [Nat.mul_add_mod]
          exact Nat.mod_le _ _
        unfold cB at h4
        unfold lp at h2
        omega
theorem first_is {b f a m k T : Nat} (hb : 2 ≤ b) (hf : 1 ≤ f) (hk1 : ∀ j, j < k → b ^ j ≤ m) (hk2 : m < b ^ k) (ha : a ≤ T) (hT : m ≤ los b f T a) (hmin : ∀ T', a ≤ T' → T' < T → los b f T' a < m) : a + gS f a m b k m = T := by
  have hno : ∀ i, i < k → ¬ glOk b f a i := fun i hi q => by
    have h1 := los_le hb hf ha q
    have h2 := hk1 i hi
    have h3 : 0 < b ^ i := pow_pos' hb
    omega
  have hc : ∀ j, j < k → cB f a m b j < b ^ j := fun j hj => by
    have h1 := hno j hj
    unfold glOk at h1
    unfold cB
    have h3 : 0 < b ^ j := pow_pos' hb
    have h6 : f * b ^ j = (f - 1) * b ^ j + b ^ j := by
      obtain ⟨g, rfl⟩ : ∃ g, f = g + 1 := ⟨f - 1, by omega⟩
      rw [Nat.add_sub_cancel, Nat.succ_mul]
    omega
  obtain ⟨⟨g1, g2, g3⟩, g4⟩ := gS_spec hb k hc m hk2
  have h1 : m ≤ los b f (a + gS f a m b k m) a := (los_iff hb hf g2 g1).mpr g3
  have h2 : T ≤ a + gS f a m b k m := by
    rcases Nat.lt_or_ge (a + gS f a m b k m) T with q | q
    · have := hmin _ (by omega) q
      omega
    · exact q
  obtain ⟨s, rfl⟩ : ∃ s, T = a + s := ⟨T - a, by omega⟩
  have hs : m ≤ s := by
    have : los b f (a + s) a ≤ s := by unfold los; omega
    omega
  have h3 := g4 s hs ((los_iff (k := k) hb hf (by omega) hs).mp hT)
  omega
theorem safe_is {b f m j a g : Nat} {g' : Option Nat} (hb : 2 ≤ b) (hf : 1 ≤ f) (h1 : b ^ j ≤ m + 1) (h2 : m + 1 < b ^ (j + 1)) (hg : GLis b f a (some g)) (hgm : g ≤ m) (hg' : GLis b f (a + 1) g') (hx : ∀ x, g' = some x → m < x) : a = (f - 1) * b ^ j + 1 := by
  have l1 : a ≤ (f - 1) * b ^ j + 1 := by
    rcases Nat.lt_or_ge ((f - 1) * b ^ j + 1) a with q | q
    · exfalso
      have hno : ∀ i, i < j + 1 → ¬ glOk b f a i := fun i hi z => by
        have := glOk_up hb z (show i ≤ j by omega)
        unfold glOk at this
        omega
      have h3 := los_ge hb hf hno
      have h4 := hg.1 (a + (b ^ (j + 1) - 1)) (by omega)
      omega
    · exact q
  have l2 : ¬ a + 1 ≤ (f - 1) * b ^ j + 1 := by
    intro q
    have hk : glOk b f (a + 1) j := q
    cases g' with
    | none =>
      obtain ⟨T, t1, t2⟩ := hg' (m + 1)
      have := los_le hb hf t1 hk
      omega
    | some x =>
      obtain ⟨_, T, t1, t2⟩ := hg'
      have := los_le hb hf t1 hk
      have := hx x rfl
      omega
  omega
section
variable {P : Program} {w : World} {K : PySem.W.Frag} {mg : Str → Option Value} {base : Heap}
theorem ok_places {f C : Addr} {fd : FuncData} (F : Fun K "places_up_to" "places_up_to" s_places_up_to f fd) (T : Txt K mg C) : FnOk P w K mg base CX0 1 f fd ["base", "most"] sp_places := by
  refine F.ok sc_places_up_to (fun vs H Q E h => ?_) (fun cdv A outer s H vs Q E hr h => ?_)
  · obtain ⟨b, m, rfl, _⟩ := h
    rfl
  · obtain ⟨b, m, rfl, hb, hb2, hm, k⟩ := h
    refine ⟨_, (pss_cons (ps_set (i := 2) sc_places_up_to.nd rfl (Or.inl rfl) (pe_lst pa_nil))
      (pss_cons (ps_set (i := 3) sc_places_up_to.nd rfl (Or.inl rfl) pe_int)
      (pss_cons (ps_while PassesOwn.never (pt_cmpR op_le (pv 3) (pv 1) (nomark _)) (pss_cons (ps_expr (pe_bm PySem.F.plainAttrs_list PySem.F.slot_list_append PySem.F.type_list_append mt_append (pv 2) (pa_cons (pv 3) pa_nil)))
      (pss_one (ps_aug (i := 3) sc_places_up_to.nd rfl (Or.inl rfl) (pv 0) iop_mul))))
      (pss_one (ps_ret (pv 2)))))), ?_⟩
    refine ⟨by show 0 ≤ sizeLine; decide, fun D hD => ?_⟩
    refine ⟨fun n σ H' => ∃ j : Nat, σ = [some (.int b), some (.int m), some (.ref D), some (.int (b ^ j : Nat))] ∧ Same H H' ∧ H' D = some (.lst ((pwL b j).map nV)) ∧ (∀ i, i < j → b ^ i ≤ m) ∧ j ≤ 160 ∧ n + j = 161, ⟨161, 0, by rw [Nat.pow_zero]; rfl, Same.upd hD, upd_same, fun i hi => by omega, by omega, rfl⟩, ?_⟩
    rintro n σ H1 ⟨j, rfl, s1, h1, hj, hj2, hn⟩
    refine ⟨_, rfl, _, rfl, _, _, rfl, rfl, _, rfl, ?_⟩
    refine ifD (fun q => ?_) (fun q => ?_)
    · have q : ((b ^ j : Nat) : Int) ≤ (m : Int) := q
      have q2 : b ^ j ≤ m := by omega
      have hj3 : j < 160 := by
        have h4 : 2 ^ j ≤ b ^ j := Nat.pow_le_pow_left hb _
        have h5 : 2 ^ j < 2 ^ 160 := by omega
        exact (Nat.pow_lt_pow_iff_right (a := 2) (by omega)).mp h5
      refine ⟨_, fun σ' H'' h => h, ?_⟩
      refine ⟨_, rfl, .inl ⟨rfl, _, SqL.of h1⟩, _, rfl, D, _, _, rfl, rfl, h1, ?_, ?_⟩
      · rw [List.length_map, pwL_len]
        exact Nat.lt_trans hj3 (by decide)
      refine ⟨_, rfl, _, rfl, _, _, rfl, rfl, .inr ⟨by omega, by omega⟩, ?_⟩
      refine ⟨n - 1, by omega, j + 1, ?_, ?_, ?_, fun i hi => ?_, by omega, by omega⟩
      · rw [Nat.pow_succ, Int.natCast_mul]
        rfl
      · intro x o e
        rw [upd_ne (ne_of_none e hD)]
        exact s1 _ _ e
      · rw [upd_same, pwL_snoc, List.map_append]
        rfl
      · rcases Nat.lt_or_ge i j with z | z
        · exact hj i z
        · have : i = j := by omega
          subst this
          exact q2
    · have q : ¬ ((b ^ j : Nat) : Int) ≤ (m : Int) := q
      exact ⟨_, rfl, k D j _ s1 hD h1 hj (by omega) hj2⟩
end
end My

set_option Elab.async false
set_option linter.all false
set_option maxRecDepth 100000
set_option maxHeartbeats 4000000
namespace My
open PySem L2 Mth
abbrev s_last_apart : Stmt := top 25
theorem sc_last_apart : FnScope ["high", "step", "greater", "found"] ["high", "step", "greater"] (defScope s_last_apart) := ⟨rfl, rfl, rfl, by decide +kernel, rfl, by decide +kernel, by decide +kernel⟩
abbrev s_Change_settled_from : Stmt := inClass (top 20) 8
theorem sc_Change_settled_from : FnScope ["self", "settled", "spans", "place", "life", "low", "high", "kept_step", "step", "found"] ["self"] (defScope s_Change_settled_from) := ⟨rfl, rfl, rfl, by decide +kernel, rfl, by decide +kernel, by decide +kernel⟩
/-- the time from which on nothing is gone -/
structure Stl (b f b2 f2 c s : Nat) : Prop where
  ge : c ≤ s
  up : ∀ n, drp b f c n = true → n + f2 * lp b2 n + 1 ≤ s
  ex : s = c ∨ ∃ n, drp b f c n = true ∧ s = n + f2 * lp b2 n + 1
theorem Stl.uniq {b f b2 f2 c s s' : Nat} (h : Stl b f b2 f2 c s) (h' : Stl b f b2 f2 c s') : s = s' := by
  have a : s ≤ s' := by
    rcases h.ex with e | ⟨n, h1, h2⟩
    · have := h'.ge; omega
    · have := h'.up n h1; omega
  have b : s' ≤ s := by
    rcases h'.ex with e | ⟨n, h1, h2⟩
    · have := h.ge; omega
    · have := h.up n h1; omega
  omega
theorem drp_pos {b f c n : Nat} (h : drp b f c n = true) : 0 < n ∧ n ≤ c ∧ kpt b f n c = false := by
  unfold drp at h
  simp only [Bool.and_eq_true, decide_eq_true_eq, Bool.not_eq_true'] at h
  refine ⟨?_, h.1, h.2⟩
  rcases Nat.eq_zero_or_pos n with z | z
  · subst z
    rw [kpt_zero] at h
    cases h.2
  · exact z
theorem gon_stl {b f b2 f2 c t s n : Nat} (hb2 : 2 ≤ b2) (h : Stl b f b2 f2 c s) (hct : s ≤ t) : gon b f b2 f2 c t n = false := by
  cases e : gon b f b2 f2 c t n with
  | false => rfl
  | true =>
    unfold gon at e
    rw [Bool.and_eq_true] at e
    obtain ⟨h0, h1, _⟩ := drp_pos e.2
    have h2 := h.up n e.2
    have h3 := of_decide_eq_true e.1
    rcases h3.2 with z | z <;> omega
theorem stl_ex {b f b2 f2 c s : Nat} (hb2 : 2 ≤ b2) (h : Stl b f b2 f2 c s) (hs : c < s) : ∃ n, gon b f b2 f2 c (s - 1) n = true := by
  rcases h.ex with e | ⟨n, h1, h2⟩
  · omega
  · refine ⟨n, ?_⟩
    obtain ⟨h0, hc, _⟩ := drp_pos h1
    unfold gon
    rw [h1, Bool.and_true]
    exact decide_eq_true ⟨by omega, .inr (by omega)⟩
def LapT (hi s g : Nat) (z : Int) : Prop := s ∣ g → s < g → (z < 0 ∧ ∀ j, j ≤ hi → s ∣ j → g ∣ j) ∨ ∃ m : Nat, z = (m : Int) ∧ m ≤ hi ∧ s ∣ m ∧ ¬ g ∣ m ∧ ∀ j, j ≤ hi → s ∣ j → ¬ g ∣ j → j ≤ m
def sp_lapt : Sp := fun vs H Q _ => ∃ hi s g : Nat, vs = [.int hi, .int s, .int g] ∧ 0 < s ∧ 0 < g ∧ ∀ z : Int, LapT hi s g z → Q (.int z) H
def sp_settled (C Ch : Addr) : Sp := fun vs H Q _ => ∃ (p : Addr) (b f b2 f2 c : Nat), vs = [.ref p] ∧ Chg C Ch H p b f b2 f2 c ∧ ∀ s H', Same H H' → Stl b f b2 f2 c s → Q (.int (s : Nat)) H'
/-- of a level and a span -/
theorem lvl_span {b f c jj i kk n : Nat} (hb : 2 ≤ b) (hf : 1 ≤ f) (hk1 : 1 ≤ kk) (hn : 0 < n) (h1 : aft b f c (jj + 1) ≤ n) (h2 : n < aft b f c jj) :
    (drp b f c n = true ∧ lp (b ^ kk) n = (b ^ kk) ^ i) ↔ ((b ^ kk) ^ i ∣ n ∧ (b ^ kk) ^ i < min (b ^ jj) ((b ^ kk) ^ i * b ^ kk) ∧ ¬ min (b ^ jj) ((b ^ kk) ^ i * b ^ kk) ∣ n) := by
  have hT := @aft_T b f c jj
  have hB : 2 ≤ b ^ kk := by
    have : b ^ 1 ≤ b ^ kk := Nat.pow_le_pow_right (by omega) hk1
    rw [Nat.pow_one] at this
    omega
  have e1 : (b ^ kk) ^ i = b ^ (kk * i) := (Nat.pow_mul _ _ _).symm
  have e2 : (b ^ kk) ^ i * b ^ kk = b ^ (kk * i + kk) := by rw [e1, ← Nat.pow_add]
  have ed : drp b f c n = true ↔ ¬ b ^ jj ∣ n := by
    rw [← aft_kpt hb hf h1 h2]
    unfold drp
    simp only [Bool.and_eq_true, decide_eq_true_eq, Bool.not_eq_true', Bool.not_eq_true]
    constructor
    · exact fun h => h.2
    · exact fun h => ⟨by omega, h⟩
  have el : lp (b ^ kk) n = (b ^ kk) ^ i ↔ ((b ^ kk) ^ i ∣ n ∧ ¬ (b ^ kk) ^ i * b ^ kk ∣ n) := by
    obtain ⟨l1, l2⟩ := lev_spec hB n hn
    constructor
    · intro e
      have e' : lev (b ^ kk) n = i := by
        unfold lp at e
        exact (Nat.pow_right_inj (by omega)).mp e
      rw [e'] at l1 l2
      exact ⟨l1, by rw [← Nat.pow_succ]; exact l2⟩
    · rintro ⟨a1, a2⟩
      unfold lp
      rw [lev_uniq hB hn a1 (by rw [Nat.pow_succ]; exact a2)]
  rw [ed, el, e2, e1]
  have mn : min (b ^ jj) (b ^ (kk * i + kk)) = b ^ min jj (kk * i + kk) := by
    rcases Nat.le_total jj (kk * i + kk) with z | z
    · rw [Nat.min_eq_left z, Nat.min_eq_left (Nat.pow_le_pow_right (by omega) z)]
    · rw [Nat.min_eq_right z, Nat.min_eq_right (Nat.pow_le_pow_right (by omega) z)]
  rw [mn]
  constructor
  · rintro ⟨a1, a2, a3⟩
    refine ⟨a2, ?_, ?_⟩
    · apply Nat.pow_lt_pow_right (by omega)
      rcases Nat.lt_or_ge (kk * i) jj with z | z
      · omega
      · exact absurd (Nat.dvd_trans (pow_dv (b := b) z) a2) a1
    · rcases Nat.le_total jj (kk * i + kk) with z | z
      · rw [Nat.min_eq_left z]; exact a1
      · rw [Nat.min_eq_right z]; exact a3
  · rintro ⟨a1, a2, a3⟩
    exact ⟨fun z => a3 (Nat.dvd_trans (pow_dv (Nat.min_le_left _ _)) z), a1, fun z => a3 (Nat.dvd_trans (pow_dv (Nat.min_le_right _ _)) z)⟩
/-- so far: the levels below i, and of this level what lies below x -/
structure Sti (b f b2 f2 c i x s : Nat) : Prop where
  ge : c ≤ s
  up : ∀ n j, drp b f c n = true → lp b2 n = b2 ^ j → j < i → n + f2 * lp b2 n + 1 ≤ s
  at_ : ∀ n, drp b f c n = true → lp b2 n = b2 ^ i → n < x → n + f2 * lp b2 n + 1 ≤ s
  ex : s = c ∨ ∃ n, drp b f c n = true ∧ s = n + f2 * lp b2 n + 1
theorem Sti.none {b f b2 f2 c i x y s : Nat} (h : Sti b f b2 f2 c i x s) (hn : ∀ n, drp b f c n = true → lp b2 n = b2 ^ i → x ≤ n → n < y → False) : Sti b f b2 f2 c i y s :=
  ⟨h.ge, h.up, fun n h1 h2 h3 => by
    rcases Nat.lt_or_ge n x with z | z
    · exact h.at_ n h1 h2 z
    · exact (hn n h1 h2 z h3).elim, h.ex⟩
theorem Sti.put {b f b2 f2 c i x y s m : Nat} (h : Sti b f b2 f2 c i x s) (h1 : drp b f c m = true) (h2 : lp b2 m = b2 ^ i) (hn : ∀ n, drp b f c n = true → lp b2 n = b2 ^ i → x ≤ n → n < y → n ≤ m) : Sti b f b2 f2 c i y (max s (m + f2 * b2 ^ i + 1)) := by
  refine ⟨Nat.le_trans h.ge (Nat.le_max_left _ _), fun n j a1 a2 a3 => Nat.le_trans (h.up n j a1 a2 a3) (Nat.le_max_left _ _), fun n a1 a2 a3 => ?_, ?_⟩
  · rcases Nat.lt_or_ge n x with z | z
    · exact Nat.le_trans (h.at_ n a1 a2 z) (Nat.le_max_left _ _)
    · have := hn n a1 a2 z a3
      rw [a2]
      omega
  · rcases Nat.le_total (m + f2 * b2 ^ i + 1) s with z | z
    · rw [Nat.max_eq_left z]
      exact h.ex
    · rw [Nat.max_eq_right z]
      exact .inr ⟨m, h1, by rw [h2]⟩
section
variable {P : Program} {w : World} {K : PySem.W.Frag} {mg : Str → Option Value} {base : Heap}
theorem ok_lapt {f C : Addr} {fd : FuncData} (F : Fun K "last_apart" "last_apart" s_last_apart f fd) (T : Txt K mg C) (c_round_down : CalF P w K mg base 1 "round_down" ["number", "step"] sp_rdn) : FnOk P w K mg base CX0 2 f fd ["high", "step", "greater"] sp_lapt := by
  refine F.ok sc_last_apart (fun vs H Q E h => ?_) (fun cdv A outer s H vs Q E hr h => ?_)
  · obtain ⟨hi, s, g, rfl, _⟩ := h
    rfl
  · obtain ⟨hi, s, g, rfl, h0, hg, k⟩ := h
    refine ⟨_, (pss_cons (ps_set (i := 3) sc_last_apart.nd rfl (Or.inl rfl) (pe_callF c_round_down (hr.mono (by decide)) rfl (pa_cons (pv 0) (pa_cons (pv 1) pa_nil))))
      (pss_one (ps_ret (pe_ifExp (pt_cmpR op_eq (pe_op op_mod (pv 3) (pv 2)) pe_int (nomark _)) (pe_op op_sub (pv 3) (pv 1)) (pv 3))))), ?_⟩
    have hs0 : (0 : Int) < (s : Int) := by omega
    obtain ⟨r1, r2⟩ := rdn_spec (x := (hi : Int)) hs0
    refine ⟨_, rfl, _, rfl, _, (s : Int), rfl, hs0, ?_⟩
    have hU0 : 0 ≤ (hi : Int) - (hi : Int) % (s : Int) := by
      have := (r2 0 ⟨0, by simp⟩).mpr (by omega)
      exact this
    generalize hU : (hi : Int) - (hi : Int) % (s : Int) = U at *
    have hlU : U ≤ (hi : Int) := (r2 U r1).mp (Int.le_refl _)
    obtain ⟨u, rfl⟩ : ∃ u : Nat, U = (u : Int) := ⟨U.toNat, by omega⟩
    have hsu : s ∣ u := by exact_mod_cast r1
    have hlu : u ≤ hi := by omega
    have hmax : ∀ j, j ≤ hi → s ∣ j → j ≤ u := fun j hj hd => by
      have := (r2 (j : Int) (by exact_mod_cast hd)).mpr (by omega)
      omega
    have hg0 : (0 : Int) < (g : Int) := by omega
    refine ⟨_, rfl, _, rfl, _, _, rfl, rfl, hg0, rfl, _, rfl, ?_⟩
    refine ifI (fun q => ?_) (fun q => ?_)
    · have hgu : g ∣ u := by
        have : (g : Int) ∣ (u : Int) := Int.dvd_of_emod_eq_zero q
        exact_mod_cast this
      refine ⟨_, rfl, _, rfl, _, _, rfl, rfl, ?_⟩
      refine k _ fun hsg hlt => ?_
      rcases Nat.lt_or_ge u s with z | z
      · refine .inl ⟨by omega, fun j hj hd => ?_⟩
        have := hmax j hj hd
        have e : j = 0 := Nat.eq_zero_of_dvd_of_lt hd (by omega)
        rw [e]
        exact Nat.dvd_zero g
      · refine .inr ⟨u - s, by omega, by omega, Nat.dvd_sub hsu (Nat.dvd_refl _), fun z2 => ?_, fun j h1 h2 h3 => ?_⟩
        · have : g ∣ u - (u - s) := Nat.dvd_sub hgu z2
          rw [show u - (u - s) = s by omega] at this
          have := Nat.le_of_dvd h0 this
          omega
        · have h4 := hmax j h1 h2
          have h5 : j ≠ u := fun z2 => h3 (by rw [z2]; exact hgu)
          have := sq2 h2 hsu (by omega)
          omega
    · refine ⟨_, rfl, ?_⟩
      refine k _ fun hsg hlt => .inr ⟨u, rfl, hlu, hsu, fun z => ?_, fun j h1 h2 _ => hmax j h1 h2⟩
      exact q (Int.emod_eq_zero_of_dvd (by exact_mod_cast z))
theorem ok_settled {f C Ch : Addr} {fd : FuncData} (F : Fun K "settled_from" "Change.settled_from" s_Change_settled_from f fd) (T : Txt K mg C) (TD : TxtD K mg Ch) (c_kept_spans : CalF P w K mg base 2 "kept_spans" ["scheme", "time"] (sp_kspans C)) (c_places_up_to : CalF P w K mg base 1 "places_up_to" ["base", "most"] sp_places) (c_last_apart : CalF P w K mg base 2 "last_apart" ["high", "step", "greater"] sp_lapt) (c_Scheme_base : CalM P w K mg base 1 C "base" ["self"] (sp_base C)) (c_Scheme_factor : CalM P w K mg base 1 C "factor" ["self"] (sp_factor C)) : FnOk P w K mg base CX0 3 f fd ["self"] (sp_settled C Ch) := by
  refine F.ok sc_Change_settled_from (fun vs H Q E h => ?_) (fun cdv A outer s H vs Q E hr h => ?_)
  · obtain ⟨p, b, f, b2, f2, c, rfl, _⟩ := h
    rfl
  · obtain ⟨p, b, f, b2, f2, c, rfl, X, q⟩ := h
    obtain ⟨⟨hb, hbt, hf, hft⟩, hb2, hb2t, hf2, hf2t⟩ := X.b2
    obtain ⟨kk, hk1, hkk⟩ := X.pw
    obtain ⟨dx, q1, q2, hp, S1, S2⟩ := X.ob
    have hc := X.ct
    have hc2 : c < 2 ^ 150 := Nat.lt_trans hc (by decide)
    refine ⟨_, (pss_cons (ps_set (i := 1) sc_Change_settled_from.nd rfl (Or.inl rfl) (pe_fld (pv 0) rfl))
      (pss_cons (ps_set (i := 2) sc_Change_settled_from.nd rfl (Or.inl rfl) (pe_callF c_kept_spans (hr.mono (by decide)) rfl (pa_cons (pe_fld (pv 0) rfl) (pa_cons (pe_fld (pv 0) rfl) pa_nil))))
      (pss_cons (ps_for PassesOwn.never rfl (pi_list (pe_callF c_places_up_to (hr.mono (by decide)) rfl (pa_cons (pe_methF0 c_Scheme_base (hr.mono (by decide)) (pe_fld (pv 0) rfl)) (pa_cons (pe_fld (pv 0) rfl) pa_nil)))) (pg_name (i := 3) sc_Change_settled_from.nd rfl (Or.inl rfl))
      (pss_cons (ps_set (i := 4) sc_Change_settled_from.nd rfl (Or.inl rfl) (pe_op op_mul (pe_methF0 c_Scheme_factor (hr.mono (by decide)) (pe_fld (pv 0) rfl)) (pv 3)))
      (pss_one (ps_for PassesOwn.never rfl (pi_list (pv 2)) (pg_tup (by rfl) (pgs_cons (pg_name (i := 5) sc_Change_settled_from.nd rfl (Or.inl rfl)) (pgs_cons (pg_name (i := 6) sc_Change_settled_from.nd rfl (Or.inl rfl)) (pgs_cons (pg_name (i := 7) sc_Change_settled_from.nd rfl (Or.inl rfl)) pgs_nil))))
      (pss_cons (ps_set (i := 8) sc_Change_settled_from.nd rfl (Or.inl rfl) (pe_callB (call_min2 rfl) (by rfl) T.b_min (by decide +kernel) (pa_cons (pv 7) (pa_cons (pe_op op_mul (pv 3) (pe_methF0 c_Scheme_base (hr.mono (by decide)) (pe_fld (pv 0) rfl))) pa_nil))))
      (pss_cons (ps_set (i := 9) sc_Change_settled_from.nd rfl (Or.inl rfl) (pe_callF c_last_apart (hr.mono (by decide)) rfl (pa_cons (pv 6) (pa_cons (pv 3) (pa_cons (pv 8) pa_nil)))))
      (pss_one (ps_if (PW.pt (pw_and (pt_cmpR op_lt (pv 3) (pv 8) (nomark _)) (pw_and1 (pt_cmpR op_ge (pv 9) (pv 5) (nomark _))))) (pss_one (ps_set (i := 1) sc_Change_settled_from.nd rfl (Or.inl rfl) (pe_callB (call_max2 rfl) (by rfl) T.b_max (by decide +kernel) (pa_cons (pv 1) (pa_cons (pe_op op_add (pe_op op_add (pv 9) (pv 4)) pe_int) pa_nil))))) pss_nil))))))))
      (pss_one (ps_ret (pv 1)))))), ?_⟩
    refine ⟨_, rfl, p, Ch, dx, _, _, rfl, hp, TD.cl, TD.n2, cfl_2 .., ?_⟩
    refine ⟨_, rfl, p, Ch, dx, _, _, rfl, hp, TD.cl, TD.n0, cfl_0 .., _, rfl, p, Ch, dx, _, _, rfl, hp, TD.cl, TD.n2, cfl_2 .., q1, b, f, c, rfl, S1, hc2, fun D1 us J H1 s1 n1 hD1 hR1 hJ => ?_⟩
    have h151 := hJ.le
    obtain ⟨⟨d2, e2⟩, _⟩ := id (S2.same s1)
    refine ⟨_, rfl, p, Ch, dx, _, _, rfl, s1 _ _ hp, TD.cl, TD.n1, cfl_1 .., q2, d2, _, rfl, e2, flds_no _ _ (by decide +kernel) (by decide +kernel), q2, b2, f2, rfl, S2.same s1, _, rfl, p, Ch, dx, _, _, rfl, s1 _ _ hp, TD.cl, TD.n2, cfl_2 .., b2, c, rfl, hb2, hb2t, Nat.lt_trans hc (by decide), fun D2 kp H2 s2 n2 hD2 hlt hck hk160 => ?_⟩
    have s12 := s1.trans s2
    have hD1' := s2 _ _ hD1
    have hR1' := hR1.same s2
    refine ⟨D2, rfl, ⟨_, SqL.of hD2⟩, for_list (K := K) (a := D2) (xs := (pwL b2 kp).map nV) (fun i σ Hx => ∃ (s : Nat) (c3 c4 c5 c6 c7 c8 c9 : Option V), σ = [some (.ref p), some (.int s), some (.ref D1), c3, c4, c5, c6, c7, c8, c9] ∧ H2 = Hx ∧ Sti b f b2 f2 c i 0 s) ⟨c, none, none, none, none, none, none, none, rfl, rfl, ⟨Nat.le_refl _, fun n j _ _ z => by omega, fun n _ _ z => by omega, .inl rfl⟩⟩ (fun i σ Hx _ ⟨_, _, _, _, _, _, _, _, _, e, _⟩ => by rw [← e]; exact SqL.of hD2) ?_ ?_⟩
    · rintro i y σ Hx hi ⟨s, c3, c4, c5, c6, c7, c8, c9, rfl, rfl, st⟩
      obtain ⟨pl, rfl, hpl⟩ := nat_item hi
      have hik : i < kp := by
        have := (List.getElem?_eq_some_iff.mp hpl).1
        rw [pwL_len] at this
        exact this
      rw [pwL_get hik] at hpl
      obtain rfl := Option.some.inj hpl
      have hpc := hlt i hik
      have hp0 : 0 < b2 ^ i := pow_pos' hb2
      have S3 := S2.same s12
      obtain ⟨⟨d3, e3⟩, _⟩ := id S3
      have hp2 := s12 _ _ hp
      refine ⟨_, rfl, p, Ch, dx, _, _, rfl, hp2, TD.cl, TD.n1, cfl_1 .., q2, d3, _, rfl, e3, flds_no _ _ (by decide +kernel) (by decide +kernel), q2, b2, f2, rfl, S3, _, rfl, _, _, rfl, rfl, .inl ⟨by omega, by omega⟩, ?_⟩
      refine ⟨_, rfl, D1, rfl, ⟨_, SqL.of hD1'⟩, for_list (K := K) (a := D1) (xs := us.map V.ref) (fun j σ Hx => ∃ (s : Nat) (c5 c6 c7 c8 c9 : Option V), σ = [some (.ref p), some (.int s), some (.ref D1), some (.int (b2 ^ i : Nat)), some (.int ((f2 : Int) * ((b2 ^ i : Nat) : Int))), c5, c6, c7, c8, c9] ∧ H2 = Hx ∧ Sti b f b2 f2 c i (aft b f c (J - j)) s) ⟨s, _, _, _, _, _, rfl, rfl, by rw [Nat.sub_zero, hJ.nul]; exact st⟩ (fun j σ Hx _ ⟨_, _, _, _, _, _, _, e, _⟩ => by rw [← e]; exact SqL.of hD1') ?_ ?_⟩
      · clear st
        rintro j y σ Hx hj ⟨s, c5, c6, c7, c8, c9, rfl, rfl, st⟩
        obtain ⟨u', rfl, hu'⟩ := ref_item hj
        obtain ⟨r, hr2, hrt2⟩ := hR1'.get hu'
        obtain ⟨lo, hi2, ks, hj', rfl⟩ := rw3_item hr2
        obtain ⟨hjJ, er⟩ := spans_get hj'
        obtain ⟨jj, hjj⟩ : ∃ jj, jj = J - 1 - j := ⟨_, rfl⟩
        rw [← hjj] at er
        cases er
        have h0 : 0 < aft b f c jj := hJ.pos jj (by omega)
        have eJ : J - j = jj + 1 := by omega
        have eJ2 : J - (j + 1) = jj := by omega
        rw [eJ] at st
        rw [eJ2]
        have hlt' := aft_le hb hf jj h0
        have lsp : ∀ n, 0 < n → aft b f c (jj + 1) ≤ n → n < aft b f c jj → _ := fun n a1 a2 a3 => lvl_span (i := i) hb hf hk1 a1 a2 a3
        rw [← hkk] at lsp
        have hst0 : 0 < min (b ^ jj) (b2 ^ i * b2) := by
          have : 0 < b ^ jj := pow_pos' hb
          have : 0 < b2 ^ i * b2 := Nat.mul_pos hp0 (by omega)
          omega
        refine ⟨u', _, rfl, SqT.of hrt2, rfl, _, _, rfl, _, _, rfl, _, _, rfl, rfl, ?_⟩
        refine ⟨_, rfl, _, rfl, _, rfl, p, Ch, dx, _, _, rfl, hp2, TD.cl, TD.n1, cfl_1 .., q2, d3, _, rfl, e3, flds_no _ _ (by decide +kernel) (by decide +kernel), q2, b2, f2, rfl, S3, _, _, rfl, rfl, .inr ⟨by omega, by omega⟩, _, _, rfl, ?_⟩
        have em : ((b2 ^ i : Nat) : Int) * (b2 : Int) = ((b2 ^ i * b2 : Nat) : Int) := (Int.natCast_mul _ _).symm
        rw [em, imin]
        refine ⟨_, rfl, _, rfl, _, rfl, aft b f c jj - 1, b2 ^ i, min (b ^ jj) (b2 ^ i * b2), rfl, hp0, hst0, fun z hz => ?_⟩
        refine ⟨_, rfl, _, rfl, _, _, rfl, rfl, _, rfl, ?_⟩
        refine ifD (fun p1 => ?_) (fun p1 => ?_)
        · have p1 : b2 ^ i < min (b ^ jj) (b2 ^ i * b2) := by exact_mod_cast p1
          have hdv : b2 ^ i ∣ min (b ^ jj) (b2 ^ i * b2) := by
            rw [hkk, ← Nat.pow_mul, ← Nat.pow_add] at *
            rcases Nat.le_total (b ^ jj) (b ^ (kk * i + kk)) with z2 | z2
            · rw [Nat.min_eq_left z2] at *
              exact pow_dv (Nat.le_of_lt (pow_lt_dv hb p1))
            · rw [Nat.min_eq_right z2]
              exact pow_dv (by omega)
          refine ⟨_, rfl, _, rfl, _, _, rfl, rfl, _, rfl, ?_⟩
          refine ifD (fun p2 => ?_) (fun p2 => ?_)
          · have p2 : z ≥ ((aft b f c (jj + 1) : Nat) : Int) := p2
            rcases hz hdv p1 with ⟨z1, _⟩ | ⟨m, rfl, z1, z2, z3, z4⟩
            · omega
            · refine ⟨_, rfl, _, rfl, _, rfl, _, _, rfl, rfl, _, _, rfl, rfl, _, _, rfl, ?_⟩
              have e : ((m : Int) + (f2 : Int) * ((b2 ^ i : Nat) : Int) + 1) = ((m + f2 * b2 ^ i + 1 : Nat) : Int) := by
                rw [Int.natCast_add, Int.natCast_add, Int.natCast_mul]
                rfl
              rw [e, imax]
              have hm0 : 0 < m := by
                rcases Nat.eq_zero_or_pos m with z5 | z5
                · rw [z5] at z3
                  exact absurd (Nat.dvd_zero _) z3
                · exact z5
              obtain ⟨l1, l2⟩ := (lsp m hm0 (by omega) (by omega)).mpr ⟨z2, p1, z3⟩
              refine ⟨_, _, _, _, _, _, rfl, rfl, st.put l1 l2 fun n a1 a2 a3 a4 => ?_⟩
              obtain ⟨b1, _, b3⟩ := (lsp n (drp_pos a1).1 a3 a4).mp ⟨a1, a2⟩
              exact z4 n (by omega) b1 b3
          · have p2 : ¬ z ≥ ((aft b f c (jj + 1) : Nat) : Int) := p2
            refine ⟨_, _, _, _, _, _, rfl, rfl, st.none fun n a1 a2 a3 a4 => ?_⟩
            obtain ⟨b1, _, b3⟩ := (lsp n (drp_pos a1).1 a3 a4).mp ⟨a1, a2⟩
            rcases hz hdv p1 with ⟨z1, z2⟩ | ⟨m, rfl, z1, z2, z3, z4⟩
            · exact b3 (z2 n (by omega) b1)
            · have := z4 n (by omega) b1 b3
              omega
        · have p1 : ¬ b2 ^ i < min (b ^ jj) (b2 ^ i * b2) := fun z => p1 (by exact_mod_cast z)
          refine iteF ?_
          refine ⟨_, _, _, _, _, _, rfl, rfl, st.none fun n a1 a2 a3 a4 => ?_⟩
          exact p1 ((lsp n (drp_pos a1).1 a3 a4).mp ⟨a1, a2⟩).2.1
      · clear st
        rintro σ Hx ⟨s, c5, c6, c7, c8, c9, rfl, rfl, st⟩
        have e : (us.map V.ref).length = J := by rw [List.length_map, hR1'.len, List.length_map, spans_len]
        rw [e, Nat.sub_self] at st
        refine ⟨s, _, _, _, _, _, _, _, rfl, rfl, ⟨st.ge, fun n j a1 a2 a3 => ?_, fun n _ _ z => by omega, st.ex⟩⟩
        rcases Nat.lt_or_ge j i with z | z
        · exact st.up n j a1 a2 z
        · have : j = i := by omega
          subst this
          exact st.at_ n a1 a2 (by show n < c + 1; have := (drp_pos a1).2.1; omega)
    · rintro σ Hx ⟨s, c3, c4, c5, c6, c7, c8, c9, rfl, rfl, st⟩
      rw [List.length_map, pwL_len] at st
      refine ⟨_, rfl, q s _ s12 ⟨st.ge, fun n h => ?_, st.ex⟩⟩
      obtain ⟨h0, h1, _⟩ := drp_pos h
      refine st.up n (lev b2 n) h rfl ?_
      have h2 : b2 ^ lev b2 n ≤ n := lp_le hb2 h0
      rcases Nat.lt_or_ge (lev b2 n) kp with z | z
      · exact z
      · have : b2 ^ kp ≤ b2 ^ lev b2 n := Nat.pow_le_pow_right (by omega) z
        omega
end
end My

set_option Elab.async false
set_option linter.all false
set_option maxRecDepth 100000
set_option maxHeartbeats 4000000
namespace My
open PySem L2 Mth
abbrev s_law_near_right : Stmt := top 43
theorem sc_law_near_right : FnScope ["_law_well_here", "_law_plans", "_law_start", "_law_lost_so", "_law_ends", "_law_figure", "_law_end"] ["_law_well_here"] (defScope s_law_near_right) := ⟨rfl, rfl, rfl, by decide +kernel, rfl, by decide +kernel, by decide +kernel⟩
abbrev s_law_far_right : Stmt := top 44
theorem sc_law_far_right : FnScope ["_law_well_here", "_law_plans", "_law_start", "_law_here", "_law_clock", "_law_later"] ["_law_well_here"] (defScope s_law_far_right) := ⟨rfl, rfl, rfl, by decide +kernel, rfl, by decide +kernel, by decide +kernel⟩
/-- the numbers from 1 on that the old scheme has dropped -/
def lso (b f c i : Nat) : List Nat := ((List.range i).map fun j => 1 + j).filter (drp b f c)
theorem lso_succ (b f c i : Nat) : lso b f c (i + 1) = lso b f c i ++ (if drp b f c (1 + i) = true then [1 + i] else []) := by
  unfold lso
  rw [List.range_succ, List.map_append, List.filter_append]
  congr 1
  show List.filter _ [1 + i] = _
  by_cases h : drp b f c (1 + i) = true
  · rw [if_pos h, List.filter_cons_of_pos h, List.filter_nil]
  · rw [if_neg h, List.filter_cons_of_neg h, List.filter_nil]
theorem lso_len (b f c i : Nat) : (lso b f c i).length ≤ i := by
  unfold lso
  refine Nat.le_trans (List.length_filter_le _ _) ?_
  rw [List.length_map, List.length_range]
  exact Nat.le_refl _
theorem lso_mem {b f c n : Nat} : n ∈ lso b f c c ↔ drp b f c n = true := by
  unfold lso
  rw [List.mem_filter, List.mem_map]
  constructor
  · exact fun h => h.2
  · intro h
    obtain ⟨h0, h1, _⟩ := drp_pos h
    exact ⟨⟨n - 1, List.mem_range.mpr (by omega), by omega⟩, h⟩
theorem stl_max {b f b2 f2 c m : Nat} (h1 : (m : Int) ∈ natI (c :: ((lso b f c c).map fun n => n + f2 * lp b2 n + 1))) (h2 : ∀ x ∈ natI (c :: ((lso b f c c).map fun n => n + f2 * lp b2 n + 1)), x ≤ (m : Int)) : Stl b f b2 f2 c m := by
  have h3 : ∀ x ∈ (c :: ((lso b f c c).map fun n => n + f2 * lp b2 n + 1)), x ≤ m := fun x hx => by
    have := h2 (x : Int) (mem_natI.mpr hx)
    omega
  refine ⟨h3 c List.mem_cons_self, fun n hn => h3 _ (List.mem_cons_of_mem _ (List.mem_map.mpr ⟨n, lso_mem.mpr hn, rfl⟩)), ?_⟩
  rcases List.mem_cons.mp (mem_natI.mp h1) with z | z
  · exact .inl z
  · obtain ⟨n, hn, e⟩ := List.mem_map.mp z
    exact .inr ⟨n, lso_mem.mp hn, e.symm⟩
theorem gnl_nil {b f b2 f2 c t s : Nat} (hb2 : 2 ≤ b2) (h : Stl b f b2 f2 c s) (hs : s ≤ t) : gnl b f b2 f2 c t = [] := by
  refine List.eq_nil_iff_forall_not_mem.mpr fun n hn => ?_
  rw [gnl_mem, gon_stl hb2 h hs] at hn
  cases hn
theorem stl_bd {b f b2 f2 c s : Nat} (hb2 : 2 ≤ b2) (hf : f2 ≤ 1000000) (h : Stl b f b2 f2 c s) : s ≤ c + 1000000 * c + 1 := by
  rcases h.ex with e | ⟨n, h1, h2⟩
  · omega
  · obtain ⟨h0, h3, _⟩ := drp_pos h1
    have h4 := lp_le hb2 h0
    have h5 : f2 * lp b2 n ≤ 1000000 * c := Nat.mul_le_mul hf (by omega)
    omega
theorem p22_120 {c x : Nat} (h : c < 10 ^ 22) (h2 : x ≤ c + 1000000 * c + 1) : x < 10 ^ 29 := Nat.lt_of_le_of_lt (show x ≤ 1000001 * 10 ^ 22 by omega) (by decide)
theorem p29_120 {x y : Nat} (h : x < 10 ^ 29) (h2 : y < 10 ^ 28) : x + y < 2 ^ 150 := Nat.lt_trans (show x + y < 2 * 10 ^ 29 by omega) (by decide)
theorem p22p : (0 : Int) < 10 ^ (22 : Int).toNat := by decide
def sp_nearR : Sp := fun vs H Q _ => ∃ (a : Addr) (e : Nat), vs = [.ref a] ∧ Wel H a e ∧ e ≤ 90000 ∧ ∀ H', Wel H' a (e + 30) → But a H H' → Q (.bl true) H'
section
variable {P : Program} {w : World} {K : PySem.W.Frag} {mg : Str → Option Value} {base : Heap}
theorem ok_nearR {f C Ch : Addr} {fd : FuncData} (F : Fun K "_law_near_right" "_law_near_right" s_law_near_right f fd) (T : Txt K mg C) (TD : TxtD K mg Ch)
    (c_law_draw : CalF P w K mg base 2 "_law_draw" ["_law_well_here", "_law_many"] sp_drawC) (c_law_swap : CalF P w K mg base 4 "_law_swap" ["_law_well_here", "_law_many"] sp_swap) (c_law_shift : CalF P w K mg base 6 "_law_shift" ["_law_plans", "_law_clock"] (sp_shift C Ch))
    (c_law_lives : CalF P w K mg base 2 "_law_lives" ["_law_plan", "_law_figure", "_law_clock"] sp_livesC) (c_law_pow : CalF P w K mg base 1 "_law_pow" ["_law_base", "_law_figure"] sp_lowest) (c_Change_settled_from : CalM P w K mg base 3 Ch "settled_from" ["self"] (sp_settled C Ch)) :
    FnOk P w K mg base CX0 7 f fd ["_law_well_here"] sp_nearR := by
  refine F.ok sc_law_near_right (fun vs H Q E h => ?_) (fun cdv A outer s H vs Q E hr h => ?_)
  · obtain ⟨a, e, rfl, _⟩ := h
    rfl
  · obtain ⟨a, e, rfl, S, he, q⟩ := h
    refine ⟨_, (pss_cut (ps_asg (pe_tup (pa_cons (pe_callF c_law_swap (hr.mono (by decide)) rfl (pa_cons (pv 0) (pa_cons pe_int pa_nil))) (pa_cons (pe_callF c_law_draw (hr.mono (by decide)) rfl (pa_cons (pv 0) (pa_cons pe_int pa_nil))) pa_nil))) (pg_tup (by rfl) (pgs_cons (pg_name (i := 1) sc_law_near_right.nd rfl (Or.inr rfl)) (pgs_cons (pg_name (i := 2) sc_law_near_right.nd rfl (Or.inr rfl)) pgs_nil))))
      (pss_cut (ps_setLc (i := 3) (own := [("_law_figure", 5)]) (g := gName 5) (by rfl) sc_law_near_right.nd rfl rfl (sw_true rfl rfl rfl (by decide +kernel)) (pi_range2B (by rfl) T.b_range (pa_cons pe_int (pa_cons (pe_op op_add (pv 2) pe_int) pa_nil))) (blkOk_by (own := [("_law_figure", 5)]) (N := ["_law_well_here", "_law_plans", "_law_start", "_law_lost_so", "_law_ends", "_law_figure", "_law_end"]) (sc := defScope s_law_near_right) (by decide +kernel)) (fun _ _ _ _ _ => (pg_name (i := 5) sc_law_near_right.nd rfl (Or.inl rfl))) (fun _ _ _ _ _ => (pts_one (pt_not (pt_val (pe_callF c_law_lives (hr.mono (by decide)) rfl (pa_cons (pe_ix (show IxR _ (rIxT K) from ix_tup) (pv 1) pe_int (fun _ _ => rfl)) (pa_cons (pv 5) (pa_cons (pv 2) pa_nil)))))))) (fun _ _ _ _ _ => (pv 5)))
      (pss_cut (ps_setLc (i := 4) (own := [("_law_figure", 5)]) (g := gName 5) (by rfl) sc_law_near_right.nd rfl rfl (sw_true rfl rfl rfl (by decide +kernel)) (pi_list (pv 3)) (blkOk_by (own := [("_law_figure", 5)]) (N := ["_law_well_here", "_law_plans", "_law_start", "_law_lost_so", "_law_ends", "_law_figure", "_law_end"]) (sc := defScope s_law_near_right) (by decide +kernel)) (fun _ _ _ _ _ => (pg_name (i := 5) sc_law_near_right.nd rfl (Or.inl rfl))) (fun _ _ _ _ _ => pts_nil) (fun _ _ _ _ _ => (pe_op op_add (pv 5) (pe_op op_mul (pe_ix (show IxR _ (rIxT K) from ix_tup) (pe_ix (show IxR _ (rIxT K) from ix_tup) (pv 1) pe_int (fun _ _ => rfl)) pe_int (fun _ _ => rfl)) (pe_callF c_law_pow (hr.mono (by decide)) rfl (pa_cons (pe_ix (show IxR _ (rIxT K) from ix_tup) (pe_ix (show IxR _ (rIxT K) from ix_tup) (pv 1) pe_int (fun _ _ => rfl)) pe_int (fun _ _ => rfl)) (pa_cons (pv 5) pa_nil)))))))
      (pss_one (ps_ret (pe_cmpR op_eq (pe_methF0 c_Change_settled_from (hr.mono (by decide)) (pe_callF c_law_shift (hr.mono (by decide)) rfl (pa_cons (pv 1) (pa_cons (pv 2) pa_nil)))) (pe_callB (cr_max rfl) (by rfl) T.b_max (by decide +kernel) (pa_cons (pe_op op_cat (pe_lst (pa_cons (pv 2) pa_nil)) (pe_lc (own := [("_law_end", 6)]) (g := gName 6) (by rfl) sc_law_near_right.nd (pi_list (pv 4)) (blkOk_by (own := [("_law_end", 6)]) (N := ["_law_well_here", "_law_plans", "_law_start", "_law_lost_so", "_law_ends", "_law_figure", "_law_end"]) (sc := defScope s_law_near_right) (by decide +kernel)) (fun _ _ _ _ _ => (pg_name (i := 6) sc_law_near_right.nd rfl (Or.inl rfl))) (fun _ _ _ _ _ => pts_nil) (fun _ _ _ _ _ => (pe_op op_add (pv 6) pe_int)))) pa_nil)) (nomark _))))))), ?_⟩
    refine ⟨fun σ H1 => ∃ (b f k f2 c : Nat) (t t1 t2 : Addr), σ = [some (.ref a), some (.ref t), some (.int c), none, none, none, none] ∧ f2 ≤ 6 ∧ c < 61 ∧ Pln H1 t t1 t2 b f k f2 ∧ Wel H1 a (e + 8) ∧ But a H H1, ?_, ?_⟩
    · refine ⟨_, rfl, a, 6, e, rfl, S, by omega, by omega, by omega, fun b f k f2 t t1 t2 H1 hb30 hfm hgm Y S1 B1 => ?_⟩
      refine ⟨_, rfl, a, 61, _, rfl, S1, by omega, by decide, by decide, fun r1 H2 r10 r11 S2 B2 => ?_⟩
      obtain ⟨c, rfl, hc⟩ := nat_of r10 r11
      have Y2 := Y.but S1 B2
      refine ⟨by show 2 ≤ sizeLine; decide, fun tt htt => ?_⟩
      have s3 := Same.upd (o := .tup [.ref t, .int c]) htt
      refine ⟨tt, _, rfl, SqT.of upd_same, rfl, _, _, rfl, _, _, rfl, rfl, ?_⟩
      exact ⟨b, f, k, f2, c, t, t1, t2, rfl, by omega, by omega, Y2.same s3, S2.same s3, B1.trans (B2.trans s3.but)⟩
    rintro σ H1 ⟨b, f, k, f2, c, t, t1, t2, rfl, hf6, hc, Y, S1, B1⟩
    refine ⟨fun σ H2 => ∃ (D : Addr) (c5 : Option V), σ = [some (.ref a), some (.ref t), some (.int c), some (.ref D), none, c5, none] ∧ H2 D = some (.lst ((lso b f c c).map nV)) ∧ Same H1 H2, ?_, ?_⟩
    · refine ⟨_, rfl, _, _, rfl, rfl, _, _, rfl, fun D hD => lc_range (lo := 1) (fun i H2 => Same H1 H2 ∧ H2 D = some (.lst ((lso b f c i).map nV))) ⟨Same.upd hD, upd_same⟩ ?_ ?_⟩
      · rintro i H2 hi ⟨s2, h2⟩
        refine ⟨rfl, ?_⟩
        refine ⟨_, rfl, t, _, _, _, rfl, rfl, SqT.of (s2 _ _ Y.t), atI_nat (j := 0) rfl, _, rfl, _, rfl, t1, b, f, 1 + i, c, by rw [Int.natCast_add]; rfl, s2 _ _ Y.t1, Y.b1, Y.b2, Y.f1, Y.fm, _, rfl, ?_⟩
        have hi2 : 1 + i ≤ c := by omega
        have ed : drp b f c (1 + i) = !kpt b f (1 + i) c := by unfold drp; rw [decide_eq_true hi2, Bool.true_and]
        rw [lso_succ, ed]
        refine ifB (fun z => ?_) (fun z => ?_)
        · rw [if_pos z]
          refine ⟨_, rfl, _, h2, small300 (by rw [List.length_map]; have := lso_len b f c i; omega), fun x o e => ?_, ?_⟩
          · rw [upd_ne (ne_of_none e hD)]
            exact s2 _ _ e
          · rw [upd_same, List.map_append]
            show some (HO.lst (_ ++ [V.int (1 + (i : Int))])) = some (HO.lst (_ ++ [V.int ((1 + i : Nat) : Int)]))
            rw [Int.natCast_add]
            rfl
        · rw [if_neg (by rw [z]; exact Bool.false_ne_true), List.append_nil]
          exact ⟨s2, h2⟩
      · rintro H2 ⟨s2, h2⟩
        rw [show ((c : Int) + 1 - 1).toNat = c by omega] at h2
        exact ⟨D, _, rfl, h2, s2⟩
    rintro σ H2 ⟨D, c5, rfl, hD, s2⟩
    have Y2 := Y.same s2
    refine ⟨fun σ H3 => ∃ (L : Addr) (c5 : Option V), σ = [some (.ref a), some (.ref t), some (.int c), some (.ref D), some (.ref L), c5, none] ∧ H3 L = some (.lst (((lso b f c c).map fun n => n + f2 * lp (b ^ k) n).map nV)) ∧ Same H2 H3, ?_, ?_⟩
    · refine ⟨_, rfl, D, rfl, ⟨_, SqL.of hD⟩, fun L hL => lc_list (K := K) (a := D) (xs := (lso b f c c).map nV) (fun i H3 => Same H2 H3 ∧ H3 L = some (.lst ((((lso b f c c).take i).map fun n => n + f2 * lp (b ^ k) n).map nV))) ⟨Same.upd hL, upd_same⟩ (fun i H3 _ h => SqL.of (h.1 _ _ hD)) ?_ ?_⟩
      · rintro i v H3 hi ⟨s3, h3⟩
        obtain ⟨x, rfl, hx⟩ := nat_item hi
        have hx0 : 0 < x := (drp_pos (lso_mem.mp (List.mem_of_getElem? hx))).1
        refine ⟨rfl, ?_⟩
        refine ⟨_, rfl, _, rfl, t, _, _, _, rfl, rfl, SqT.of (s3 _ _ Y2.t), atI_nat (j := 1) rfl, t2, _, _, _, rfl, rfl, SqT.of (s3 _ _ Y2.t2), atI_nat (j := 1) rfl, _, rfl, t, _, _, _, rfl, rfl, SqT.of (s3 _ _ Y2.t), atI_nat (j := 1) rfl, t2, _, _, _, rfl, rfl, SqT.of (s3 _ _ Y2.t2), atI_nat (j := 0) rfl, _, rfl, b ^ k, x, rfl, Y2.two, Y2.k2, hx0, _, _, rfl, rfl, .inl ⟨by omega, by omega⟩, _, _, rfl, rfl, ?_⟩
        have hl := lso_len b f c c
        refine ⟨_, h3, small300 (by rw [List.length_map, List.length_map, List.length_take]; omega), fun y o e => ?_, ?_⟩
        · rw [upd_ne (ne_of_none e hL)]
          exact s3 _ _ e
        · rw [upd_same, take_s hx, List.map_append, List.map_append]
          show some (HO.lst (_ ++ [V.int ((x : Int) + (f2 : Int) * ((lp (b ^ k) x : Nat) : Int))])) = some (HO.lst (_ ++ [V.int ((x + f2 * lp (b ^ k) x : Nat) : Int)]))
          rw [Int.natCast_add, Int.natCast_mul]
      · rintro H3 ⟨s3, h3⟩
        rw [List.length_map, List.take_length] at h3
        exact ⟨L, _, rfl, h3, s3⟩
    rintro σ H3 ⟨L, c5', rfl, hL, s3⟩
    have Y3 := Y2.same s3
    refine ⟨_, rfl, _, rfl, t, t1, t2, b, f, k, f2, c, rfl, Y3, Nat.lt_trans hc (by decide), fun p H4 s4 X => ?_⟩
    obtain ⟨dx, q1, q2, hp, _⟩ := X.ob
    refine ⟨p, dx, _, rfl, hp, cfl_no (by decide +kernel), p, b, f, b ^ k, f2, c, rfl, X, fun s H5 s5 st => ?_⟩
    have hL5 := s5 _ _ (s4 _ _ hL)
    refine ⟨_, rfl, by show 1 ≤ sizeLine; decide, fun l1 hl1 => ?_⟩
    have s6 := Same.upd (o := .lst [.int c]) hl1
    have h6 : (upd H5 l1 (.lst [.int c])) l1 = some (.lst ([c].map nV)) := upd_same
    have hL6 := s6 _ _ hL5
    generalize upd H5 l1 (.lst [.int c]) = H6 at *
    refine ⟨_, rfl, L, rfl, ⟨_, SqL.of hL6⟩, fun D2 hD2 => lc_list (K := K) (a := L) (xs := ((lso b f c c).map fun n => n + f2 * lp (b ^ k) n).map nV) (fun i H7 => Same H6 H7 ∧ H7 D2 = some (.lst ((((lso b f c c).take i).map fun n => n + f2 * lp (b ^ k) n + 1).map nV))) ⟨Same.upd hD2, upd_same⟩ (fun i H7 _ h => SqL.of (h.1 _ _ hL6)) ?_ ?_⟩
    · rintro i v H7 hi ⟨s7, h7⟩
      obtain ⟨y, rfl, hy⟩ := nat_item hi
      rw [List.getElem?_map] at hy
      obtain ⟨x, hx, rfl⟩ := Option.map_eq_some_iff.mp hy
      refine ⟨rfl, ?_⟩
      have hl := lso_len b f c c
      refine ⟨_, rfl, _, _, rfl, rfl, _, h7, small300 (by rw [List.length_map, List.length_map, List.length_take]; omega), fun z o e => ?_, ?_⟩
      · rw [upd_ne (ne_of_none e hD2)]
        exact s7 _ _ e
      · rw [upd_same, take_s hx, List.map_append, List.map_append]
        rfl
    · rintro H7 ⟨s7, h7⟩
      rw [List.length_map, List.length_map, List.take_length] at h7
      have hl := lso_len b f c c
      refine ⟨l1, D2, _, _, rfl, rfl, s7 _ _ h6, h7, Nat.le_of_lt (small300 (by rw [List.length_map, List.length_map, List.length_map]; show 1 + (lso b f c c).length ≤ 300; omega)), fun p2 hp2 => ?_⟩
      have e8 : (upd H7 p2 (.lst ([c].map nV ++ ((lso b f c c).map fun n => n + f2 * lp (b ^ k) n + 1).map nV))) p2 = some (.lst ((natI (c :: ((lso b f c c).map fun n => n + f2 * lp (b ^ k) n + 1))).map V.int)) := by
        rw [upd_same, ← natsV]
        rfl
      have s8 := Same.upd (o := .lst ([c].map nV ++ ((lso b f c c).map fun n => n + f2 * lp (b ^ k) n + 1).map nV)) hp2
      refine ⟨p2, _, rfl, SqL.of e8, by unfold natI; simp, fun m h1 h2 => ?_⟩
      obtain ⟨m', rfl⟩ : ∃ m' : Nat, m = (m' : Int) := by
        obtain ⟨x, _, e⟩ := List.mem_map.mp h1
        exact ⟨x, e.symm⟩
      obtain rfl := st.uniq (stl_max h1 h2)
      refine ⟨rfl, ?_⟩
      have sx := s2.trans (s3.trans (s4.trans (s5.trans (s6.trans (s7.trans s8)))))
      exact endB (decide_eq_true rfl) (q _ ((S1.mono (by omega)).same sx) (B1.trans sx.but))
theorem ok_farR {f C Ch : Addr} {fd : FuncData} (F : Fun K "_law_far_right" "_law_far_right" s_law_far_right f fd) (T : Txt K mg C) (TD : TxtD K mg Ch)
    (c_law_draw : CalF P w K mg base 2 "_law_draw" ["_law_well_here", "_law_many"] sp_drawC) (c_law_one : CalF P w K mg base 3 "_law_one" ["_law_well_here", "_law_some"] sp_oneC) (c_law_big : CalF P w K mg base 3 "_law_big" ["_law_well_here"] sp_big)
    (c_law_swap : CalF P w K mg base 4 "_law_swap" ["_law_well_here", "_law_many"] sp_swap) (c_law_shift : CalF P w K mg base 6 "_law_shift" ["_law_plans", "_law_clock"] (sp_shift C Ch))
    (c_Change_settled_from : CalM P w K mg base 3 Ch "settled_from" ["self"] (sp_settled C Ch)) (c_Change_next_gone : CalM P w K mg base 5 Ch "next_gone" ["self", "number", "time"] (sp_ngone C Ch)) (c_Change_gone_count : CalM P w K mg base 5 Ch "gone_count" ["self", "time"] (sp_gcount C Ch)) :
    FnOk P w K mg base CX0 7 f fd ["_law_well_here"] sp_nearR := by
  refine F.ok sc_law_far_right (fun vs H Q E h => ?_) (fun cdv A outer s H vs Q E hr h => ?_)
  · obtain ⟨a, e, rfl, _⟩ := h
    rfl
  · obtain ⟨a, e, rfl, S, he, q⟩ := h
    refine ⟨_, (pss_cut (ps_par (i := 1) (j := 2) (by rfl) sc_law_far_right.nd rfl rfl (by decide) rfl rfl (pa_cons (pe_callF c_law_swap (hr.mono (by decide)) rfl (pa_cons (pv 0) (pa_cons (pe_op op_pow pe_int pe_int) pa_nil))) (pa_cons (pe_op op_mod (pe_callF c_law_big (hr.mono (by decide)) rfl (pa_cons (pv 0) pa_nil)) (pe_op op_pow pe_int pe_int)) pa_nil)) (by rfl))
      (pss_cut (ps_set (i := 3) sc_law_far_right.nd rfl (Or.inl rfl) (pe_callF c_law_shift (hr.mono (by decide)) rfl (pa_cons (pv 1) (pa_cons (pv 2) pa_nil))))
      (pss_cut (ps_set (i := 4) sc_law_far_right.nd rfl (Or.inl rfl) (pe_methF0 c_Change_settled_from (hr.mono (by decide)) (pv 3)))
      (pss_cut (ps_if (PW.pt (pw_or (pt_cmpR op_lt (pv 4) (pv 2) (nomark _)) (pw_or (pt_cmpR op_ne (pe_methF c_Change_gone_count (hr.mono (by decide)) (pv 3) (pa_cons (pv 4) pa_nil)) pe_int (nomark _)) (pw_or1 (pt_cmpR op_notN (pe_methF c_Change_next_gone (hr.mono (by decide)) (pv 3) (pa_cons pe_int (pa_cons (pv 4) pa_nil))) pe_non (nomark _)))))) (pss_one (ps_ret pe_bl)) pss_nil)
      (pss_cut (ps_set (i := 5) sc_law_far_right.nd rfl (Or.inl rfl) (pe_op op_add (pv 4) (pe_callF c_law_one (hr.mono (by decide)) rfl (pa_cons (pv 0) (pa_cons (pe_lst (pa_cons (pe_callF c_law_draw (hr.mono (by decide)) rfl (pa_cons (pv 0) (pa_cons pe_int pa_nil))) (pa_cons (pe_callF c_law_big (hr.mono (by decide)) rfl (pa_cons (pv 0) pa_nil)) pa_nil))) pa_nil)))))
      (pss_cut (ps_if (pt_cmpR op_ne (pe_methF c_Change_gone_count (hr.mono (by decide)) (pv 3) (pa_cons (pv 5) pa_nil)) pe_int (nomark _)) (pss_one (ps_ret pe_bl)) pss_nil)
      (pss_one (ps_ret (pe_or (pe_cmpR op_eq (pv 4) (pv 2) (nomark _)) (pe_one (pe_and (pe_cmpR op_gt (pe_methF c_Change_gone_count (hr.mono (by decide)) (pv 3) (pa_cons (pe_op op_sub (pv 4) pe_int) pa_nil)) pe_int (nomark _)) (pe_one (pe_cmpR op_notN (pe_methF c_Change_next_gone (hr.mono (by decide)) (pv 3) (pa_cons pe_int (pa_cons (pe_op op_sub (pv 4) pe_int) pa_nil))) pe_non (nomark _)))))))))))))), ?_⟩
    refine ⟨fun σ H1 => ∃ (b f k f2 c : Nat) (t t1 t2 : Addr), σ = [some (.ref a), some (.ref t), some (.int c), none, none, none] ∧ c < 10 ^ 22 ∧ Pln H1 t t1 t2 b f k f2 ∧ Wel H1 a (e + 12) ∧ But a H H1, ?_, ?_⟩
    · refine ⟨_, rfl, _, _, rfl, rfl, ⟨by decide, by decide, by decide⟩, a, 1000000, e, rfl, S, by omega, by omega, by omega, fun b f k f2 t t1 t2 H1 hb30 hfm hgm Y S1 B1 => ?_⟩
      refine ⟨_, rfl, a, _, rfl, S1, by omega, fun n H2 hn S2 B2 => ?_⟩
      refine ⟨_, _, rfl, rfl, ⟨by decide, by decide, by decide⟩, _, _, rfl, rfl, p22p, ?_⟩
      refine ⟨_, _, rfl, b, f, k, f2, n % 10 ^ 22, t, t1, t2, ?_, Nat.mod_lt _ (by decide), Y.but S1 B2, S2, B1.trans B2⟩
      show [some (V.ref a), some (V.ref t), some (V.int ((n : Int) % 10 ^ (22 : Int).toNat)), none, none, none] = _
      rw [Int.natCast_emod]
      rfl
    rintro σ H1 ⟨b, f, k, f2, c, t, t1, t2, rfl, hc, Y, S1, B1⟩
    have hc120 : c < 2 ^ 120 := Nat.lt_trans hc (by decide)
    refine ⟨fun σ H2 => ∃ p : Addr, σ = [some (.ref a), some (.ref t), some (.int c), some (.ref p), none, none] ∧ Chg C Ch H2 p b f (b ^ k) f2 c ∧ Wel H2 a (e + 12) ∧ But a H H2, ?_, ?_⟩
    · refine ⟨_, rfl, _, rfl, t, t1, t2, b, f, k, f2, c, rfl, Y, hc120, fun p H2 s2 X => ?_⟩
      exact ⟨p, rfl, X, S1.same s2, B1.trans s2.but⟩
    have hB := Y.two
    have hfm := Y.gm
    clear Y S1 B1
    rintro σ H2 ⟨p, rfl, X, S2, B2⟩
    refine ⟨fun σ H3 => ∃ s : Nat, σ = [some (.ref a), some (.ref t), some (.int c), some (.ref p), some (.int (s : Nat)), none] ∧ Stl b f (b ^ k) f2 c s ∧ Chg C Ch H3 p b f (b ^ k) f2 c ∧ Wel H3 a (e + 12) ∧ But a H H3, ?_, ?_⟩
    · obtain ⟨dx, q1, q2, hp, _⟩ := X.ob
      exact ⟨_, rfl, p, dx, _, rfl, hp, cfl_no (by decide +kernel), p, b, f, b ^ k, f2, c, rfl, X, fun s H3 s3 st => ⟨s, rfl, st, X.same s3, S2.same s3, B2.trans s3.but⟩⟩
    clear X S2 B2
    rintro σ H3 ⟨s, rfl, st, X, S3, B3⟩
    have hs29 := p22_120 hc (stl_bd hB hfm st)
    have hs150 : s < 2 ^ 150 := Nat.lt_trans hs29 (by decide)
    have hge := st.ge
    refine ⟨fun σ H4 => σ = [some (.ref a), some (.ref t), some (.int c), some (.ref p), some (.int (s : Nat)), none] ∧ Same H3 H4, ?_, ?_⟩
    · obtain ⟨dx, q1, q2, hp, _⟩ := X.ob
      refine ⟨_, rfl, _, rfl, _, _, rfl, rfl, _, rfl, ?_⟩
      refine ifD (fun z => absurd (show (s : Int) < (c : Int) from z) (by omega)) (fun _ => ?_)
      refine ⟨_, rfl, p, dx, _, rfl, hp, cfl_no (by decide +kernel), _, rfl, p, b, f, b ^ k, f2, c, s, rfl, X, hge, hs150, fun H4 s4 => ?_⟩
      rw [gnl_nil hB st (Nat.le_refl _)]
      refine ⟨rfl, _, rfl, ?_⟩
      refine ifNI (fun z => absurd rfl z) (fun _ => ?_)
      have X4 := X.same s4
      obtain ⟨dx, q1, q2, hp, _⟩ := X4.ob
      refine ⟨_, rfl, p, dx, _, rfl, hp, cfl_no (by decide +kernel), _, rfl, p, b, f, b ^ k, f2, c, 0, s, rfl, X4, hge, hs150, fun _ H5 s5 => ?_, fun m H5 s5 h1 => ?_⟩
      · refine ⟨rfl, _, rfl, ?_⟩
        exact iteF ⟨rfl, s4.trans s5⟩
      · rw [gnl_nil hB st (Nat.le_refl _)] at h1
        cases h1
    rintro σ H4 ⟨rfl, s4⟩
    have X4 := X.same s4
    have S4 := S3.same s4
    have B4 := B3.trans s4.but
    clear X S3 B3 s4
    refine ⟨fun σ H5 => ∃ r : Nat, σ = [some (.ref a), some (.ref t), some (.int c), some (.ref p), some (.int (s : Nat)), some (.int ((s + r : Nat) : Int))] ∧ r < 10 ^ 28 ∧ Chg C Ch H5 p b f (b ^ k) f2 c ∧ Wel H5 a (e + 30) ∧ But a H H5, ?_, ?_⟩
    · obtain ⟨x0, d0, z0, ha4, _⟩ := id S4.ob
      refine ⟨_, rfl, _, rfl, _, rfl, a, 99, _, rfl, S4, by omega, by decide, by decide, fun r1 H5 r10 r11 S5 B5 => ?_⟩
      obtain ⟨i1, rfl, hi1⟩ := nat_of r10 r11
      refine ⟨_, rfl, a, _, rfl, S5, by omega, fun n H6 hn S6 B6 => ?_⟩
      refine ⟨by show 2 ≤ sizeLine; decide, fun l hl => ⟨a, l, _, _, rfl, S6.same (Same.upd hl), by omega, S6.ne hl, upd_same, (by show 0 < 2; decide), (by show 2 ≤ 1000000; decide), fun v H7 hv S7 B7 => ?_⟩⟩
      obtain ⟨r, rfl, hr28⟩ : ∃ r : Nat, v = .int r ∧ r < 10 ^ 28 := by
        simp only [List.mem_cons, List.not_mem_nil, or_false] at hv
        rcases hv with h | h
        · exact ⟨i1, h, by omega⟩
        · exact ⟨n, h, hn⟩
      have B47 := B5.trans (B6.trans ((Same.but (Same.upd hl)).trans B7))
      exact ⟨_, _, rfl, rfl, r, by rw [Int.natCast_add]; rfl, hr28, X4.but ha4 B47, S7.mono (by omega), B4.trans B47⟩
    clear X4 S4 B4
    rintro σ H5 ⟨r, rfl, hr28, X, S5, B5⟩
    have hr150 := p29_120 hs29 hr28
    refine ⟨fun σ H6 => σ = [some (.ref a), some (.ref t), some (.int c), some (.ref p), some (.int (s : Nat)), some (.int ((s + r : Nat) : Int))] ∧ Same H5 H6, ?_, ?_⟩
    · obtain ⟨dx, q1, q2, hp, _⟩ := X.ob
      refine ⟨_, rfl, p, dx, _, rfl, hp, cfl_no (by decide +kernel), _, rfl, p, b, f, b ^ k, f2, c, s + r, rfl, X, by omega, hr150, fun H6 s6 => ?_⟩
      rw [gnl_nil hB st (by omega)]
      refine ⟨rfl, _, rfl, ?_⟩
      refine ifNI (fun z => absurd rfl z) (fun _ => ?_)
      exact ⟨rfl, s6⟩
    rintro σ H6 ⟨rfl, s6⟩
    have X6 := X.same s6
    have S6 := S5.same s6
    have B6 := B5.trans s6.but
    clear X S5 B5 s6
    refine ⟨_, rfl, _, rfl, rfl, _, rfl, ?_⟩
    refine ifI (fun z => ?_) (fun z => ?_)
    · exact q _ S6 B6
    · have hlt : c < s := by omega
      obtain ⟨n, hn⟩ := stl_ex hB st hlt
      have hng : n ∈ gnl b f (b ^ k) f2 c (s - 1) := gnl_mem.mpr hn
      obtain ⟨dx, q1, q2, hp, _⟩ := X6.ob
      have es : (s : Int) - 1 = ((s - 1 : Nat) : Int) := by omega
      refine ⟨_, rfl, p, dx, _, rfl, hp, cfl_no (by decide +kernel), _, rfl, _, _, rfl, rfl, p, b, f, b ^ k, f2, c, s - 1, by rw [← es]; rfl, X6, by omega, by omega, fun H7 s7 => ?_⟩
      have hpos : 0 < (gnl b f (b ^ k) f2 c (s - 1)).length := List.length_pos_of_mem hng
      refine ⟨_, _, rfl, rfl, _, rfl, ?_⟩
      refine ifD (fun _ => ?_) (fun z => absurd (show ((gnl b f (b ^ k) f2 c (s - 1)).length : Int) > 0 by omega) z)
      have X7 := X6.same s7
      obtain ⟨dx, q1, q2, hp, _⟩ := X7.ob
      refine ⟨_, rfl, p, dx, _, rfl, hp, cfl_no (by decide +kernel), _, rfl, _, _, rfl, rfl, p, b, f, b ^ k, f2, c, 0, s - 1, by rw [← es]; rfl, X7, by omega, by omega, fun hz H8 s8 => ?_, fun m H8 s8 h1 h2 h3 => ?_⟩
      · have := hz n hng
        omega
      · refine ⟨rfl, ?_⟩
        exact q _ (S6.same (s7.trans s8)) (B6.trans (s7.trans s8).but)
theorem ok_rightS {f C : Addr} {fd : FuncData} (F : Fun K "_law_right" "_law_right" s_law_right f fd) (T : Txt K mg C)
    (c_law_near_right : CalF P w K mg base 7 "_law_near_right" ["_law_well_here"] sp_nearR) (c_law_far_right : CalF P w K mg base 7 "_law_far_right" ["_law_well_here"] sp_nearR) : FnOk P w K mg base CX0 8 f fd ["_law_well_here"] sp_rightC := by
  refine F.ok sc_law_right (fun vs H Q E h => ?_) (fun cdv A outer s H vs Q E hr h => ?_)
  · obtain ⟨a, rfl, _⟩ := h
    rfl
  · obtain ⟨a, rfl, S, q⟩ := h
    refine ⟨_, (pss_cons (ps_for PassesOwn.never rfl (pi_range1B (by rfl) T.b_range (pa_cons pe_int pa_nil)) (pg_name (i := 1) sc_law_right.nd rfl (Or.inl rfl))
      (pss_one (ps_if (PW.pt (pw_or (pt_not (pt_val (pe_callF c_law_near_right (hr.mono (by decide)) rfl (pa_cons (pv 0) pa_nil)))) (pw_or1 (pt_not (pt_val (pe_callF c_law_far_right (hr.mono (by decide)) rfl (pa_cons (pv 0) pa_nil))))))) (pss_one (ps_ret pe_bl)) pss_nil)))
      (pss_one (ps_ret pe_bl))), ?_⟩
    refine ⟨_, rfl, for_range (lo := 0) (n := 6) (fun j σ H2 => ∃ c1 : Option V, σ = [some (.ref a), c1] ∧ Wel H2 a (60 * j) ∧ But a H H2) ⟨none, rfl, S, But.refl _ _⟩ ?_ ?_⟩
    · rintro j σ H2 hj ⟨c1, rfl, S2, B2⟩
      refine ⟨_, rfl, a, 60 * j, rfl, S2, by omega, fun H3 S3 B3 => ⟨_, rfl, ?_⟩⟩
      refine iteF ?_
      refine ⟨_, rfl, a, _, rfl, S3, by omega, fun H4 S4 B4 => ⟨_, rfl, ?_⟩⟩
      refine iteF ?_
      exact ⟨_, rfl, S4.mono (by omega), B2.trans (B3.trans B4)⟩
    · rintro σ H2 ⟨c1, rfl, S2, B2⟩
      exact q _ B2
end
end My

set_option Elab.async false
set_option linter.all false
set_option maxRecDepth 100000
set_option maxHeartbeats 4000000
namespace My
open PySem L2 Mth
theorem kit_self {K : PySem.W.Frag} {C : Addr} : PySem.W.kitOne K (.ref C) (.ref C) = some true := by
  unfold PySem.W.kitOne
  rw [if_pos (by simp)]
theorem all_mk {l : PySem.W.OpenLaw} {w : World} {K : PySem.W.Frag} {h : Heap} {mg : Str → Option Value} {fa C Ch f_law_well f_law_right f_law_near_right f_law_draw f_law_mixed f_law_swap f_law_one f_law_shift f_Scheme__init f_is_integer_between f_is_integer f_Change__init f_is_power f_check_time f_is_integer_from f_Scheme_base f_law_lives f_law_pow f_Change_settled_from f_kept_spans f_Scheme_factor f_places_up_to f_last_apart f_round_down f_law_far_right f_law_big f_law_pile f_Change_next_gone f_check_number f_Change_check_later f_Change_gone_rows f_kept_rows f_round_up f_cut_rows f_first_apart f_Change_gone_count f_count_apart f_count_multiples f_law f_eq : Addr} (X : K.In h) (G : h.Ns mainGlobals mg) (hfa : mg "law" = some (.ref fa))
    {od_law_well an_law_well od_law_right an_law_right od_law_near_right an_law_near_right od_law_draw an_law_draw od_law_mixed an_law_mixed od_law_swap an_law_swap od_law_one an_law_one od_law_shift an_law_shift od_Scheme__init an_Scheme__init od_is_integer_between an_is_integer_between od_is_integer an_is_integer od_Change__init an_Change__init od_is_power an_is_power od_check_time an_check_time od_is_integer_from an_is_integer_from od_Scheme_base an_Scheme_base od_law_lives an_law_lives od_law_pow an_law_pow od_Change_settled_from an_Change_settled_from od_kept_spans an_kept_spans od_Scheme_factor an_Scheme_factor od_places_up_to an_places_up_to od_last_apart an_last_apart od_round_down an_round_down od_law_far_right an_law_far_right od_law_big an_law_big od_law_pile an_law_pile od_Change_next_gone an_Change_next_gone od_check_number an_check_number od_Change_check_later an_Change_check_later od_Change_gone_rows an_Change_gone_rows od_kept_rows an_kept_rows od_round_up an_round_up od_cut_rows an_cut_rows od_first_apart an_first_apart od_Change_gone_count an_Change_gone_count od_count_apart an_count_apart od_count_multiples an_count_multiples od_law an_law : Option Addr} {sl_law_well sl_law_right sl_law_near_right sl_law_draw sl_law_mixed sl_law_swap sl_law_one sl_law_shift sl_Scheme__init sl_is_integer_between sl_is_integer sl_Change__init sl_is_power sl_check_time sl_is_integer_from sl_Scheme_base sl_law_lives sl_law_pow sl_Change_settled_from sl_kept_spans sl_Scheme_factor sl_places_up_to sl_last_apart sl_round_down sl_law_far_right sl_law_big sl_law_pile sl_Change_next_gone sl_check_number sl_Change_check_later sl_Change_gone_rows sl_kept_rows sl_round_up sl_cut_rows sl_first_apart sl_Change_gone_count sl_count_apart sl_count_multiples sl_law : Array (Option Value)} {oc_law_well kV_law_well dc_law_well pm_law_well cd_law_well ct_law_well oc_law_right kV_law_right dc_law_right pm_law_right cd_law_right ct_law_right oc_law_near_right kV_law_near_right dc_law_near_right pm_law_near_right cd_law_near_right ct_law_near_right oc_law_draw kV_law_draw dc_law_draw pm_law_draw cd_law_draw ct_law_draw oc_law_mixed kV_law_mixed dc_law_mixed pm_law_mixed cd_law_mixed ct_law_mixed oc_law_swap kV_law_swap dc_law_swap pm_law_swap cd_law_swap ct_law_swap oc_law_one kV_law_one dc_law_one pm_law_one cd_law_one ct_law_one oc_law_shift kV_law_shift dc_law_shift pm_law_shift cd_law_shift ct_law_shift oc_Scheme__init kV_Scheme__init dc_Scheme__init pm_Scheme__init cd_Scheme__init ct_Scheme__init oc_is_integer_between kV_is_integer_between dc_is_integer_between pm_is_integer_between cd_is_integer_between ct_is_integer_between oc_is_integer kV_is_integer dc_is_integer pm_is_integer cd_is_integer ct_is_integer oc_Change__init kV_Change__init dc_Change__init pm_Change__init cd_Change__init ct_Change__init oc_is_power kV_is_power dc_is_power pm_is_power cd_is_power ct_is_power oc_check_time kV_check_time dc_check_time pm_check_time cd_check_time ct_check_time oc_is_integer_from kV_is_integer_from dc_is_integer_from pm_is_integer_from cd_is_integer_from ct_is_integer_from oc_Scheme_base kV_Scheme_base dc_Scheme_base pm_Scheme_base cd_Scheme_base ct_Scheme_base oc_law_lives kV_law_lives dc_law_lives pm_law_lives cd_law_lives ct_law_lives oc_law_pow kV_law_pow dc_law_pow pm_law_pow cd_law_pow ct_law_pow oc_Change_settled_from kV_Change_settled_from dc_Change_settled_from pm_Change_settled_from cd_Change_settled_from ct_Change_settled_from oc_kept_spans kV_kept_spans dc_kept_spans pm_kept_spans cd_kept_spans ct_kept_spans oc_Scheme_factor kV_Scheme_factor dc_Scheme_factor pm_Scheme_factor cd_Scheme_factor ct_Scheme_factor oc_places_up_to kV_places_up_to dc_places_up_to pm_places_up_to cd_places_up_to ct_places_up_to oc_last_apart kV_last_apart dc_last_apart pm_last_apart cd_last_apart ct_last_apart oc_round_down kV_round_down dc_round_down pm_round_down cd_round_down ct_round_down oc_law_far_right kV_law_far_right dc_law_far_right pm_law_far_right cd_law_far_right ct_law_far_right oc_law_big kV_law_big dc_law_big pm_law_big cd_law_big ct_law_big oc_law_pile kV_law_pile dc_law_pile pm_law_pile cd_law_pile ct_law_pile oc_Change_next_gone kV_Change_next_gone dc_Change_next_gone pm_Change_next_gone cd_Change_next_gone ct_Change_next_gone oc_check_number kV_check_number dc_check_number pm_check_number cd_check_number ct_check_number oc_Change_check_later kV_Change_check_later dc_Change_check_later pm_Change_check_later cd_Change_check_later ct_Change_check_later oc_Change_gone_rows kV_Change_gone_rows dc_Change_gone_rows pm_Change_gone_rows cd_Change_gone_rows ct_Change_gone_rows oc_kept_rows kV_kept_rows dc_kept_rows pm_kept_rows cd_kept_rows ct_kept_rows oc_round_up kV_round_up dc_round_up pm_round_up cd_round_up ct_round_up oc_cut_rows kV_cut_rows dc_cut_rows pm_cut_rows cd_cut_rows ct_cut_rows oc_first_apart kV_first_apart dc_first_apart pm_first_apart cd_first_apart ct_first_apart oc_Change_gone_count kV_Change_gone_count dc_Change_gone_count pm_Change_gone_count cd_Change_gone_count ct_Change_gone_count oc_count_apart kV_count_apart dc_count_apart pm_count_apart cd_count_apart ct_count_apart oc_count_multiples kV_count_multiples dc_count_multiples pm_count_multiples cd_count_multiples ct_count_multiples oc_law kV_law dc_law pm_law cd_law ct_law : Value} {t_LEAST_BASE t_GREATEST_BASE t_LEAST_FACTOR t_GREATEST_FACTOR : Tok}
    (aC_C : PySem.W.nsIn K mainGlobals "Scheme" = some (some (.ref C)))
    (pg_C : PySem.W.plainGet K C Str.empty = true)
    (hd_C : PySem.W.hasDictIn K C = true)
    (po_C : PySem.W.plainOver K C = true)
    (sa_C : PySem.W.findIn K (.ref C) "__setattr__" = some (some (.builtin "object.__setattr__")))
    (mk_C : PySem.W.makesIn K C = true)
    (kc_C : PySem.W.keepIn K (.ref C) = true)
    (aC_Ch : PySem.W.nsIn K mainGlobals "Change" = some (some (.ref Ch)))
    (pg_Ch : PySem.W.plainGet K Ch Str.empty = true)
    (hd_Ch : PySem.W.hasDictIn K Ch = true)
    (po_Ch : PySem.W.plainOver K Ch = true)
    (sa_Ch : PySem.W.findIn K (.ref Ch) "__setattr__" = some (some (.builtin "object.__setattr__")))
    (mk_Ch : PySem.W.makesIn K Ch = true)
    (kc_Ch : PySem.W.keepIn K (.ref Ch) = true)
    (na_C_base_value : PySem.W.findIn K (.ref C) "base_value" = some none)
    (na_C_factor_value : PySem.W.findIn K (.ref C) "factor_value" = some none)
    (na_Ch_old_scheme : PySem.W.findIn K (.ref Ch) "old_scheme" = some none)
    (na_Ch_new_scheme : PySem.W.findIn K (.ref Ch) "new_scheme" = some none)
    (na_Ch_change_time : PySem.W.findIn K (.ref Ch) "change_time" = some none)
    (a_law_well : PySem.W.nsIn K mainGlobals "_law_well" = some (some (.ref f_law_well)))
    (l_law_well : K.lookup f_law_well = some ⟨oc_law_well, od_law_well, .func (PySem.W.fnOf "_law_well" "_law_well" (defArgs s_law_well) (defBody s_law_well) (defScope s_law_well) .none kV_law_well dc_law_well pm_law_well an_law_well cd_law_well ct_law_well), sl_law_well⟩)
    (c_law_well : PySem.W.codeIn K cd_law_well "_law_well" = true)
    (k_law_well : PySem.W.keepIn K (.ref f_law_well) = true)
    (a_law_right : PySem.W.nsIn K mainGlobals "_law_right" = some (some (.ref f_law_right)))
    (l_law_right : K.lookup f_law_right = some ⟨oc_law_right, od_law_right, .func (PySem.W.fnOf "_law_right" "_law_right" (defArgs s_law_right) (defBody s_law_right) (defScope s_law_right) .none kV_law_right dc_law_right pm_law_right an_law_right cd_law_right ct_law_right), sl_law_right⟩)
    (c_law_right : PySem.W.codeIn K cd_law_right "_law_right" = true)
    (k_law_right : PySem.W.keepIn K (.ref f_law_right) = true)
    (a_law_near_right : PySem.W.nsIn K mainGlobals "_law_near_right" = some (some (.ref f_law_near_right)))
    (l_law_near_right : K.lookup f_law_near_right = some ⟨oc_law_near_right, od_law_near_right, .func (PySem.W.fnOf "_law_near_right" "_law_near_right" (defArgs s_law_near_right) (defBody s_law_near_right) (defScope s_law_near_right) .none kV_law_near_right dc_law_near_right pm_law_near_right an_law_near_right cd_law_near_right ct_law_near_right), sl_law_near_right⟩)
    (c_law_near_right : PySem.W.codeIn K cd_law_near_right "_law_near_right" = true)
    (k_law_near_right : PySem.W.keepIn K (.ref f_law_near_right) = true)
    (a_law_draw : PySem.W.nsIn K mainGlobals "_law_draw" = some (some (.ref f_law_draw)))
    (l_law_draw : K.lookup f_law_draw = some ⟨oc_law_draw, od_law_draw, .func (PySem.W.fnOf "_law_draw" "_law_draw" (defArgs s_law_draw) (defBody s_law_draw) (defScope s_law_draw) .none kV_law_draw dc_law_draw pm_law_draw an_law_draw cd_law_draw ct_law_draw), sl_law_draw⟩)
    (c_law_draw : PySem.W.codeIn K cd_law_draw "_law_draw" = true)
    (k_law_draw : PySem.W.keepIn K (.ref f_law_draw) = true)
    (a_law_mixed : PySem.W.nsIn K mainGlobals "_law_mixed" = some (some (.ref f_law_mixed)))
    (l_law_mixed : K.lookup f_law_mixed = some ⟨oc_law_mixed, od_law_mixed, .func (PySem.W.fnOf "_law_mixed" "_law_mixed" (defArgs s_law_mixed) (defBody s_law_mixed) (defScope s_law_mixed) .none kV_law_mixed dc_law_mixed pm_law_mixed an_law_mixed cd_law_mixed ct_law_mixed), sl_law_mixed⟩)
    (c_law_mixed : PySem.W.codeIn K cd_law_mixed "_law_mixed" = true)
    (k_law_mixed : PySem.W.keepIn K (.ref f_law_mixed) = true)
    (a_law_swap : PySem.W.nsIn K mainGlobals "_law_swap" = some (some (.ref f_law_swap)))
    (l_law_swap : K.lookup f_law_swap = some ⟨oc_law_swap, od_law_swap, .func (PySem.W.fnOf "_law_swap" "_law_swap" (defArgs s_law_swap) (defBody s_law_swap) (defScope s_law_swap) .none kV_law_swap dc_law_swap pm_law_swap an_law_swap cd_law_swap ct_law_swap), sl_law_swap⟩)
    (c_law_swap : PySem.W.codeIn K cd_law_swap "_law_swap" = true)
    (k_law_swap : PySem.W.keepIn K (.ref f_law_swap) = true)
    (a_law_one : PySem.W.nsIn K mainGlobals "_law_one" = some (some (.ref f_law_one)))
    (l_law_one : K.lookup f_law_one = some ⟨oc_law_one, od_law_one, .func (PySem.W.fnOf "_law_one" "_law_one" (defArgs s_law_one) (defBody s_law_one) (defScope s_law_one) .none kV_law_one dc_law_one pm_law_one an_law_one cd_law_one ct_law_one), sl_law_one⟩)
    (c_law_one : PySem.W.codeIn K cd_law_one "_law_one" = true)
    (k_law_one : PySem.W.keepIn K (.ref f_law_one) = true)
    (a_law_shift : PySem.W.nsIn K mainGlobals "_law_shift" = some (some (.ref f_law_shift)))
    (l_law_shift : K.lookup f_law_shift = some ⟨oc_law_shift, od_law_shift, .func (PySem.W.fnOf "_law_shift" "_law_shift" (defArgs s_law_shift) (defBody s_law_shift) (defScope s_law_shift) .none kV_law_shift dc_law_shift pm_law_shift an_law_shift cd_law_shift ct_law_shift), sl_law_shift⟩)
    (c_law_shift : PySem.W.codeIn K cd_law_shift "_law_shift" = true)
    (k_law_shift : PySem.W.keepIn K (.ref f_law_shift) = true)
    (a_Scheme__init : PySem.W.findIn K (.ref C) "__init__" = some (some (.ref f_Scheme__init)))
    (i_Scheme__init : PySem.W.isFn K (.ref f_Scheme__init) = true)
    (l_Scheme__init : K.lookup f_Scheme__init = some ⟨oc_Scheme__init, od_Scheme__init, .func (PySem.W.fnOf "__init__" "Scheme.__init__" (defArgs s_Scheme___init__) (defBody s_Scheme___init__) (defScope s_Scheme___init__) .none kV_Scheme__init dc_Scheme__init pm_Scheme__init an_Scheme__init cd_Scheme__init ct_Scheme__init), sl_Scheme__init⟩)
    (c_Scheme__init : PySem.W.codeIn K cd_Scheme__init "Scheme.__init__" = true)
    (k_Scheme__init : PySem.W.keepIn K (.ref f_Scheme__init) = true)
    (a_is_integer_between : PySem.W.nsIn K mainGlobals "is_integer_between" = some (some (.ref f_is_integer_between)))
    (l_is_integer_between : K.lookup f_is_integer_between = some ⟨oc_is_integer_between, od_is_integer_between, .func (PySem.W.fnOf "is_integer_between" "is_integer_between" (defArgs s_is_integer_between) (defBody s_is_integer_between) (defScope s_is_integer_between) .none kV_is_integer_between dc_is_integer_between pm_is_integer_between an_is_integer_between cd_is_integer_between ct_is_integer_between), sl_is_integer_between⟩)
    (c_is_integer_between : PySem.W.codeIn K cd_is_integer_between "is_integer_between" = true)
    (k_is_integer_between : PySem.W.keepIn K (.ref f_is_integer_between) = true)
    (a_is_integer : PySem.W.nsIn K mainGlobals "is_integer" = some (some (.ref f_is_integer)))
    (l_is_integer : K.lookup f_is_integer = some ⟨oc_is_integer, od_is_integer, .func (PySem.W.fnOf "is_integer" "is_integer" (defArgs s_is_integer) (defBody s_is_integer) (defScope s_is_integer) .none kV_is_integer dc_is_integer pm_is_integer an_is_integer cd_is_integer ct_is_integer), sl_is_integer⟩)
    (c_is_integer : PySem.W.codeIn K cd_is_integer "is_integer" = true)
    (k_is_integer : PySem.W.keepIn K (.ref f_is_integer) = true)
    (a_Change__init : PySem.W.findIn K (.ref Ch) "__init__" = some (some (.ref f_Change__init)))
    (i_Change__init : PySem.W.isFn K (.ref f_Change__init) = true)
    (l_Change__init : K.lookup f_Change__init = some ⟨oc_Change__init, od_Change__init, .func (PySem.W.fnOf "__init__" "Change.__init__" (defArgs s_Change___init__) (defBody s_Change___init__) (defScope s_Change___init__) .none kV_Change__init dc_Change__init pm_Change__init an_Change__init cd_Change__init ct_Change__init), sl_Change__init⟩)
    (c_Change__init : PySem.W.codeIn K cd_Change__init "Change.__init__" = true)
    (k_Change__init : PySem.W.keepIn K (.ref f_Change__init) = true)
    (a_is_power : PySem.W.nsIn K mainGlobals "is_power" = some (some (.ref f_is_power)))
    (l_is_power : K.lookup f_is_power = some ⟨oc_is_power, od_is_power, .func (PySem.W.fnOf "is_power" "is_power" (defArgs s_is_power) (defBody s_is_power) (defScope s_is_power) .none kV_is_power dc_is_power pm_is_power an_is_power cd_is_power ct_is_power), sl_is_power⟩)
    (c_is_power : PySem.W.codeIn K cd_is_power "is_power" = true)
    (k_is_power : PySem.W.keepIn K (.ref f_is_power) = true)
    (a_check_time : PySem.W.nsIn K mainGlobals "check_time" = some (some (.ref f_check_time)))
    (l_check_time : K.lookup f_check_time = some ⟨oc_check_time, od_check_time, .func (PySem.W.fnOf "check_time" "check_time" (defArgs s_check_time) (defBody s_check_time) (defScope s_check_time) .none kV_check_time dc_check_time pm_check_time an_check_time cd_check_time ct_check_time), sl_check_time⟩)
    (c_check_time : PySem.W.codeIn K cd_check_time "check_time" = true)
    (k_check_time : PySem.W.keepIn K (.ref f_check_time) = true)
    (a_is_integer_from : PySem.W.nsIn K mainGlobals "is_integer_from" = some (some (.ref f_is_integer_from)))
    (l_is_integer_from : K.lookup f_is_integer_from = some ⟨oc_is_integer_from, od_is_integer_from, .func (PySem.W.fnOf "is_integer_from" "is_integer_from" (defArgs s_is_integer_from) (defBody s_is_integer_from) (defScope s_is_integer_from) .none kV_is_integer_from dc_is_integer_from pm_is_integer_from an_is_integer_from cd_is_integer_from ct_is_integer_from), sl_is_integer_from⟩)
    (c_is_integer_from : PySem.W.codeIn K cd_is_integer_from "is_integer_from" = true)
    (k_is_integer_from : PySem.W.keepIn K (.ref f_is_integer_from) = true)
    (a_Scheme_base : PySem.W.findIn K (.ref C) "base" = some (some (.ref f_Scheme_base)))
    (i_Scheme_base : PySem.W.isFn K (.ref f_Scheme_base) = true)
    (l_Scheme_base : K.lookup f_Scheme_base = some ⟨oc_Scheme_base, od_Scheme_base, .func (PySem.W.fnOf "base" "Scheme.base" (defArgs s_Scheme_base) (defBody s_Scheme_base) (defScope s_Scheme_base) .none kV_Scheme_base dc_Scheme_base pm_Scheme_base an_Scheme_base cd_Scheme_base ct_Scheme_base), sl_Scheme_base⟩)
    (c_Scheme_base : PySem.W.codeIn K cd_Scheme_base "Scheme.base" = true)
    (k_Scheme_base : PySem.W.keepIn K (.ref f_Scheme_base) = true)
    (a_law_lives : PySem.W.nsIn K mainGlobals "_law_lives" = some (some (.ref f_law_lives)))
    (l_law_lives : K.lookup f_law_lives = some ⟨oc_law_lives, od_law_lives, .func (PySem.W.fnOf "_law_lives" "_law_lives" (defArgs s_law_lives) (defBody s_law_lives) (defScope s_law_lives) .none kV_law_lives dc_law_lives pm_law_lives an_law_lives cd_law_lives ct_law_lives), sl_law_lives⟩)
    (c_law_lives : PySem.W.codeIn K cd_law_lives "_law_lives" = true)
    (k_law_lives : PySem.W.keepIn K (.ref f_law_lives) = true)
    (a_law_pow : PySem.W.nsIn K mainGlobals "_law_pow" = some (some (.ref f_law_pow)))
    (l_law_pow : K.lookup f_law_pow = some ⟨oc_law_pow, od_law_pow, .func (PySem.W.fnOf "_law_pow" "_law_pow" (defArgs s_law_pow) (defBody s_law_pow) (defScope s_law_pow) .none kV_law_pow dc_law_pow pm_law_pow an_law_pow cd_law_pow ct_law_pow), sl_law_pow⟩)
    (c_law_pow : PySem.W.codeIn K cd_law_pow "_law_pow" = true)
    (k_law_pow : PySem.W.keepIn K (.ref f_law_pow) = true)
    (a_Change_settled_from : PySem.W.findIn K (.ref Ch) "settled_from" = some (some (.ref f_Change_settled_from)))
    (i_Change_settled_from : PySem.W.isFn K (.ref f_Change_settled_from) = true)
    (l_Change_settled_from : K.lookup f_Change_settled_from = some ⟨oc_Change_settled_from, od_Change_settled_from, .func (PySem.W.fnOf "settled_from" "Change.settled_from" (defArgs s_Change_settled_from) (defBody s_Change_settled_from) (defScope s_Change_settled_from) .none kV_Change_settled_from dc_Change_settled_from pm_Change_settled_from an_Change_settled_from cd_Change_settled_from ct_Change_settled_from), sl_Change_settled_from⟩)
    (c_Change_settled_from : PySem.W.codeIn K cd_Change_settled_from "Change.settled_from" = true)
    (k_Change_settled_from : PySem.W.keepIn K (.ref f_Change_settled_from) = true)
    (a_kept_spans : PySem.W.nsIn K mainGlobals "kept_spans" = some (some (.ref f_kept_spans)))
    (l_kept_spans : K.lookup f_kept_spans = some ⟨oc_kept_spans, od_kept_spans, .func (PySem.W.fnOf "kept_spans" "kept_spans" (defArgs s_kept_spans) (defBody s_kept_spans) (defScope s_kept_spans) .none kV_kept_spans dc_kept_spans pm_kept_spans an_kept_spans cd_kept_spans ct_kept_spans), sl_kept_spans⟩)
    (c_kept_spans : PySem.W.codeIn K cd_kept_spans "kept_spans" = true)
    (k_kept_spans : PySem.W.keepIn K (.ref f_kept_spans) = true)
    (a_Scheme_factor : PySem.W.findIn K (.ref C) "factor" = some (some (.ref f_Scheme_factor)))
    (i_Scheme_factor : PySem.W.isFn K (.ref f_Scheme_factor) = true)
    (l_Scheme_factor : K.lookup f_Scheme_factor = some ⟨oc_Scheme_factor, od_Scheme_factor, .func (PySem.W.fnOf "factor" "Scheme.factor" (defArgs s_Scheme_factor) (defBody s_Scheme_factor) (defScope s_Scheme_factor) .none kV_Scheme_factor dc_Scheme_factor pm_Scheme_factor an_Scheme_factor cd_Scheme_factor ct_Scheme_factor), sl_Scheme_factor⟩)
    (c_Scheme_factor : PySem.W.codeIn K cd_Scheme_factor "Scheme.factor" = true)
    (k_Scheme_factor : PySem.W.keepIn K (.ref f_Scheme_factor) = true)
    (a_places_up_to : PySem.W.nsIn K mainGlobals "places_up_to" = some (some (.ref f_places_up_to)))
    (l_places_up_to : K.lookup f_places_up_to = some ⟨oc_places_up_to, od_places_up_to, .func (PySem.W.fnOf "places_up_to" "places_up_to" (defArgs s_places_up_to) (defBody s_places_up_to) (defScope s_places_up_to) .none kV_places_up_to dc_places_up_to pm_places_up_to an_places_up_to cd_places_up_to ct_places_up_to), sl_places_up_to⟩)
    (c_places_up_to : PySem.W.codeIn K cd_places_up_to "places_up_to" = true)
    (k_places_up_to : PySem.W.keepIn K (.ref f_places_up_to) = true)
    (a_last_apart : PySem.W.nsIn K mainGlobals "last_apart" = some (some (.ref f_last_apart)))
    (l_last_apart : K.lookup f_last_apart = some ⟨oc_last_apart, od_last_apart, .func (PySem.W.fnOf "last_apart" "last_apart" (defArgs s_last_apart) (defBody s_last_apart) (defScope s_last_apart) .none kV_last_apart dc_last_apart pm_last_apart an_last_apart cd_last_apart ct_last_apart), sl_last_apart⟩)
    (c_last_apart : PySem.W.codeIn K cd_last_apart "last_apart" = true)
    (k_last_apart : PySem.W.keepIn K (.ref f_last_apart) = true)
    (a_round_down : PySem.W.nsIn K mainGlobals "round_down" = some (some (.ref f_round_down)))
    (l_round_down : K.lookup f_round_down = some ⟨oc_round_down, od_round_down, .func (PySem.W.fnOf "round_down" "round_down" (defArgs s_round_down) (defBody s_round_down) (defScope s_round_down) .none kV_round_down dc_round_down pm_round_down an_round_down cd_round_down ct_round_down), sl_round_down⟩)
    (c_round_down : PySem.W.codeIn K cd_round_down "round_down" = true)
    (k_round_down : PySem.W.keepIn K (.ref f_round_down) = true)
    (a_law_far_right : PySem.W.nsIn K mainGlobals "_law_far_right" = some (some (.ref f_law_far_right)))
    (l_law_far_right : K.lookup f_law_far_right = some ⟨oc_law_far_right, od_law_far_right, .func (PySem.W.fnOf "_law_far_right" "_law_far_right" (defArgs s_law_far_right) (defBody s_law_far_right) (defScope s_law_far_right) .none kV_law_far_right dc_law_far_right pm_law_far_right an_law_far_right cd_law_far_right ct_law_far_right), sl_law_far_right⟩)
    (c_law_far_right : PySem.W.codeIn K cd_law_far_right "_law_far_right" = true)
    (k_law_far_right : PySem.W.keepIn K (.ref f_law_far_right) = true)
    (a_law_big : PySem.W.nsIn K mainGlobals "_law_big" = some (some (.ref f_law_big)))
    (l_law_big : K.lookup f_law_big = some ⟨oc_law_big, od_law_big, .func (PySem.W.fnOf "_law_big" "_law_big" (defArgs s_law_big) (defBody s_law_big) (defScope s_law_big) .none kV_law_big dc_law_big pm_law_big an_law_big cd_law_big ct_law_big), sl_law_big⟩)
    (c_law_big : PySem.W.codeIn K cd_law_big "_law_big" = true)
    (k_law_big : PySem.W.keepIn K (.ref f_law_big) = true)
    (a_law_pile : PySem.W.nsIn K mainGlobals "_law_pile" = some (some (.ref f_law_pile)))
    (l_law_pile : K.lookup f_law_pile = some ⟨oc_law_pile, od_law_pile, .func (PySem.W.fnOf "_law_pile" "_law_pile" (defArgs s_law_pile) (defBody s_law_pile) (defScope s_law_pile) .none kV_law_pile dc_law_pile pm_law_pile an_law_pile cd_law_pile ct_law_pile), sl_law_pile⟩)
    (c_law_pile : PySem.W.codeIn K cd_law_pile "_law_pile" = true)
    (k_law_pile : PySem.W.keepIn K (.ref f_law_pile) = true)
    (a_Change_next_gone : PySem.W.findIn K (.ref Ch) "next_gone" = some (some (.ref f_Change_next_gone)))
    (i_Change_next_gone : PySem.W.isFn K (.ref f_Change_next_gone) = true)
    (l_Change_next_gone : K.lookup f_Change_next_gone = some ⟨oc_Change_next_gone, od_Change_next_gone, .func (PySem.W.fnOf "next_gone" "Change.next_gone" (defArgs s_Change_next_gone) (defBody s_Change_next_gone) (defScope s_Change_next_gone) .none kV_Change_next_gone dc_Change_next_gone pm_Change_next_gone an_Change_next_gone cd_Change_next_gone ct_Change_next_gone), sl_Change_next_gone⟩)
    (c_Change_next_gone : PySem.W.codeIn K cd_Change_next_gone "Change.next_gone" = true)
    (k_Change_next_gone : PySem.W.keepIn K (.ref f_Change_next_gone) = true)
    (a_check_number : PySem.W.nsIn K mainGlobals "check_number" = some (some (.ref f_check_number)))
    (l_check_number : K.lookup f_check_number = some ⟨oc_check_number, od_check_number, .func (PySem.W.fnOf "check_number" "check_number" (defArgs s_check_number) (defBody s_check_number) (defScope s_check_number) .none kV_check_number dc_check_number pm_check_number an_check_number cd_check_number ct_check_number), sl_check_number⟩)
    (c_check_number : PySem.W.codeIn K cd_check_number "check_number" = true)
    (k_check_number : PySem.W.keepIn K (.ref f_check_number) = true)
    (a_Change_check_later : PySem.W.findIn K (.ref Ch) "check_later" = some (some (.ref f_Change_check_later)))
    (i_Change_check_later : PySem.W.isFn K (.ref f_Change_check_later) = true)
    (l_Change_check_later : K.lookup f_Change_check_later = some ⟨oc_Change_check_later, od_Change_check_later, .func (PySem.W.fnOf "check_later" "Change.check_later" (defArgs s_Change_check_later) (defBody s_Change_check_later) (defScope s_Change_check_later) .none kV_Change_check_later dc_Change_check_later pm_Change_check_later an_Change_check_later cd_Change_check_later ct_Change_check_later), sl_Change_check_later⟩)
    (c_Change_check_later : PySem.W.codeIn K cd_Change_check_later "Change.check_later" = true)
    (k_Change_check_later : PySem.W.keepIn K (.ref f_Change_check_later) = true)
    (a_Change_gone_rows : PySem.W.findIn K (.ref Ch) "gone_rows" = some (some (.ref f_Change_gone_rows)))
    (i_Change_gone_rows : PySem.W.isFn K (.ref f_Change_gone_rows) = true)
    (l_Change_gone_rows : K.lookup f_Change_gone_rows = some ⟨oc_Change_gone_rows, od_Change_gone_rows, .func (PySem.W.fnOf "gone_rows" "Change.gone_rows" (defArgs s_Change_gone_rows) (defBody s_Change_gone_rows) (defScope s_Change_gone_rows) .none kV_Change_gone_rows dc_Change_gone_rows pm_Change_gone_rows an_Change_gone_rows cd_Change_gone_rows ct_Change_gone_rows), sl_Change_gone_rows⟩)
    (c_Change_gone_rows : PySem.W.codeIn K cd_Change_gone_rows "Change.gone_rows" = true)
    (k_Change_gone_rows : PySem.W.keepIn K (.ref f_Change_gone_rows) = true)
    (a_kept_rows : PySem.W.nsIn K mainGlobals "kept_rows" = some (some (.ref f_kept_rows)))
    (l_kept_rows : K.lookup f_kept_rows = some ⟨oc_kept_rows, od_kept_rows, .func (PySem.W.fnOf "kept_rows" "kept_rows" (defArgs s_kept_rows) (defBody s_kept_rows) (defScope s_kept_rows) .none kV_kept_rows dc_kept_rows pm_kept_rows an_kept_rows cd_kept_rows ct_kept_rows), sl_kept_rows⟩)
    (c_kept_rows : PySem.W.codeIn K cd_kept_rows "kept_rows" = true)
    (k_kept_rows : PySem.W.keepIn K (.ref f_kept_rows) = true)
    (a_round_up : PySem.W.nsIn K mainGlobals "round_up" = some (some (.ref f_round_up)))
    (l_round_up : K.lookup f_round_up = some ⟨oc_round_up, od_round_up, .func (PySem.W.fnOf "round_up" "round_up" (defArgs s_round_up) (defBody s_round_up) (defScope s_round_up) .none kV_round_up dc_round_up pm_round_up an_round_up cd_round_up ct_round_up), sl_round_up⟩)
    (c_round_up : PySem.W.codeIn K cd_round_up "round_up" = true)
    (k_round_up : PySem.W.keepIn K (.ref f_round_up) = true)
    (a_cut_rows : PySem.W.nsIn K mainGlobals "cut_rows" = some (some (.ref f_cut_rows)))
    (l_cut_rows : K.lookup f_cut_rows = some ⟨oc_cut_rows, od_cut_rows, .func (PySem.W.fnOf "cut_rows" "cut_rows" (defArgs s_cut_rows) (defBody s_cut_rows) (defScope s_cut_rows) .none kV_cut_rows dc_cut_rows pm_cut_rows an_cut_rows cd_cut_rows ct_cut_rows), sl_cut_rows⟩)
    (c_cut_rows : PySem.W.codeIn K cd_cut_rows "cut_rows" = true)
    (k_cut_rows : PySem.W.keepIn K (.ref f_cut_rows) = true)
    (a_first_apart : PySem.W.nsIn K mainGlobals "first_apart" = some (some (.ref f_first_apart)))
    (l_first_apart : K.lookup f_first_apart = some ⟨oc_first_apart, od_first_apart, .func (PySem.W.fnOf "first_apart" "first_apart" (defArgs s_first_apart) (defBody s_first_apart) (defScope s_first_apart) .none kV_first_apart dc_first_apart pm_first_apart an_first_apart cd_first_apart ct_first_apart), sl_first_apart⟩)
    (c_first_apart : PySem.W.codeIn K cd_first_apart "first_apart" = true)
    (k_first_apart : PySem.W.keepIn K (.ref f_first_apart) = true)
    (a_Change_gone_count : PySem.W.findIn K (.ref Ch) "gone_count" = some (some (.ref f_Change_gone_count)))
    (i_Change_gone_count : PySem.W.isFn K (.ref f_Change_gone_count) = true)
    (l_Change_gone_count : K.lookup f_Change_gone_count = some ⟨oc_Change_gone_count, od_Change_gone_count, .func (PySem.W.fnOf "gone_count" "Change.gone_count" (defArgs s_Change_gone_count) (defBody s_Change_gone_count) (defScope s_Change_gone_count) .none kV_Change_gone_count dc_Change_gone_count pm_Change_gone_count an_Change_gone_count cd_Change_gone_count ct_Change_gone_count), sl_Change_gone_count⟩)
    (c_Change_gone_count : PySem.W.codeIn K cd_Change_gone_count "Change.gone_count" = true)
    (k_Change_gone_count : PySem.W.keepIn K (.ref f_Change_gone_count) = true)
    (a_count_apart : PySem.W.nsIn K mainGlobals "count_apart" = some (some (.ref f_count_apart)))
    (l_count_apart : K.lookup f_count_apart = some ⟨oc_count_apart, od_count_apart, .func (PySem.W.fnOf "count_apart" "count_apart" (defArgs s_count_apart) (defBody s_count_apart) (defScope s_count_apart) .none kV_count_apart dc_count_apart pm_count_apart an_count_apart cd_count_apart ct_count_apart), sl_count_apart⟩)
    (c_count_apart : PySem.W.codeIn K cd_count_apart "count_apart" = true)
    (k_count_apart : PySem.W.keepIn K (.ref f_count_apart) = true)
    (a_count_multiples : PySem.W.nsIn K mainGlobals "count_multiples" = some (some (.ref f_count_multiples)))
    (l_count_multiples : K.lookup f_count_multiples = some ⟨oc_count_multiples, od_count_multiples, .func (PySem.W.fnOf "count_multiples" "count_multiples" (defArgs s_count_multiples) (defBody s_count_multiples) (defScope s_count_multiples) .none kV_count_multiples dc_count_multiples pm_count_multiples an_count_multiples cd_count_multiples ct_count_multiples), sl_count_multiples⟩)
    (c_count_multiples : PySem.W.codeIn K cd_count_multiples "count_multiples" = true)
    (k_count_multiples : PySem.W.keepIn K (.ref f_count_multiples) = true)
    (a_law : PySem.W.nsIn K mainGlobals "law" = some (some (.ref f_law)))
    (l_law : K.lookup f_law = some ⟨oc_law, od_law, .func (PySem.W.fnOf "law" "law" (defArgs s_law) (defBody s_law) (defScope s_law) .none kV_law dc_law pm_law an_law cd_law ct_law), sl_law⟩)
    (c_law : PySem.W.codeIn K cd_law "law" = true)
    (k_law : PySem.W.keepIn K (.ref f_law) = true)
    (z_isinstance : PySem.W.nsIn K mainGlobals "isinstance" = some none)
    (z_int : PySem.W.nsIn K mainGlobals "int" = some none)
    (z_bool : PySem.W.nsIn K mainGlobals "bool" = some none)
    (z_len : PySem.W.nsIn K mainGlobals "len" = some none)
    (z_max : PySem.W.nsIn K mainGlobals "max" = some none)
    (z_all : PySem.W.nsIn K mainGlobals "all" = some none)
    (z_range : PySem.W.nsIn K mainGlobals "range" = some none)
    (z_sorted : PySem.W.nsIn K mainGlobals "sorted" = some none)
    (z_set : PySem.W.nsIn K mainGlobals "set" = some none)
    (z_min : PySem.W.nsIn K mainGlobals "min" = some none)
    (z_enumerate : PySem.W.nsIn K mainGlobals "enumerate" = some none)
    (z_zip : PySem.W.nsIn K mainGlobals "zip" = some none)
    (z_sum : PySem.W.nsIn K mainGlobals "sum" = some none)
    (z_list : PySem.W.nsIn K mainGlobals "list" = some none)
    (z_tuple : PySem.W.nsIn K mainGlobals "tuple" = some none)
    (z_any : PySem.W.nsIn K mainGlobals "any" = some none)
    (z_abs : PySem.W.nsIn K mainGlobals "abs" = some none)
    (z_repr : PySem.W.nsIn K mainGlobals "repr" = some none)
    (z_reversed : PySem.W.nsIn K mainGlobals "reversed" = some none)
    (g_LEAST_BASE : PySem.W.nsIn K mainGlobals "LEAST_BASE" = some (some (.int 2 t_LEAST_BASE)))
    (g_GREATEST_BASE : PySem.W.nsIn K mainGlobals "GREATEST_BASE" = some (some (.int 1000 t_GREATEST_BASE)))
    (g_LEAST_FACTOR : PySem.W.nsIn K mainGlobals "LEAST_FACTOR" = some (some (.int 1 t_LEAST_FACTOR)))
    (g_GREATEST_FACTOR : PySem.W.nsIn K mainGlobals "GREATEST_FACTOR" = some (some (.int 1000000 t_GREATEST_FACTOR)))
    (a_eq : PySem.W.findIn K (.ref C) "__eq__" = some (some (.ref f_eq)))
    (i_eq : PySem.W.isFn K (.ref f_eq) = true)
    (x_ne : PySem.W.findIn K (.ref C) "__ne__" = some (some (.builtin "object.__ne__")))
    (x_k1 : PySem.W.findIn K (.ref C) "__class__" = some (some (.builtin "object.__class__")))
    (x_k2 : PySem.W.specialIn K (.builtin "object.__class__") "__get__" = some (some (.builtin "getset_descriptor.__get__")))
    (x_k3 : PySem.W.takesIn K (.builtin "object.__class__") = some true)
    (x_k4 : PySem.W.mroIn K C (.type "object") = some true) :
    ∃ fd : FuncData, (∀ (s : Shared) (v : Value), BindsTo s fd ⟨[v], []⟩ [("_law_script", v)]) ∧ ∀ base : Heap, K.In base → base.Ns mainGlobals mg → FnOk l.prog w K mg base CX0 17 fa fd ["_law_script"] (sp_law K) := by
  have e := hfa.symm.trans (PySem.W.mg_of X G a_law)
  cases e
  have F_law_well := fun_mk (st := s_law_well) l_law_well c_law_well k_law_well
  have b_law_well := F_law_well.binds (ps := ["_law_cell"]) fun _ _ _ _ _ _ us hl => match us, hl with | [_], _ => rfl
  have F_law_right := fun_mk (st := s_law_right) l_law_right c_law_right k_law_right
  have b_law_right := F_law_right.binds (ps := ["_law_well_here"]) fun _ _ _ _ _ _ us hl => match us, hl with | [_], _ => rfl
  have F_law_near_right := fun_mk (st := s_law_near_right) l_law_near_right c_law_near_right k_law_near_right
  have b_law_near_right := F_law_near_right.binds (ps := ["_law_well_here"]) fun _ _ _ _ _ _ us hl => match us, hl with | [_], _ => rfl
  have F_law_draw := fun_mk (st := s_law_draw) l_law_draw c_law_draw k_law_draw
  have b_law_draw := F_law_draw.binds (ps := ["_law_well_here", "_law_many"]) fun _ _ _ _ _ _ us hl => match us, hl with | [_, _], _ => rfl
  have F_law_mixed := fun_mk (st := s_law_mixed) l_law_mixed c_law_mixed k_law_mixed
  have b_law_mixed := F_law_mixed.binds (ps := ["_law_cell", "_law_k"]) fun _ _ _ _ _ _ us hl => match us, hl with | [_, _], _ => rfl
  have F_law_swap := fun_mk (st := s_law_swap) l_law_swap c_law_swap k_law_swap
  have b_law_swap := F_law_swap.binds (ps := ["_law_well_here", "_law_many"]) fun _ _ _ _ _ _ us hl => match us, hl with | [_, _], _ => rfl
  have F_law_one := fun_mk (st := s_law_one) l_law_one c_law_one k_law_one
  have b_law_one := F_law_one.binds (ps := ["_law_well_here", "_law_some"]) fun _ _ _ _ _ _ us hl => match us, hl with | [_, _], _ => rfl
  have F_law_shift := fun_mk (st := s_law_shift) l_law_shift c_law_shift k_law_shift
  have b_law_shift := F_law_shift.binds (ps := ["_law_plans", "_law_clock"]) fun _ _ _ _ _ _ us hl => match us, hl with | [_, _], _ => rfl
  have F_Scheme__init := fun_mk (st := s_Scheme___init__) l_Scheme__init c_Scheme__init k_Scheme__init
  have b_Scheme__init := F_Scheme__init.binds (ps := ["self", "base", "factor"]) fun _ _ _ _ _ _ us hl => match us, hl with | [_, _, _], _ => rfl
  have F_is_integer_between := fun_mk (st := s_is_integer_between) l_is_integer_between c_is_integer_between k_is_integer_between
  have b_is_integer_between := F_is_integer_between.binds (ps := ["value", "least", "greatest"]) fun _ _ _ _ _ _ us hl => match us, hl with | [_, _, _], _ => rfl
  have F_is_integer := fun_mk (st := s_is_integer) l_is_integer c_is_integer k_is_integer
  have b_is_integer := F_is_integer.binds (ps := ["value"]) fun _ _ _ _ _ _ us hl => match us, hl with | [_], _ => rfl
  have F_Change__init := fun_mk (st := s_Change___init__) l_Change__init c_Change__init k_Change__init
  have b_Change__init := F_Change__init.binds (ps := ["self", "old", "new", "time"]) fun _ _ _ _ _ _ us hl => match us, hl with | [_, _, _, _], _ => rfl
  have F_is_power := fun_mk (st := s_is_power) l_is_power c_is_power k_is_power
  have b_is_power := F_is_power.binds (ps := ["base", "number"]) fun _ _ _ _ _ _ us hl => match us, hl with | [_, _], _ => rfl
  have F_check_time := fun_mk (st := s_check_time) l_check_time c_check_time k_check_time
  have b_check_time := F_check_time.binds (ps := ["time"]) fun _ _ _ _ _ _ us hl => match us, hl with | [_], _ => rfl
  have F_is_integer_from := fun_mk (st := s_is_integer_from) l_is_integer_from c_is_integer_from k_is_integer_from
  have b_is_integer_from := F_is_integer_from.binds (ps := ["value", "least"]) fun _ _ _ _ _ _ us hl => match us, hl with | [_, _], _ => rfl
  have F_Scheme_base := fun_mk (st := s_Scheme_base) l_Scheme_base c_Scheme_base k_Scheme_base
  have b_Scheme_base := F_Scheme_base.binds (ps := ["self"]) fun _ _ _ _ _ _ us hl => match us, hl with | [_], _ => rfl
  have F_law_lives := fun_mk (st := s_law_lives) l_law_lives c_law_lives k_law_lives
  have b_law_lives := F_law_lives.binds (ps := ["_law_plan", "_law_figure", "_law_clock"]) fun _ _ _ _ _ _ us hl => match us, hl with | [_, _, _], _ => rfl
  have F_law_pow := fun_mk (st := s_law_pow) l_law_pow c_law_pow k_law_pow
  have b_law_pow := F_law_pow.binds (ps := ["_law_base", "_law_figure"]) fun _ _ _ _ _ _ us hl => match us, hl with | [_, _], _ => rfl
  have F_Change_settled_from := fun_mk (st := s_Change_settled_from) l_Change_settled_from c_Change_settled_from k_Change_settled_from
  have b_Change_settled_from := F_Change_settled_from.binds (ps := ["self"]) fun _ _ _ _ _ _ us hl => match us, hl with | [_], _ => rfl
  have F_kept_spans := fun_mk (st := s_kept_spans) l_kept_spans c_kept_spans k_kept_spans
  have b_kept_spans := F_kept_spans.binds (ps := ["scheme", "time"]) fun _ _ _ _ _ _ us hl => match us, hl with | [_, _], _ => rfl
  have F_Scheme_factor := fun_mk (st := s_Scheme_factor) l_Scheme_factor c_Scheme_factor k_Scheme_factor
  have b_Scheme_factor := F_Scheme_factor.binds (ps := ["self"]) fun _ _ _ _ _ _ us hl => match us, hl with | [_], _ => rfl
  have F_places_up_to := fun_mk (st := s_places_up_to) l_places_up_to c_places_up_to k_places_up_to
  have b_places_up_to := F_places_up_to.binds (ps := ["base", "most"]) fun _ _ _ _ _ _ us hl => match us, hl with | [_, _], _ => rfl
  have F_last_apart := fun_mk (st := s_last_apart) l_last_apart c_last_apart k_last_apart
  have b_last_apart := F_last_apart.binds (ps := ["high", "step", "greater"]) fun _ _ _ _ _ _ us hl => match us, hl with | [_, _, _], _ => rfl
  have F_round_down := fun_mk (st := s_round_down) l_round_down c_round_down k_round_down
  have b_round_down := F_round_down.binds (ps := ["number", "step"]) fun _ _ _ _ _ _ us hl => match us, hl with | [_, _], _ => rfl
  have F_law_far_right := fun_mk (st := s_law_far_right) l_law_far_right c_law_far_right k_law_far_right
  have b_law_far_right := F_law_far_right.binds (ps := ["_law_well_here"]) fun _ _ _ _ _ _ us hl => match us, hl with | [_], _ => rfl
  have F_law_big := fun_mk (st := s_law_big) l_law_big c_law_big k_law_big
  have b_law_big := F_law_big.binds (ps := ["_law_well_here"]) fun _ _ _ _ _ _ us hl => match us, hl with | [_], _ => rfl
  have F_law_pile := fun_mk (st := s_law_pile) l_law_pile c_law_pile k_law_pile
  have b_law_pile := F_law_pile.binds (ps := ["_law_base", "_law_count"]) fun _ _ _ _ _ _ us hl => match us, hl with | [_, _], _ => rfl
  have F_Change_next_gone := fun_mk (st := s_Change_next_gone) l_Change_next_gone c_Change_next_gone k_Change_next_gone
  have b_Change_next_gone := F_Change_next_gone.binds (ps := ["self", "number", "time"]) fun _ _ _ _ _ _ us hl => match us, hl with | [_, _, _], _ => rfl
  have F_check_number := fun_mk (st := s_check_number) l_check_number c_check_number k_check_number
  have b_check_number := F_check_number.binds (ps := ["number"]) fun _ _ _ _ _ _ us hl => match us, hl with | [_], _ => rfl
  have F_Change_check_later := fun_mk (st := s_Change_check_later) l_Change_check_later c_Change_check_later k_Change_check_later
  have b_Change_check_later := F_Change_check_later.binds (ps := ["self", "time"]) fun _ _ _ _ _ _ us hl => match us, hl with | [_, _], _ => rfl
  have F_Change_gone_rows := fun_mk (st := s_Change_gone_rows) l_Change_gone_rows c_Change_gone_rows k_Change_gone_rows
  have b_Change_gone_rows := F_Change_gone_rows.binds (ps := ["self", "time"]) fun _ _ _ _ _ _ us hl => match us, hl with | [_, _], _ => rfl
  have F_kept_rows := fun_mk (st := s_kept_rows) l_kept_rows c_kept_rows k_kept_rows
  have b_kept_rows := F_kept_rows.binds (ps := ["scheme", "time"]) fun _ _ _ _ _ _ us hl => match us, hl with | [_, _], _ => rfl
  have F_round_up := fun_mk (st := s_round_up) l_round_up c_round_up k_round_up
  have b_round_up := F_round_up.binds (ps := ["number", "step"]) fun _ _ _ _ _ _ us hl => match us, hl with | [_, _], _ => rfl
  have F_cut_rows := fun_mk (st := s_cut_rows) l_cut_rows c_cut_rows k_cut_rows
  have b_cut_rows := F_cut_rows.binds (ps := ["rows", "low", "high"]) fun _ _ _ _ _ _ us hl => match us, hl with | [_, _, _], _ => rfl
  have F_first_apart := fun_mk (st := s_first_apart) l_first_apart c_first_apart k_first_apart
  have b_first_apart := F_first_apart.binds (ps := ["low", "step", "greater"]) fun _ _ _ _ _ _ us hl => match us, hl with | [_, _, _], _ => rfl
  have F_Change_gone_count := fun_mk (st := s_Change_gone_count) l_Change_gone_count c_Change_gone_count k_Change_gone_count
  have b_Change_gone_count := F_Change_gone_count.binds (ps := ["self", "time"]) fun _ _ _ _ _ _ us hl => match us, hl with | [_, _], _ => rfl
  have F_count_apart := fun_mk (st := s_count_apart) l_count_apart c_count_apart k_count_apart
  have b_count_apart := F_count_apart.binds (ps := ["low", "high", "step", "greater"]) fun _ _ _ _ _ _ us hl => match us, hl with | [_, _, _, _], _ => rfl
  have F_count_multiples := fun_mk (st := s_count_multiples) l_count_multiples c_count_multiples k_count_multiples
  have b_count_multiples := F_count_multiples.binds (ps := ["low", "high", "step"]) fun _ _ _ _ _ _ us hl => match us, hl with | [_, _, _], _ => rfl
  have F_law := fun_mk (st := s_law) l_law c_law k_law
  have T : Txt K mg C := { cl := ⟨pg_C, hd_C, po_C, sa_C⟩, nB := na_C_base_value, nF := na_C_factor_value, m_Scheme := PySem.W.mg_of X G aC_C, b_isinstance := PySem.W.mg_none_of X G z_isinstance, b_int := PySem.W.mg_none_of X G z_int, b_bool := PySem.W.mg_none_of X G z_bool, b_len := PySem.W.mg_none_of X G z_len, b_max := PySem.W.mg_none_of X G z_max, b_all := PySem.W.mg_none_of X G z_all, b_range := PySem.W.mg_none_of X G z_range, b_sorted := PySem.W.mg_none_of X G z_sorted, b_set := PySem.W.mg_none_of X G z_set, b_min := PySem.W.mg_none_of X G z_min, b_enumerate := PySem.W.mg_none_of X G z_enumerate, b_zip := PySem.W.mg_none_of X G z_zip, b_sum := PySem.W.mg_none_of X G z_sum, b_list := PySem.W.mg_none_of X G z_list, b_tuple := PySem.W.mg_none_of X G z_tuple, b_any := PySem.W.mg_none_of X G z_any, b_abs := PySem.W.mg_none_of X G z_abs, b_repr := PySem.W.mg_none_of X G z_repr, b_reversed := PySem.W.mg_none_of X G z_reversed, g_LEAST_BASE := ⟨_, PySem.W.mg_of X G g_LEAST_BASE⟩, g_GREATEST_BASE := ⟨_, PySem.W.mg_of X G g_GREATEST_BASE⟩, g_LEAST_FACTOR := ⟨_, PySem.W.mg_of X G g_LEAST_FACTOR⟩, g_GREATEST_FACTOR := ⟨_, PySem.W.mg_of X G g_GREATEST_FACTOR⟩, eqf := ⟨_, a_eq, i_eq⟩, nef := x_ne, k1 := x_k1, k2 := x_k2, k3 := x_k3, k4 := x_k4 }
  have TD : TxtD K mg Ch := { cl := ⟨pg_Ch, hd_Ch, po_Ch, sa_Ch⟩, n0 := na_Ch_old_scheme, n1 := na_Ch_new_scheme, n2 := na_Ch_change_time }
  refine ⟨PySem.W.fnOf "law" "law" (defArgs s_law) (defBody s_law) (defScope s_law) .none kV_law dc_law pm_law an_law cd_law ct_law, fun s v => .of_eq rfl, fun base _ _ => ?_⟩
  have C_law_well_ok_well : CalF l.prog w K mg base 1 "_law_well" ["_law_cell"] sp_well := ⟨_, _, ok_well F_law_well T, PySem.W.mg_of X G a_law_well, k_law_well, b_law_well⟩
  have C_law_mixed_ok_mixed : CalF l.prog w K mg base 1 "_law_mixed" ["_law_cell", "_law_k"] sp_mixed := ⟨_, _, ok_mixed F_law_mixed T, PySem.W.mg_of X G a_law_mixed, k_law_mixed, b_law_mixed⟩
  have C_law_draw_ok_drawC : CalF l.prog w K mg base 2 "_law_draw" ["_law_well_here", "_law_many"] sp_drawC := ⟨_, _, ok_drawC F_law_draw T C_law_mixed_ok_mixed, PySem.W.mg_of X G a_law_draw, k_law_draw, b_law_draw⟩
  have C_law_one_ok_oneC : CalF l.prog w K mg base 3 "_law_one" ["_law_well_here", "_law_some"] sp_oneC := ⟨_, _, ok_oneC F_law_one T C_law_draw_ok_drawC, PySem.W.mg_of X G a_law_one, k_law_one, b_law_one⟩
  have C_law_swap_ok_swap : CalF l.prog w K mg base 4 "_law_swap" ["_law_well_here", "_law_many"] sp_swap := ⟨_, _, ok_swap F_law_swap T C_law_draw_ok_drawC C_law_one_ok_oneC, PySem.W.mg_of X G a_law_swap, k_law_swap, b_law_swap⟩
  have C_is_integer_ok_is_integer : CalF l.prog w K mg base 1 "is_integer" ["value"] sp_is_integer := ⟨_, _, ok_is_integer F_is_integer T, PySem.W.mg_of X G a_is_integer, k_is_integer, b_is_integer⟩
  have C_is_integer_between_ok_between : CalF l.prog w K mg base 2 "is_integer_between" ["value", "least", "greatest"] sp_between := ⟨_, _, ok_between F_is_integer_between T C_is_integer_ok_is_integer, PySem.W.mg_of X G a_is_integer_between, k_is_integer_between, b_is_integer_between⟩
  have M : Mk K C f_Scheme__init := ⟨mk_C, a_Scheme__init, i_Scheme__init, kc_C⟩
  have C_make : CalC l.prog w K mg base 3 "Scheme" C ["self", "base", "factor"] (sp_init C) := ⟨⟨_, _, ok_init F_Scheme__init T C_is_integer_between_ok_between, M, b_Scheme__init⟩, PySem.W.mg_of X G aC_C⟩
  have C_is_power_ok_ispow : CalF l.prog w K mg base 1 "is_power" ["base", "number"] sp_ispow := ⟨_, _, ok_ispow F_is_power T, PySem.W.mg_of X G a_is_power, k_is_power, b_is_power⟩
  have C_is_integer_from_ok_from : CalF l.prog w K mg base 2 "is_integer_from" ["value", "least"] sp_from := ⟨_, _, ok_from F_is_integer_from T C_is_integer_ok_is_integer, PySem.W.mg_of X G a_is_integer_from, k_is_integer_from, b_is_integer_from⟩
  have C_check_time_ok_time : CalF l.prog w K mg base 3 "check_time" ["time"] sp_check := ⟨_, _, ok_time F_check_time T C_is_integer_from_ok_from, PySem.W.mg_of X G a_check_time, k_check_time, b_check_time⟩
  have C_Scheme_base_ok_base : CalM l.prog w K mg base 1 C "base" ["self"] (sp_base C) := ⟨⟨_, _, ok_base F_Scheme_base T, ⟨a_Scheme_base, i_Scheme_base, k_Scheme_base⟩, b_Scheme_base⟩, T.cl⟩
  have MD : Mk K Ch f_Change__init := ⟨mk_Ch, a_Change__init, i_Change__init, kc_Ch⟩
  have C_makeD : CalC l.prog w K mg base 4 "Change" Ch ["self", "old", "new", "time"] (sp_cinit C Ch) := ⟨⟨_, _, ok_cinit F_Change__init T TD C_is_power_ok_ispow C_check_time_ok_time C_Scheme_base_ok_base, MD, b_Change__init⟩, PySem.W.mg_of X G aC_Ch⟩
  have C_law_shift_ok_shift : CalF l.prog w K mg base 6 "_law_shift" ["_law_plans", "_law_clock"] (sp_shift C Ch) := ⟨_, _, ok_shift F_law_shift T TD C_make C_makeD, PySem.W.mg_of X G a_law_shift, k_law_shift, b_law_shift⟩
  have C_law_pow_ok_powC : CalF l.prog w K mg base 1 "_law_pow" ["_law_base", "_law_figure"] sp_lowest := ⟨_, _, ok_powC F_law_pow T, PySem.W.mg_of X G a_law_pow, k_law_pow, b_law_pow⟩
  have C_law_lives_ok_livesC : CalF l.prog w K mg base 2 "_law_lives" ["_law_plan", "_law_figure", "_law_clock"] sp_livesC := ⟨_, _, ok_livesC F_law_lives T C_law_pow_ok_powC, PySem.W.mg_of X G a_law_lives, k_law_lives, b_law_lives⟩
  have C_Scheme_factor_ok_factor : CalM l.prog w K mg base 1 C "factor" ["self"] (sp_factor C) := ⟨⟨_, _, ok_factor F_Scheme_factor T, ⟨a_Scheme_factor, i_Scheme_factor, k_Scheme_factor⟩, b_Scheme_factor⟩, T.cl⟩
  have C_kept_spans_ok_kspans : CalF l.prog w K mg base 2 "kept_spans" ["scheme", "time"] (sp_kspans C) := ⟨_, _, ok_kspans F_kept_spans T C_Scheme_base_ok_base C_Scheme_factor_ok_factor, PySem.W.mg_of X G a_kept_spans, k_kept_spans, b_kept_spans⟩
  have C_places_up_to_ok_places : CalF l.prog w K mg base 1 "places_up_to" ["base", "most"] sp_places := ⟨_, _, ok_places F_places_up_to T, PySem.W.mg_of X G a_places_up_to, k_places_up_to, b_places_up_to⟩
  have C_round_down_ok_rdn : CalF l.prog w K mg base 1 "round_down" ["number", "step"] sp_rdn := ⟨_, _, ok_rdn F_round_down T, PySem.W.mg_of X G a_round_down, k_round_down, b_round_down⟩
  have C_last_apart_ok_lapt : CalF l.prog w K mg base 2 "last_apart" ["high", "step", "greater"] sp_lapt := ⟨_, _, ok_lapt F_last_apart T C_round_down_ok_rdn, PySem.W.mg_of X G a_last_apart, k_last_apart, b_last_apart⟩
  have C_Change_settled_from_ok_settled : CalM l.prog w K mg base 3 Ch "settled_from" ["self"] (sp_settled C Ch) := ⟨⟨_, _, ok_settled F_Change_settled_from T TD C_kept_spans_ok_kspans C_places_up_to_ok_places C_last_apart_ok_lapt C_Scheme_base_ok_base C_Scheme_factor_ok_factor, ⟨a_Change_settled_from, i_Change_settled_from, k_Change_settled_from⟩, b_Change_settled_from⟩, TD.cl⟩
  have C_law_near_right_ok_nearR : CalF l.prog w K mg base 7 "_law_near_right" ["_law_well_here"] sp_nearR := ⟨_, _, ok_nearR F_law_near_right T TD C_law_draw_ok_drawC C_law_swap_ok_swap C_law_shift_ok_shift C_law_lives_ok_livesC C_law_pow_ok_powC C_Change_settled_from_ok_settled, PySem.W.mg_of X G a_law_near_right, k_law_near_right, b_law_near_right⟩
  have C_law_pile_ok_pile : CalF l.prog w K mg base 1 "_law_pile" ["_law_base", "_law_count"] sp_pile := ⟨_, _, ok_pile F_law_pile T, PySem.W.mg_of X G a_law_pile, k_law_pile, b_law_pile⟩
  have C_law_big_ok_big : CalF l.prog w K mg base 3 "_law_big" ["_law_well_here"] sp_big := ⟨_, _, ok_big F_law_big T C_law_draw_ok_drawC C_law_pile_ok_pile, PySem.W.mg_of X G a_law_big, k_law_big, b_law_big⟩
  have C_check_number_ok_check : CalF l.prog w K mg base 3 "check_number" ["number"] sp_check := ⟨_, _, ok_check F_check_number T C_is_integer_from_ok_from, PySem.W.mg_of X G a_check_number, k_check_number, b_check_number⟩
  have C_Change_check_later_ok_clater : CalM l.prog w K mg base 3 Ch "check_later" ["self", "time"] (sp_clater C Ch) := ⟨⟨_, _, ok_clater F_Change_check_later T TD C_is_integer_from_ok_from, ⟨a_Change_check_later, i_Change_check_later, k_Change_check_later⟩, b_Change_check_later⟩, TD.cl⟩
  have C_round_up_ok_rup : CalF l.prog w K mg base 1 "round_up" ["number", "step"] sp_rup := ⟨_, _, ok_rup F_round_up T, PySem.W.mg_of X G a_round_up, k_round_up, b_round_up⟩
  have C_kept_rows_ok_krowsP : CalF l.prog w K mg base 3 "kept_rows" ["scheme", "time"] (sp_krowsP C) := ⟨_, _, ok_krowsP F_kept_rows T C_kept_spans_ok_kspans C_round_up_ok_rup C_round_down_ok_rdn, PySem.W.mg_of X G a_kept_rows, k_kept_rows, b_kept_rows⟩
  have C_cut_rows_ok_cutP : CalF l.prog w K mg base 2 "cut_rows" ["rows", "low", "high"] sp_cutP := ⟨_, _, ok_cutP F_cut_rows T C_round_up_ok_rup C_round_down_ok_rdn, PySem.W.mg_of X G a_cut_rows, k_cut_rows, b_cut_rows⟩
  have C_Change_gone_rows_ok_grows : CalM l.prog w K mg base 4 Ch "gone_rows" ["self", "time"] (sp_grows C Ch) := ⟨⟨_, _, ok_grows F_Change_gone_rows T TD C_kept_spans_ok_kspans C_kept_rows_ok_krowsP C_cut_rows_ok_cutP, ⟨a_Change_gone_rows, i_Change_gone_rows, k_Change_gone_rows⟩, b_Change_gone_rows⟩, TD.cl⟩
  have C_first_apart_ok_fapt : CalF l.prog w K mg base 2 "first_apart" ["low", "step", "greater"] sp_fapt := ⟨_, _, ok_fapt F_first_apart T C_round_up_ok_rup, PySem.W.mg_of X G a_first_apart, k_first_apart, b_first_apart⟩
  have C_Change_next_gone_ok_ngone : CalM l.prog w K mg base 5 Ch "next_gone" ["self", "number", "time"] (sp_ngone C Ch) := ⟨⟨_, _, ok_ngone F_Change_next_gone T TD C_check_number_ok_check C_Change_check_later_ok_clater C_Change_gone_rows_ok_grows C_first_apart_ok_fapt, ⟨a_Change_next_gone, i_Change_next_gone, k_Change_next_gone⟩, b_Change_next_gone⟩, TD.cl⟩
  have C_count_multiples_ok_cmul : CalF l.prog w K mg base 1 "count_multiples" ["low", "high", "step"] sp_cmul := ⟨_, _, ok_cmul F_count_multiples T, PySem.W.mg_of X G a_count_multiples, k_count_multiples, b_count_multiples⟩
  have C_count_apart_ok_capt : CalF l.prog w K mg base 2 "count_apart" ["low", "high", "step", "greater"] sp_capt := ⟨_, _, ok_capt F_count_apart T C_count_multiples_ok_cmul, PySem.W.mg_of X G a_count_apart, k_count_apart, b_count_apart⟩
  have C_Change_gone_count_ok_gcount : CalM l.prog w K mg base 5 Ch "gone_count" ["self", "time"] (sp_gcount C Ch) := ⟨⟨_, _, ok_gcount F_Change_gone_count T TD C_Change_check_later_ok_clater C_Change_gone_rows_ok_grows C_count_apart_ok_capt, ⟨a_Change_gone_count, i_Change_gone_count, k_Change_gone_count⟩, b_Change_gone_count⟩, TD.cl⟩
  have C_law_far_right_ok_farR : CalF l.prog w K mg base 7 "_law_far_right" ["_law_well_here"] sp_nearR := ⟨_, _, ok_farR F_law_far_right T TD C_law_draw_ok_drawC C_law_one_ok_oneC C_law_big_ok_big C_law_swap_ok_swap C_law_shift_ok_shift C_Change_settled_from_ok_settled C_Change_next_gone_ok_ngone C_Change_gone_count_ok_gcount, PySem.W.mg_of X G a_law_far_right, k_law_far_right, b_law_far_right⟩
  have C_law_right_ok_rightS : CalF l.prog w K mg base 8 "_law_right" ["_law_well_here"] sp_rightC := ⟨_, _, ok_rightS F_law_right T C_law_near_right_ok_nearR C_law_far_right_ok_farR, PySem.W.mg_of X G a_law_right, k_law_right, b_law_right⟩
  exact ok_lawC F_law T C_law_well_ok_well (C_law_right_ok_rightS.mono (by decide))
theorem walk {l : PySem.W.OpenLaw} {q : Program} {loose : List Str} {XP : (Str → Option Value) → Heap → Prop} {YP : World → Heap → Prop} {d : DefRec} {K : Params → PySem.W.Frag} (hn : l.most = some 63) (hdf : d.params.defaults = [])
    (hY : ∀ (w : World) (h : Heap), YP w h → (K w.params).In h)
    (F : ∀ (w : World) (mg : Str → Option Value) (fa : Addr) (h : Heap), (K w.params).In h → h.Ns mainGlobals mg → mg d.name = some (.ref fa) →
      ∃ fd : FuncData, (∀ (s : Shared) (u : Value), BindsTo s fd ⟨[u], []⟩ [("_law_script", u)]) ∧ ∀ base : Heap, (K w.params).In base → base.Ns mainGlobals mg → FnOk l.prog w (K w.params) mg base CX0 17 fa fd ["_law_script"] (sp_law (K w.params))) :
    PySem.W.WalkO q loose XP YP l.row.toRowW d [] (fun f vs => PySem.call f vs) :=
  L2.walk_of (n := 63) (k := 17) (x := "_law_script") (CX := fun _ => CX0) (sp := fun w => sp_law (K w.params)) hn (by decide) hdf ⟨rfl, by decide, by decide⟩ hY F (fun _ _ a ns hl _ hS => ⟨a, ns, rfl, hS, hl, fun _ => rfl⟩) fun _ _ _ _ _ z => z
end My
open PySem PySem.W PyProof.Rows
set_option maxRecDepth 100000 in
set_option maxHeartbeats 0 in
theorem PySem.Challenge.cw_snapdigits_k56_settled_times_holds : PySem.Challenge.rw_snapdigits_k56_settled_times.Holds := by
  w_on; o_law; k_head; (case hw => w_witness2)
  k_fill
  refine My.walk (l := PySem.Challenge.rw_snapdigits_k56_settled_times) rfl rfl (fun w h Y => PySem.W.kIn_of Y) ?F
  case F =>
    intro w mg fa h KX G hmg
    refine' My.all_mk KX G hmg ?aC_C ?pg_C ?hd_C ?po_C ?sa_C ?mk_C ?kc_C ?aC_Ch ?pg_Ch ?hd_Ch ?po_Ch ?sa_Ch ?mk_Ch ?kc_Ch ?na_C_base_value ?na_C_factor_value ?na_Ch_old_scheme ?na_Ch_new_scheme ?na_Ch_change_time ?a_law_well ?l_law_well ?c_law_well ?k_law_well ?a_law_right ?l_law_right ?c_law_right ?k_law_right ?a_law_near_right ?l_law_near_right ?c_law_near_right ?k_law_near_right ?a_law_draw ?l_law_draw ?c_law_draw ?k_law_draw ?a_law_mixed ?l_law_mixed ?c_law_mixed ?k_law_mixed ?a_law_swap ?l_law_swap ?c_law_swap ?k_law_swap ?a_law_one ?l_law_one ?c_law_one ?k_law_one ?a_law_shift ?l_law_shift ?c_law_shift ?k_law_shift ?a_Scheme__init ?i_Scheme__init ?l_Scheme__init ?c_Scheme__init ?k_Scheme__init ?a_is_integer_between ?l_is_integer_between ?c_is_integer_between ?k_is_integer_between ?a_is_integer ?l_is_integer ?c_is_integer ?k_is_integer ?a_Change__init ?i_Change__init ?l_Change__init ?c_Change__init ?k_Change__init ?a_is_power ?l_is_power ?c_is_power ?k_is_power ?a_check_time ?l_check_time ?c_check_time ?k_check_time ?a_is_integer_from ?l_is_integer_from ?c_is_integer_from ?k_is_integer_from ?a_Scheme_base ?i_Scheme_base ?l_Scheme_base ?c_Scheme_base ?k_Scheme_base ?a_law_lives ?l_law_lives ?c_law_lives ?k_law_lives ?a_law_pow ?l_law_pow ?c_law_pow ?k_law_pow ?a_Change_settled_from ?i_Change_settled_from ?l_Change_settled_from ?c_Change_settled_from ?k_Change_settled_from ?a_kept_spans ?l_kept_spans ?c_kept_spans ?k_kept_spans ?a_Scheme_factor ?i_Scheme_factor ?l_Scheme_factor ?c_Scheme_factor ?k_Scheme_factor ?a_places_up_to ?l_places_up_to ?c_places_up_to ?k_places_up_to ?a_last_apart ?l_last_apart ?c_last_apart ?k_last_apart ?a_round_down ?l_round_down ?c_round_down ?k_round_down ?a_law_far_right ?l_law_far_right ?c_law_far_right ?k_law_far_right ?a_law_big ?l_law_big ?c_law_big ?k_law_big ?a_law_pile ?l_law_pile ?c_law_pile ?k_law_pile ?a_Change_next_gone ?i_Change_next_gone ?l_Change_next_gone ?c_Change_next_gone ?k_Change_next_gone ?a_check_number ?l_check_number ?c_check_number ?k_check_number ?a_Change_check_later ?i_Change_check_later ?l_Change_check_later ?c_Change_check_later ?k_Change_check_later ?a_Change_gone_rows ?i_Change_gone_rows ?l_Change_gone_rows ?c_Change_gone_rows ?k_Change_gone_rows ?a_kept_rows ?l_kept_rows ?c_kept_rows ?k_kept_rows ?a_round_up ?l_round_up ?c_round_up ?k_round_up ?a_cut_rows ?l_cut_rows ?c_cut_rows ?k_cut_rows ?a_first_apart ?l_first_apart ?c_first_apart ?k_first_apart ?a_Change_gone_count ?i_Change_gone_count ?l_Change_gone_count ?c_Change_gone_count ?k_Change_gone_count ?a_count_apart ?l_count_apart ?c_count_apart ?k_count_apart ?a_count_multiples ?l_count_multiples ?c_count_multiples ?k_count_multiples ?a_law ?l_law ?c_law ?k_law ?z_isinstance ?z_int ?z_bool ?z_len ?z_max ?z_all ?z_range ?z_sorted ?z_set ?z_min ?z_enumerate ?z_zip ?z_sum ?z_list ?z_tuple ?z_any ?z_abs ?z_repr ?z_reversed ?g_LEAST_BASE ?g_GREATEST_BASE ?g_LEAST_FACTOR ?g_GREATEST_FACTOR ?a_eq ?i_eq ?x_ne ?x_k1 ?x_k2 ?x_k3 ?x_k4
    (case aC_C => k_is)
    (case pg_C => k_is)
    (case hd_C => k_is)
    (case po_C => k_is)
    (case sa_C => k_is)
    (case mk_C => k_is)
    (case kc_C => k_is)
    (case aC_Ch => k_is)
    (case pg_Ch => k_is)
    (case hd_Ch => k_is)
    (case po_Ch => k_is)
    (case sa_Ch => k_is)
    (case mk_Ch => k_is)
    (case kc_Ch => k_is)
    (case na_C_base_value => k_is)
    (case na_C_factor_value => k_is)
    (case na_Ch_old_scheme => k_is)
    (case na_Ch_new_scheme => k_is)
    (case na_Ch_change_time => k_is)
    (case a_law_well => k_is)
    (case l_law_well => k_is)
    (case c_law_well => k_is)
    (case k_law_well => k_is)
    (case a_law_right => k_is)
    (case l_law_right => k_is)
    (case c_law_right => k_is)
    (case k_law_right => k_is)
    (case a_law_near_right => k_is)
    (case l_law_near_right => k_is)
    (case c_law_near_right => k_is)
    (case k_law_near_right => k_is)
    (case a_law_draw => k_is)
    (case l_law_draw => k_is)
    (case c_law_draw => k_is)
    (case k_law_draw => k_is)
    (case a_law_mixed => k_is)
    (case l_law_mixed => k_is)
    (case c_law_mixed => k_is)
    (case k_law_mixed => k_is)
    (case a_law_swap => k_is)
    (case l_law_swap => k_is)
    (case c_law_swap => k_is)
    (case k_law_swap => k_is)
    (case a_law_one => k_is)
    (case l_law_one => k_is)
    (case c_law_one => k_is)
    (case k_law_one => k_is)
    (case a_law_shift => k_is)
    (case l_law_shift => k_is)
    (case c_law_shift => k_is)
    (case k_law_shift => k_is)
    (case a_Scheme__init => k_is)
    (case i_Scheme__init => k_is)
    (case l_Scheme__init => k_is)
    (case c_Scheme__init => k_is)
    (case k_Scheme__init => k_is)
    (case a_is_integer_between => k_is)
    (case l_is_integer_between => k_is)
    (case c_is_integer_between => k_is)
    (case k_is_integer_between => k_is)
    (case a_is_integer => k_is)
    (case l_is_integer => k_is)
    (case c_is_integer => k_is)
    (case k_is_integer => k_is)
    (case a_Change__init => k_is)
    (case i_Change__init => k_is)
    (case l_Change__init => k_is)
    (case c_Change__init => k_is)
    (case k_Change__init => k_is)
    (case a_is_power => k_is)
    (case l_is_power => k_is)
    (case c_is_power => k_is)
    (case k_is_power => k_is)
    (case a_check_time => k_is)
    (case l_check_time => k_is)
    (case c_check_time => k_is)
    (case k_check_time => k_is)
    (case a_is_integer_from => k_is)
    (case l_is_integer_from => k_is)
    (case c_is_integer_from => k_is)
    (case k_is_integer_from => k_is)
    (case a_Scheme_base => k_is)
    (case i_Scheme_base => k_is)
    (case l_Scheme_base => k_is)
    (case c_Scheme_base => k_is)
    (case k_Scheme_base => k_is)
    (case a_law_lives => k_is)
    (case l_law_lives => k_is)
    (case c_law_lives => k_is)
    (case k_law_lives => k_is)
    (case a_law_pow => k_is)
    (case l_law_pow => k_is)
    (case c_law_pow => k_is)
    (case k_law_pow => k_is)
    (case a_Change_settled_from => k_is)
    (case i_Change_settled_from => k_is)
    (case l_Change_settled_from => k_is)
    (case c_Change_settled_from => k_is)
    (case k_Change_settled_from => k_is)
    (case a_kept_spans => k_is)
    (case l_kept_spans => k_is)
    (case c_kept_spans => k_is)
    (case k_kept_spans => k_is)
    (case a_Scheme_factor => k_is)
    (case i_Scheme_factor => k_is)
    (case l_Scheme_factor => k_is)
    (case c_Scheme_factor => k_is)
    (case k_Scheme_factor => k_is)
    (case a_places_up_to => k_is)
    (case l_places_up_to => k_is)
    (case c_places_up_to => k_is)
    (case k_places_up_to => k_is)
    (case a_last_apart => k_is)
    (case l_last_apart => k_is)
    (case c_last_apart => k_is)
    (case k_last_apart => k_is)
    (case a_round_down => k_is)
    (case l_round_down => k_is)
    (case c_round_down => k_is)
    (case k_round_down => k_is)
    (case a_law_far_right => k_is)
    (case l_law_far_right => k_is)
    (case c_law_far_right => k_is)
    (case k_law_far_right => k_is)
    (case a_law_big => k_is)
    (case l_law_big => k_is)
    (case c_law_big => k_is)
    (case k_law_big => k_is)
    (case a_law_pile => k_is)
    (case l_law_pile => k_is)
    (case c_law_pile => k_is)
    (case k_law_pile => k_is)
    (case a_Change_next_gone => k_is)
    (case i_Change_next_gone => k_is)
    (case l_Change_next_gone => k_is)
    (case c_Change_next_gone => k_is)
    (case k_Change_next_gone => k_is)
    (case a_check_number => k_is)
    (case l_check_number => k_is)
    (case c_check_number => k_is)
    (case k_check_number => k_is)
    (case a_Change_check_later => k_is)
    (case i_Change_check_later => k_is)
    (case l_Change_check_later => k_is)
    (case c_Change_check_later => k_is)
    (case k_Change_check_later => k_is)
    (case a_Change_gone_rows => k_is)
    (case i_Change_gone_rows => k_is)
    (case l_Change_gone_rows => k_is)
    (case c_Change_gone_rows => k_is)
    (case k_Change_gone_rows => k_is)
    (case a_kept_rows => k_is)
    (case l_kept_rows => k_is)
    (case c_kept_rows => k_is)
    (case k_kept_rows => k_is)
    (case a_round_up => k_is)
    (case l_round_up => k_is)
    (case c_round_up => k_is)
    (case k_round_up => k_is)
    (case a_cut_rows => k_is)
    (case l_cut_rows => k_is)
    (case c_cut_rows => k_is)
    (case k_cut_rows => k_is)
    (case a_first_apart => k_is)
    (case l_first_apart => k_is)
    (case c_first_apart => k_is)
    (case k_first_apart => k_is)
    (case a_Change_gone_count => k_is)
    (case i_Change_gone_count => k_is)
    (case l_Change_gone_count => k_is)
    (case c_Change_gone_count => k_is)
    (case k_Change_gone_count => k_is)
    (case a_count_apart => k_is)
    (case l_count_apart => k_is)
    (case c_count_apart => k_is)
    (case k_count_apart => k_is)
    (case a_count_multiples => k_is)
    (case l_count_multiples => k_is)
    (case c_count_multiples => k_is)
    (case k_count_multiples => k_is)
    (case a_law => k_is)
    (case l_law => k_is)
    (case c_law => k_is)
    (case k_law => k_is)
    (case z_isinstance => k_is)
    (case z_int => k_is)
    (case z_bool => k_is)
    (case z_len => k_is)
    (case z_max => k_is)
    (case z_all => k_is)
    (case z_range => k_is)
    (case z_sorted => k_is)
    (case z_set => k_is)
    (case z_min => k_is)
    (case z_enumerate => k_is)
    (case z_zip => k_is)
    (case z_sum => k_is)
    (case z_list => k_is)
    (case z_tuple => k_is)
    (case z_any => k_is)
    (case z_abs => k_is)
    (case z_repr => k_is)
    (case z_reversed => k_is)
    (case g_LEAST_BASE => k_is)
    (case g_GREATEST_BASE => k_is)
    (case g_LEAST_FACTOR => k_is)
    (case g_GREATEST_FACTOR => k_is)
    (case a_eq => k_is)
    (case i_eq => k_is)
    (case x_ne => k_is)
    (case x_k1 => k_is)
    (case x_k2 => k_is)
    (case x_k3 => k_is)
    (case x_k4 => k_is)

