import PyProof.Rows.All
import Wide.All
import OpenK.AllK
import Wide.FinOn
import Lean
import PyProof.EqAt
import PyProof.EqKinds
import PyProof.TupleCall
import PySem.Challenge.RW_feastfall_k06_one_entry_alone
set_option Elab.async false
set_option linter.all false
set_option maxRecDepth 100000
/-! THE HAND LAYER, for ints, bools, texts, own classes, LISTS and tuples (index, slices, in, append, pop ..), calls, loops. Paste it whole ahead of your own text; what your proof does not reach may be deleted. -/
namespace L2
open PySem PySem.Spec PyProof.Rows

/-- a key: an int or a str -/
abbrev Key := Sum Int Str
def keyIs : Key → Value → Bool
  | .inl k, v => Value.isInt k v
  | .inr x, v => Value.isStrOf x v
def keyH (w : World) : Key → Int
  | .inl k => hashInt k
  | .inr x => hashStr w x
theorem keyIs_shape : ∀ {k : Key} {v : Value}, keyIs k v = true → (∃ i t, k = Sum.inl i ∧ v = Value.int i t) ∨ (∃ x t, k = Sum.inr x ∧ v = Value.str x t)
  | .inl i, v, h => by
    obtain ⟨t, e⟩ := Value.isInt_shape (k := i) (v := v) h
    exact .inl ⟨i, t, rfl, e⟩
  | .inr x, v, h => by
    obtain ⟨t, e⟩ := Value.isStrOf_shape (x := x) (v := v) h
    exact .inr ⟨x, t, rfl, e⟩
theorem keyIs_int (i : Int) (t : Tok) : keyIs (.inl i) (.int i t) = true := by simp [keyIs, Value.isInt]
theorem keyIs_str (x : Str) (t : Tok) : keyIs (.inr x) (.str x t) = true := by simp [keyIs, Value.isStrOf]
theorem key_ll (a b : Int) : decide ((Sum.inl a : Key) = Sum.inl b) = (a == b) := by
  by_cases e : a = b
  · subst e; simp
  · have h : ¬ (Sum.inl a : Key) = Sum.inl b := fun q => e (Sum.inl.inj q)
    rw [decide_eq_false h]
    exact (beq_eq_false_iff_ne.mpr e).symm
theorem key_rr (a b : Str) : decide ((Sum.inr a : Key) = Sum.inr b) = decide (a = b) := by
  by_cases e : a = b
  · subst e; simp
  · have h : ¬ (Sum.inr a : Key) = Sum.inr b := fun q => e (Sum.inr.inj q)
    rw [decide_eq_false h, decide_eq_false e]
theorem key_lr (a : Int) (b : Str) : decide ((Sum.inl a : Key) = Sum.inr b) = false := decide_eq_false (fun q => nomatch q)
theorem key_rl (a : Str) (b : Int) : decide ((Sum.inr a : Key) = Sum.inl b) = false := decide_eq_false (fun q => nomatch q)

def mixKind (prog : Program) (w : World) : PySem.KeyKind prog w Key where
  is := keyIs
  hash := keyH w
  inj := fun v a b ha hb => by
    rcases keyIs_shape ha with ⟨i, t, rfl, rfl⟩ | ⟨x, t, rfl, rfl⟩
    · rcases keyIs_shape hb with ⟨j, u, rfl, e⟩ | ⟨y, u, rfl, e⟩
      · injection e with e1 _; rw [e1]
      · exact nomatch e
    · rcases keyIs_shape hb with ⟨j, u, rfl, e⟩ | ⟨y, u, rfl, e⟩
      · exact nomatch e
      · injection e with e1 _; rw [e1]
  byValue := fun k v h => by
    rcases keyIs_shape h with ⟨i, t, rfl, rfl⟩ | ⟨x, t, rfl, rfl⟩ <;> rfl
  pyHash := fun hv h => by
    rcases keyIs_shape hv with ⟨i, t, rfl, rfl⟩ | ⟨x, t, rfl, rfl⟩
    · exact wpAny_pyHash_int h
    · exact wpAny_pyHash_str h
  eqBool := fun hu hv h => by
    rcases keyIs_shape hu with ⟨i, t, rfl, rfl⟩ | ⟨x, t, rfl, rfl⟩
    · rcases keyIs_shape hv with ⟨j, u, rfl, rfl⟩ | ⟨y, u, rfl, rfl⟩
      · rw [key_ll] at h; exact wpAny_eqBool_int h
      · rw [key_lr] at h; exact SeqAt.EqAt.int_str i t y u _ _ _ _ h
    · rcases keyIs_shape hv with ⟨j, u, rfl, rfl⟩ | ⟨y, u, rfl, rfl⟩
      · rw [key_rl] at h; exact SeqAt.EqAt.str_int x t j u _ _ _ _ h
      · rw [key_rr] at h; exact wpAny_eqBool_str h
  «strs» := fun k x t v h => by
    rcases keyIs_shape h with ⟨i, u, rfl, e⟩ | ⟨y, u, rfl, e⟩
    · exact nomatch e
    · injection e with e1 _
      subst e1
      cases v <;> rfl

theorem mixKind_is (prog : Program) (w : World) (k : Key) (v : Value) : (mixKind prog w).is k v = keyIs k v := rfl
theorem mixKind_int (prog : Program) (w : World) (i : Int) (t : Tok) : (mixKind prog w).is (.inl i) (.int i t) = true := keyIs_int i t
theorem mixKind_str (prog : Program) (w : World) (x : Str) (t : Tok) : (mixKind prog w).is (.inr x) (.str x t) = true := keyIs_str x t
end L2

namespace L2
open PySem PySem.Spec PyProof.Rows

/-- a value, without the heap -/
inductive V where
  | non | bl (b : Bool) | int (i : Int) | str (x : Str) | byt (b : Array UInt8) | flt (b : UInt64) | ref (a : Addr) | ty (n : String)
  deriving DecidableEq

def RelV : V → Value → Prop
  | .non, u => u = Value.none
  | .bl b, u => u = Value.bool b
  | .int i, u => ∃ t, u = Value.int i t
  | .str x, u => ∃ t, u = Value.str x t
  | .byt b, u => ∃ t, u = Value.bytes b t
  | .flt b, u => ∃ t, u = Value.float b t
  | .ref a, u => u = Value.ref a
  | .ty n, u => u = Value.type n

abbrev Vals : List V → List Value → Prop := Paired RelV
theorem Vals.length {xs : List V} {us : List Value} (r : Vals xs us) : xs.length = us.length := Paired.length r
theorem Vals.get : ∀ {xs : List V} {us : List Value} {i : Nat} {x : V}, Vals xs us → xs[i]? = some x → ∃ u, us[i]? = some u ∧ RelV x u
  | _, _, _, _, .nil, e => by simp at e
  | _, _, 0, _, .cons r _, e => by simp at e; subst e; exact ⟨_, rfl, r⟩
  | _, _, i + 1, x, .cons _ t, e => by
    obtain ⟨u, h1, h2⟩ := Vals.get (i := i) (x := x) t (by simpa using e)
    exact ⟨u, by simpa using h1, h2⟩
theorem Vals.set {x : V} {u : Value} (r : RelV x u) : ∀ {xs : List V} {us : List Value} (i : Nat), Vals xs us → Vals (xs.set i x) (us.set i u)
  | _, _, _, .nil => .nil
  | _, _, 0, .cons _ t => .cons r t
  | _, _, i + 1, .cons q t => .cons q (Vals.set r i t)
theorem Vals.append : ∀ {xs ys : List V} {us ws : List Value}, Vals xs us → Vals ys ws → Vals (xs ++ ys) (us ++ ws)
  | _, _, _, _, .nil, s => s
  | _, _, _, _, .cons r t, s => .cons r (Vals.append t s)
theorem Vals.take : ∀ {xs : List V} {us : List Value} (n : Nat), Vals xs us → Vals (xs.take n) (us.take n)
  | _, _, 0, _ => .nil
  | _, _, _ + 1, .nil => .nil
  | _, _, n + 1, .cons r t => .cons r (Vals.take n t)
theorem Vals.drop : ∀ {xs : List V} {us : List Value} (n : Nat), Vals xs us → Vals (xs.drop n) (us.drop n)
  | _, _, 0, r => r
  | _, _, _ + 1, .nil => .nil
  | _, _, n + 1, .cons _ t => Vals.drop n t
theorem Vals.none_of : ∀ {xs : List V} {us : List Value} {i : Nat}, Vals xs us → xs[i]? = none → us[i]? = none := fun {xs us i} r e => by
  have h1 := r.length
  have h2 : xs.length ≤ i := List.getElem?_eq_none_iff.mp e
  exact List.getElem?_eq_none_iff.mpr (by omega)

def RelO : Option V → Option Value → Prop
  | some v, some u => RelV v u
  | none, none => True
  | _, _ => False
def KV {κ : Type} : List (κ × V) → List (κ × Value) → Prop := Paired fun (p : κ × V) (q : κ × Value) => p.1 = q.1 ∧ RelV p.2 q.2

/-- a key of a dict (00_mix): an int or a text -/
def kV : Key → V
  | .inl i => .int i
  | .inr x => .str x

/-- what stands at a tracked address -/
inductive HO where
  /-- a list -/
  | lst (xs : List V)
  /-- a tuple (never changes) -/
  | tup (xs : List V)
  /-- a dict whose keys are ints and texts; one whose keys are tuples of ints and texts (the empty one is both) -/
  | dK (kvs : List (Key × V)) | dT (kvs : List (List Key × V))
  /-- a set of ints: its members, its size -/
  | set (S : Int → Bool) (n : Nat)
  /-- an instance of the class at C, its dict at dx, its attributes -/
  | ins (C dx : Addr) (fs : List (Str × V))
  /-- the dict of the instance at x -/
  | own (x : Addr)
  /-- the dict of an exception -/
  | xd (fs : List (Str × V))
  /-- a bound method, f of x -/
  | met (f x : Addr)
  /-- a range object lo, lo + 1, .. below hi -/
  | rng (lo hi : Int)
  /-- a thing that is known to the object (the script; a dict while a loop walks it): read, never written while it is so -/
  | frz (o : Obj) (u : HO)
  /-- a code object's table -/
  | tbl (ps : Array Value)
  /-- any other thing, by what is true of its one object (a def of one's own: SetO a S n := HO.ext fun h => ..) -/
  | ext (φ : Heap → Prop)

abbrev Hp := Addr → Option HO
def upd (H : Hp) (a : Addr) (o : HO) : Hp := fun b => if b = a then some o else H b
theorem upd_same {H : Hp} {a : Addr} {o : HO} : upd H a o a = some o := by unfold upd; rw [if_pos rfl]
theorem upd_ne {H : Hp} {a b : Addr} {o : HO} (h : b ≠ a) : upd H a o b = H b := by unfold upd; rw [if_neg h]
theorem upd_upd {H : Hp} {a : Addr} {o u : HO} : upd (upd H a o) a u = upd H a u := by
  funext b; unfold upd; split <;> rfl
/-- two objects of different content stand apart -/
theorem ne_of {H : Hp} {a b : Addr} {o u : HO} (h : H a = some o) (h' : H b = some u) (d : o ≠ u) : a ≠ b := by
  intro e; subst e; rw [h] at h'; exact d (Option.some.inj h')
theorem ne_of_none {H : Hp} {a b : Addr} {o : HO} (h : H a = some o) (h' : H b = none) : a ≠ b := by
  intro e; subst e; rw [h] at h'; cases h'

section
variable (P : Program) (w : World)
def ObjOk (H : Hp) (h : Heap) (a : Addr) : HO → Prop
  | .lst xs => xs.length ≤ sizeLine ∧ ∃ (its : List Value) (n : Nat), Vals xs its ∧ h.get? a = some { cls := .type "list", data := .seq its.toArray n }
  | .tup xs => xs.length ≤ sizeLine ∧ ∃ its : List Value, Vals xs its ∧ IsTup h a its.toArray
  | .dK kvs => kvs.length ≤ sizeLine ∧ (a == sysModules) = false ∧ ∃ vs, KV kvs vs ∧ h.DictOf (mixKind P w) a vs
  | .dT kvs => kvs.length ≤ sizeLine ∧ (a == sysModules) = false ∧ ∃ xs : List (List Key × Addr × Value),
      Paired (fun (p : List Key × V) (q : List Key × Addr × Value) => p.1 = q.1 ∧ H q.2.1 = some (.tup (p.1.map kV)) ∧ RelV p.2 q.2.2) kvs xs ∧
      ∃ o es ep, h.get? a = some o ∧ o.ExactDict ∧ o.data = .dict es ep ∧ es.toList = xs.map (entryOfKey (tupleKind (mixKind P w))) ∧ (xs.map (·.1)).Nodup
  | .set S n => h.SetOf (intKind P w) a S n
  | .ins C dx fs => H dx = some (.own a) ∧ fs.length ≤ 1000 ∧ dx ≠ a ∧ h.get? a = some (PySem.W.instObj C dx) ∧
      ∃ mA, h.Ns1 dx mA ∧ (∀ f, RelO (fs.lookup f) (mA f)) ∧ PySem.Within mA (fs.map (·.1))
  | .own _ => ∃ o, h.get? a = some o
  | .xd fs => ∃ mA, h.Ns1 a mA ∧ ∀ f, RelO (fs.lookup f) (mA f)
  | .rng lo hi => ∃ t u v, h.get? a = some { cls := .type "range", data := .fields #[.int lo t, .int hi u, .int 1 v] }
  | .frz o u => h.get? a = some o ∧ ObjOk H h a u
  | .tbl ps => h.get? a = some { cls := .none, data := .fields ps }
  | .met f x => h.get? a = some (PySem.W.methodObj (.ref f) (.ref x))
  | .ext φ => φ h ∧ (∃ o, h.get? a = some o) ∧ ∀ h1 h2 : Heap, φ h1 → (∀ o, h1.get? a = some o → h2.get? a = some o) → φ h2
/-- the abstract heap is held -/
def HOk (H : Hp) (h : Heap) : Prop := ∀ a o, H a = some o → ObjOk P w H h a o
end

section
variable {P : Program} {w : World} {H H' : Hp} {h h' : Heap} {a : Addr} {o : HO}
theorem ObjOk.lt (x : ObjOk P w H h a o) : a < h.objs.size := by
  cases o with
  | lst xs => obtain ⟨_, _, _, _, e⟩ := x; exact Heap.lt_size e
  | tup xs => obtain ⟨_, _, _, p⟩ := x; exact p.lt
  | dK kvs => obtain ⟨_, _, _, _, o, _, _, e, _⟩ := x; exact Heap.lt_size e
  | dT kvs => obtain ⟨_, _, _, _, o, _, _, e, _⟩ := x; exact Heap.lt_size e
  | set S n => obtain ⟨o, _, _, _, e, _⟩ := x; exact Heap.lt_size e
  | ins C dx fs => obtain ⟨_, _, _, e, _⟩ := x; exact Heap.lt_size e
  | own y => obtain ⟨_, e⟩ := x; exact Heap.lt_size e
  | xd fs => obtain ⟨_, ⟨_, _, _, e, _⟩, _⟩ := x; exact Heap.lt_size e
  | rng lo hi => obtain ⟨_, _, _, e⟩ := x; exact Heap.lt_size e
  | frz ob u => obtain ⟨e, _⟩ := x; exact Heap.lt_size e
  | tbl ps => exact Heap.lt_size (show h.get? a = some _ from x)
  | met f y => exact Heap.lt_size (show h.get? a = some _ from x)
  | ext φ => obtain ⟨_, ⟨_, e⟩, _⟩ := x; exact Heap.lt_size e
theorem Paired.mapP {α β : Type} {F G : α → β → Prop} : ∀ {l₁ : List α} {l₂ : List β}, Paired F l₁ l₂ → (∀ a b, F a b → G a b) → Paired G l₁ l₂
  | _, _, .nil, _ => .nil
  | _, _, .cons r t, f => .cons (f _ _ r) (Paired.mapP t f)
theorem Paired.imp' {α β : Type} {F G : α → β → Prop} (f : ∀ a b, F a b → G a b) {l₁ : List α} {l₂ : List β} (r : Paired F l₁ l₂) : Paired G l₁ l₂ := Paired.mapP r f
/-- what an object's description leans on: its own object, its own dict, the tuples -/
theorem ObjOk.stay (x : ObjOk P w H h a o) (k : ∀ b u, (b = a ∨ H b = some (.own a)) → h.get? b = some u → h'.get? b = some u)
    (ho : ∀ b, H b = some (.own a) → H' b = some (.own a)) (ht : ∀ b xs, H b = some (.tup xs) → H' b = some (.tup xs)) : ObjOk P w H' h' a o := by
  induction o with
  | lst xs => obtain ⟨z, its, n, r, e⟩ := x; exact ⟨z, its, n, r, k _ _ (.inl rfl) e⟩
  | tup xs => obtain ⟨z, its, r, ob, e, c⟩ := x; exact ⟨z, its, r, ob, k _ _ (.inl rfl) e, c⟩
  | dK kvs => obtain ⟨z, y, vs, r, ob, es, ep, e, c⟩ := x; exact ⟨z, y, vs, r, ob, es, ep, k _ _ (.inl rfl) e, c⟩
  | dT kvs =>
    obtain ⟨z, y, xs, r, ob, es, ep, e, c⟩ := x
    exact ⟨z, y, xs, Paired.mapP r fun p q z => ⟨z.1, ht _ _ z.2.1, z.2.2⟩, ob, es, ep, k _ _ (.inl rfl) e, c⟩
  | set S n => obtain ⟨ob, es, ep, t, e, c⟩ := x; exact ⟨ob, es, ep, t, k _ _ (.inl rfl) e, c⟩
  | ins C dx fs =>
    obtain ⟨d, z, ne, e, mA, ⟨od, es, ep, e2, c⟩, r⟩ := x
    exact ⟨ho _ d, z, ne, k _ _ (.inl rfl) e, mA, ⟨od, es, ep, k _ _ (.inr d) e2, c⟩, r⟩
  | own y => obtain ⟨ob, e⟩ := x; exact ⟨ob, k _ _ (.inl rfl) e⟩
  | xd fs => obtain ⟨mA, ⟨od, es, ep, e, c⟩, r⟩ := x; exact ⟨mA, ⟨od, es, ep, k _ _ (.inl rfl) e, c⟩, r⟩
  | rng lo hi => obtain ⟨t, u, v, e⟩ := x; exact ⟨t, u, v, k _ _ (.inl rfl) e⟩
  | frz ob u ih => obtain ⟨e, q⟩ := x; exact ⟨k _ _ (.inl rfl) e, ih q⟩
  | tbl ps =>
    have e : h.get? a = some { cls := .none, data := .fields ps } := x
    show h'.get? a = some { cls := .none, data := .fields ps }
    exact k a _ (.inl rfl) e
  | met f y =>
    have e : h.get? a = some (PySem.W.methodObj (.ref f) (.ref y)) := x
    show h'.get? a = some (PySem.W.methodObj (.ref f) (.ref y))
    exact k a _ (.inl rfl) e
  | ext φ => obtain ⟨p, ⟨o, e⟩, st⟩ := x; exact ⟨st _ _ p fun o q => k _ _ (.inl rfl) q, ⟨o, k _ _ (.inl rfl) e⟩, st⟩
theorem HOk.lt (x : HOk P w H h) (e : H a = some o) : a < h.objs.size := (x a o e).lt
theorem HOk.fresh (x : HOk P w H h) (e : h.objs.size ≤ a) : H a = none := by
  cases q : H a with
  | none => rfl
  | some u => exact absurd (Nat.lt_of_lt_of_le (x.lt q) e) (Nat.lt_irrefl _)
/-- every object of the heap is kept -/
theorem HOk.kept (x : HOk P w H h) (k : ∀ b u, h.get? b = some u → h'.get? b = some u) : HOk P w H h' := fun a o e =>
  (x a o e).stay (fun b u _ q => k b u q) (fun _ q => q) fun _ _ q => q
/-- a new object is laid and tracked -/
theorem HOk.laid (x : HOk P w H h) (k : ∀ b u, h.get? b = some u → h'.get? b = some u) (hp : h.objs.size ≤ a) (new : ObjOk P w (upd H a o) h' a o) : HOk P w (upd H a o) h' := fun b u e => by
  have hn := x.fresh hp
  by_cases hb : b = a
  · subst hb; rw [upd_same] at e; cases e; exact new
  · rw [upd_ne hb] at e
    exact (x b u e).stay (fun c v _ q => k c v q) (fun c q => by rw [upd_ne (ne_of_none q hn)]; exact q) fun c xs q => by rw [upd_ne (ne_of_none q hn)]; exact q
end

/-- what may be read as u: it is u, or a known u -/
def Rd (H : Hp) (a : Addr) (u : HO) : Prop := H a = some u ∨ ∃ o, H a = some (.frz o u)
theorem Rd.of {H : Hp} {a : Addr} {u : HO} (h : H a = some u) : Rd H a u := .inl h
theorem Rd.ok {P : Program} {w : World} {H : Hp} {h : Heap} {a : Addr} {u : HO} (r : Rd H a u) (x : HOk P w H h) : ObjOk P w H h a u := by
  rcases r with r | ⟨o, r⟩
  · exact x a u r
  · obtain ⟨_, q⟩ := x a _ r
    exact q
/-- what may be written -/
def Mut : Option HO → Prop
  | some (.lst _) => True
  | some (.dK _) => True
  | some (.dT _) => True
  | some (.set _ _) => True
  | some (.ins _ _ _) => True
  | some (.ext _) => True
  | _ => False
section
variable {P : Program} {w : World} {H : Hp} {h h' : Heap} {x e : Addr} {o' : HO}
/-- the object at e is changed: x itself, or the dict of the instance x -/
theorem HOk.write (ok : HOk P w H h) (mu : Mut (H x)) (he : e = x ∨ H e = some (.own x)) (k : ∀ b u, b ≠ e → h.get? b = some u → h'.get? b = some u) (heo : ∃ u, h'.get? e = some u)
    (new : ObjOk P w (upd H x o') h' x o') : HOk P w (upd H x o') h' := fun b u q => by
  have nown : ∀ c y, H c = some (.own y) → c ≠ x := fun c y r z => by subst z; rw [r] at mu; exact mu
  have ntup : ∀ c xs, H c = some (.tup xs) → c ≠ x := fun c xs r z => by subst z; rw [r] at mu; exact mu
  by_cases hb : b = x
  · subst hb; rw [upd_same] at q; cases q; exact new
  · rw [upd_ne hb] at q
    by_cases hbe : b = e
    · have q' : H b = some (.own x) := by
        rcases he with z | z
        · exact absurd (hbe.trans z) hb
        · rw [hbe]; exact z
      rw [q] at q'; cases q'
      obtain ⟨v, hv⟩ := heo
      exact ⟨v, by rw [hbe]; exact hv⟩
    · refine (ok b u q).stay (fun c v hc r => k c v ?_ r) (fun c r => by rw [upd_ne (nown c b r)]; exact r) fun c xs r => by rw [upd_ne (ntup c xs r)]; exact r
      rcases hc with rfl | hc
      · exact hbe
      · rintro rfl
        rcases he with z | z
        · exact nown c b hc z
        · rw [hc] at z; cases z; exact hb rfl
end

/-! ### kept unless tracked; of the frames at fs (the callers') the slots may change (an exception that passes writes there); of the records at ex (iterators) nothing is said -/
structure Un (fs ex : List Addr) (H H' : Hp) (h h' : Heap) : Prop where
  keep : ∀ b o, h.get? b = some o → H b = none → b ∉ fs → b ∉ ex → h'.get? b = some o
  slot : ∀ b o, h.get? b = some o → H b = none → b ∈ fs → b ∉ ex → ∃ sl, h'.get? b = some { o with slots := sl }
  free : ∀ b o, h.get? b = some o → H b = none → b ∉ ex → H' b = none
  there : ∀ b o, h.get? b = some o → b ∉ ex → ∃ o', h'.get? b = some o'
  tups : ∀ b xs, H b = some (.tup xs) → H' b = some (.tup xs)
  frzs : ∀ b o u, H b = some (.frz o u) → H' b = some (.frz o u)
  tbls : ∀ b ps, H b = some (.tbl ps) → ∃ more, H' b = some (.tbl (ps ++ more))
section
variable {fs fs' ex ex' : List Addr} {H H1 H2 : Hp} {h h1 h2 h' : Heap} {a x e : Addr} {o : HO}
theorem Un.any (u : Un fs ex H H1 h h1) {b : Addr} {ob : Obj} (q : h.get? b = some ob) (n : H b = none) (hx : b ∉ ex) : ∃ sl, h1.get? b = some { ob with slots := sl } := by
  by_cases hb : b ∈ fs
  · exact u.slot b ob q n hb hx
  · exact ⟨ob.slots, u.keep b ob q n hb hx⟩
theorem Un.trans (a : Un fs ex H H1 h h1) (b : Un fs ex H1 H2 h1 h2) : Un fs ex H H2 h h2 where
  keep := fun c ob q n hc hx => b.keep c ob (a.keep c ob q n hc hx) (a.free c ob q n hx) hc hx
  slot := fun c ob q n hc hx => by
    obtain ⟨sl, e1⟩ := a.slot c ob q n hc hx
    obtain ⟨sl', e2⟩ := b.slot c _ e1 (a.free c ob q n hx) hc hx
    exact ⟨sl', e2⟩
  free := fun c ob q n hx => by
    obtain ⟨o', e1⟩ := a.there c ob q hx
    exact b.free c o' e1 (a.free c ob q n hx) hx
  there := fun c ob q hx => by
    obtain ⟨o', e1⟩ := a.there c ob q hx
    exact b.there c o' e1 hx
  tups := fun c xs q => b.tups c xs (a.tups c xs q)
  frzs := fun c ob xs q => b.frzs c ob xs (a.frzs c ob xs q)
  tbls := fun c ps q => by
    obtain ⟨m1, e1⟩ := a.tbls c ps q
    obtain ⟨m2, e2⟩ := b.tbls c _ e1
    exact ⟨m1 ++ m2, by rw [e2, Array.append_assoc]⟩
theorem Un.kept (k : ∀ b u, h.get? b = some u → h'.get? b = some u) : Un fs ex H H h h' :=
  ⟨fun b ob q _ _ _ => k b ob q, fun b ob q _ _ _ => ⟨ob.slots, k b ob q⟩, fun _ _ _ n _ => n, fun b ob q _ => ⟨ob, k b ob q⟩, fun _ _ q => q, fun _ _ _ q => q, fun _ ps q => ⟨#[], by rw [q]; simp⟩⟩
theorem Un.refl : Un fs ex H H h h := Un.kept fun _ _ q => q
theorem Un.laid (k : ∀ b u, h.get? b = some u → h'.get? b = some u) (hp : h.objs.size ≤ a) (hn : H a = none) : Un fs ex H (upd H a o) h h' where
  keep := fun b u q _ _ _ => k b u q
  slot := fun b u q _ _ _ => ⟨u.slots, k b u q⟩
  free := fun b u q n _ => by rw [upd_ne (Nat.ne_of_lt (Nat.lt_of_lt_of_le (Heap.lt_size q) hp))]; exact n
  there := fun b u q _ => ⟨u, k b u q⟩
  tups := fun b xs q => by rw [upd_ne (ne_of_none q hn)]; exact q
  frzs := fun b u xs q => by rw [upd_ne (ne_of_none q hn)]; exact q
  tbls := fun b ps q => ⟨#[], by rw [upd_ne (ne_of_none q hn), q]; simp⟩
theorem Un.write (mu : Mut (H x)) (he : e = x ∨ H e = some (.own x)) (k : ∀ b u, b ≠ e → h.get? b = some u → h'.get? b = some u) (heo : ∃ u, h'.get? e = some u) : Un fs ex H (upd H x o) h h' := by
  have hx : ∀ b, H b = none → b ≠ x := fun b n z => by subst z; rw [n] at mu; exact mu
  have hb : ∀ b, H b = none → b ≠ e := fun b n z => by
    subst z
    rcases he with r | r
    · exact hx b n r
    · rw [n] at r; cases r
  have hm : ∀ b u, H b = some u → ¬ Mut (some u) → b ≠ x := fun b u q nm z => by subst z; rw [q] at mu; exact nm mu
  refine ⟨fun b u q n _ _ => k b u (hb b n) q, fun b u q n _ _ => ⟨u.slots, k b u (hb b n) q⟩, fun b u q n _ => by rw [upd_ne (hx b n)]; exact n, fun b u q _ => ?_,
    fun b xs q => by rw [upd_ne (hm b _ q fun z => z)]; exact q, fun b u xs q => by rw [upd_ne (hm b _ q fun z => z)]; exact q, fun b ps q => ⟨#[], by rw [upd_ne (hm b _ q fun z => z), q]; simp⟩⟩
  by_cases hbe : b = e
  · subst hbe; exact heo
  · exact ⟨u, k b u hbe q⟩
theorem Un.mono (u : Un fs ex H H1 h h1) (hs : ∀ b ∈ fs, b ∈ fs') (hx : ∀ b ∈ ex, b ∈ ex') : Un fs' ex' H H1 h h1 :=
  ⟨fun b ob q n hb he => u.keep b ob q n (fun z => hb (hs b z)) fun z => he (hx b z), fun _ _ q n _ he => u.any q n fun z => he (hx _ z), fun b ob q n he => u.free b ob q n fun z => he (hx b z), fun b ob q he => u.there b ob q fun z => he (hx b z), u.tups, u.frzs, u.tbls⟩
end

/-! ### the heap without what is tracked -/
def trk (h : Heap) (H : Hp) : List Addr := (List.range h.objs.size).filter fun a => (H a).isSome
def hidT (h : Heap) (H : Hp) : Heap := PySem.W.hideAll h (trk h H)
theorem hidT_size (h : Heap) (H : Hp) : (hidT h H).objs.size = h.objs.size := PySem.W.hideAll_size _ _
theorem hidT_get {h : Heap} {H : Hp} {b : Addr} {o : Obj} (e : h.get? b = some o) (n : H b = none) : (hidT h H).get? b = some o :=
  PySem.W.hideAll_get _ e fun hm => by
    have q : (H b).isSome = true := (List.mem_filter.mp hm).2
    rw [n] at q; simp at q
theorem of_hidT {h : Heap} {H : Hp} {b : Addr} {o : Obj} (e : (hidT h H).get? b = some o) : h.get? b = some o ∧ H b = none := by
  have e' : h.get? b = some o := PySem.W.of_hideAll (trk h H) e
  refine ⟨e', ?_⟩
  cases q : H b with
  | none => rfl
  | some x =>
    have hm : b ∈ trk h H := List.mem_filter.mpr ⟨List.mem_range.mpr (Heap.lt_size e'), by simp [q]⟩
    have z : (hidT h H).get? b = none := PySem.W.hideAll_none (trk h H) hm
    rw [z] at e; cases e

/-! ### OpenK's ledger, filled with every new object but one -/
def allNews (g h : Heap) (L : Addr) : List (Addr × Obj) := (List.range h.objs.size).filterMap fun a => if a = L ∨ (g.get? a).isSome = true then none else (h.get? a).map fun o => (a, o)
theorem mem_allNews {g h : Heap} {L a : Addr} {o : Obj} (h1 : a ≠ L) (h2 : g.get? a = none) (h3 : h.get? a = some o) : (a, o) ∈ allNews g h L :=
  List.mem_filterMap.mpr ⟨a, List.mem_range.mpr (Heap.lt_size h3), by simp [h1, h2, h3]⟩
theorem of_mem_allNews {g h : Heap} {L : Addr} {p : Addr × Obj} (hp : p ∈ allNews g h L) : p.1 ≠ L ∧ g.get? p.1 = none ∧ h.get? p.1 = some p.2 := by
  obtain ⟨b, _, e⟩ := List.mem_filterMap.mp hp
  split at e
  · cases e
  · rename_i hn
    cases q : h.get? b with
    | none => rw [q] at e; simp at e
    | some u =>
      rw [q] at e
      simp only [Option.map_some, Option.some.injEq] at e
      subst e
      refine ⟨fun z => hn (.inl z), ?_, q⟩
      show g.get? b = none
      cases r : g.get? b with
      | none => rfl
      | some v => exact (hn (.inr (by simp [r]))).elim
def rest (g h : Heap) (L d : Addr) : List (Addr × Obj) := (allNews g h L).filter fun p => decide (p.1 ≠ d)
theorem rest_ne {g h : Heap} {L d : Addr} : ∀ p ∈ rest g h L d, p.1 ≠ d := fun p hp => of_decide_eq_true (List.mem_filter.mp hp).2
theorem mem_rest {g h : Heap} {L d a : Addr} {o : Obj} (h1 : a ≠ L) (h2 : g.get? a = none) (h3 : h.get? a = some o) (h4 : a ≠ d) : (a, o) ∈ rest g h L d :=
  List.mem_filter.mpr ⟨mem_allNews h1 h2 h3, decide_eq_true h4⟩
theorem news_all {g h : Heap} {L : Addr} : News g L h (allNews g h L) := fun p hp => let ⟨a, b, c⟩ := of_mem_allNews hp; ⟨c, a, b⟩
theorem news_at {g h : Heap} {L d : Addr} {o : Obj} (h1 : d ≠ L) (h2 : g.get? d = none) (h3 : h.get? d = some o) : News g L h ((d, o) :: rest g h L d) := fun p hp => by
  rcases List.mem_cons.mp hp with rfl | hp
  · exact ⟨h3, h1, h2⟩
  · exact news_all p (List.mem_filter.mp hp).1
/-- behind a rule that changed d alone: all else but the frame is kept -/
theorem kept_of_news {g h h' : Heap} {L d : Addr} {m : Str → Option Value} (k : ∀ b o, g.get? b = some o → h.get? b = some o) (F : Fr g L h' m) (N : News g L h' (rest g h L d)) :
    ∀ b o, b ≠ L → b ≠ d → h.get? b = some o → h'.get? b = some o := fun b o h1 h2 e => by
  cases q : g.get? b with
  | some u =>
    have := k b u q
    rw [e] at this; cases this
    exact F.keep b _ q
  | none => exact (N (b, o) (mem_rest h1 q e h2)).1
end L2

namespace L2
open PySem PySem.Spec PyProof.Rows

/-- the module's facts, over the base: the heap at the law's entry without what is tracked there -/
structure Mod (K : PySem.W.Frag) (mg : Str → Option Value) (base : Heap) : Prop where
  kin : K.In base
  glob : base.Ns mainGlobals mg
  blt : ∃ mb, base.Ns builtinsNs mb ∧ ∀ x : Str, x ≠ "__name__" → mb x = bootBuiltins x
  nolimit : base.NoLimit

/-- the context: a def's body (or a comprehension's block) running. base: fixed through the whole law; s₀, H₀: the entry; outer: the frames whose slots others may change (a def's callers); stack: all frames that run;
   ex: iterators that were made ahead of the entry and are walked here (a comprehension's); fn: the names whose cells were made at the entry (a def: all; a comprehension's block: its own); calm: not within an except suite; pn: pins that every state bears; xe: what is wanted of an exception that leaves the code -/
structure Cx where
  prog : Program
  w : World
  K : PySem.W.Frag
  mg : Str → Option Value
  base : Heap
  A : Around
  N : List Str
  s₀ : Shared
  H₀ : Hp
  env : Env
  outer : List Env
  stack : List Env
  ex : List Addr
  fn : Str → Bool
  calm : Bool
  pn : List (Addr × Obj)
  xe : Value → Shared → Prop
/-- the callers' frames -/
def frs (l : List Env) : List Addr := l.filterMap (·.frame)
abbrev Cx.fs (X : Cx) : List Addr := frs X.outer

def Vis (sc : Scope) (x : Str) : Prop := sc.names.lookup x = some .local ∨ sc.names.lookup x = some .cell ∨ sc.names.lookup x = some .free
def Loc (sc : Scope) (x : Str) : Prop := sc.names.lookup x = some .local ∨ sc.names.lookup x = some .cell
def Look (env : Env) (h : Heap) (m : Str → Option Value) (x : Str) (u : Value) : Prop :=
  (env.kindOf x = some .local ∧ m x = some u) ∨ ((env.kindOf x = some .cell ∨ env.kindOf x = some .free) ∧ ∃ c, env.cells.lookup x = some c ∧ h.IsCell c (some u))

structure Cx.Ok (X : Cx) : Prop where
  mod : Mod X.K X.mg X.base
  kind : X.env.scope.kind = .function
  glob : X.env.globals = mainGlobals
  blt : X.env.builtins = builtinsNs
  above : X.s₀.heap.objs.size ≤ X.env.locals
  inj : ∀ x y c, X.env.cells.lookup x = some c → X.env.cells.lookup y = some c → x = y
  has : ∀ x, (X.env.kindOf x = some .cell ∨ X.env.kindOf x = some .free) → ∃ c, X.env.cells.lookup x = some c
  cab : ∀ x c, X.fn x = true → X.env.cells.lookup x = some c → X.s₀.heap.objs.size ≤ c
  hd : X.calm = true → X.A.handled = none
  frames : X.A.frames = some X.stack
  stk : X.stack = X.outer ∨ (X.stack = X.env :: X.outer ∧ X.env.frame = some X.env.locals)
  exf : ∀ b ∈ X.ex, b ≠ X.env.locals ∧ ∀ x c, X.env.cells.lookup x = some c → c ≠ b
  bs : ∀ b o, X.base.get? b = some o → X.s₀.heap.get? b = some o ∧ X.H₀ b = none
  bsz : X.base.objs.size ≤ X.s₀.heap.objs.size
  noex : ∀ b o, X.base.get? b = some o → b ∉ X.ex
  exfs : ∀ b ∈ X.ex, b ∉ X.fs
  funs : X.s₀.heap.FunFrames X.base X.outer
  frf : ∀ b ∈ X.fs, X.H₀ b = none

structure Inv (X : Cx) (pins : List (Addr × Obj)) (σ : List (Option V)) (H : Hp) (s : Shared) : Prop where
  ok : X.Ok
  os : s.os = X.s₀.os
  bare : AllBare s.gens
  base : Un X.fs X.ex X.H₀ H X.s₀.heap s.heap
  loc : ∃ m, s.heap.Ns X.env.locals m ∧ ∀ (i : Nat) (x : Str) (v : V), X.N[i]? = some x → σ[i]? = some (some v) → Vis X.env.scope x → ∃ u, RelV v u ∧ Look X.env s.heap m x u
  cell : ∀ x c, X.env.cells.lookup x = some c → ∃ v, s.heap.IsCell c v
  free : H X.env.locals = none
  freeC : ∀ x c, X.env.cells.lookup x = some c → H c = none
  pin : ∀ p ∈ X.pn ++ pins, s.heap.get? p.1 = some p.2 ∧ H p.1 = none ∧ p.1 ≠ X.env.locals ∧ p.1 ∉ X.fs ∧ ∀ v, p.2.data ≠ .cell v
  hok : HOk X.prog X.w H s.heap
  len : σ.length = X.N.length

section
variable {X : Cx} {pins : List (Addr × Obj)} {σ : List (Option V)} {H H' : Hp} {s : Shared} {h' : Heap}

theorem Cx.Ok.nofr (ok : X.Ok) {b : Addr} {o : Obj} (e : X.base.get? b = some o) : b ∉ X.fs := fun hb => by
  have := (ok.funs.mem hb).1
  rw [e] at this; cases this
theorem Inv.bs (I : Inv X pins σ H s) : ∀ b o, X.base.get? b = some o → s.heap.get? b = some o ∧ H b = none := fun b o e =>
  ⟨I.base.keep b o (I.ok.bs b o e).1 (I.ok.bs b o e).2 (I.ok.nofr e) (I.ok.noex b o e), I.base.free b o (I.ok.bs b o e).1 (I.ok.bs b o e).2 (I.ok.noex b o e)⟩
theorem Inv.bk (I : Inv X pins σ H s) : ∀ b o, X.base.get? b = some o → s.heap.get? b = some o := fun b o e => (I.bs b o e).1
theorem Inv.mod (I : Inv X pins σ H s) : Mod X.K X.mg X.base := I.ok.mod
theorem Inv.kIn (I : Inv X pins σ H s) : X.K.In s.heap := I.ok.mod.kin.keeps I.bk
theorem Inv.nolimit (I : Inv X pins σ H s) : s.heap.NoLimit := I.ok.mod.nolimit.keeps I.bk
/-- the frame over the base: for OpenK's rules (K.In X.base is I.mod.kin) -/
theorem Inv.fr (I : Inv X pins σ H s) : ∃ m, Fr X.base X.env.locals s.heap m :=
  let ⟨m, hn, _⟩ := I.loc
  ⟨m, hn, I.bk, Nat.le_trans I.ok.bsz I.ok.above⟩
theorem Inv.lt (I : Inv X pins σ H s) : X.env.locals < s.heap.objs.size := let ⟨_, hn, _⟩ := I.loc; hn.lt
theorem Inv.sz (I : Inv X pins σ H s) : X.s₀.heap.objs.size ≤ s.heap.objs.size := Nat.le_trans I.ok.above (Nat.le_of_lt I.lt)
theorem Inv.nofs (I : Inv X pins σ H s) {a : Addr} (h : s.heap.objs.size ≤ a) : a ∉ X.fs := fun hb => by
  obtain ⟨_, o, ho, _⟩ := I.ok.funs.mem hb
  exact absurd (Nat.lt_of_lt_of_le (Heap.lt_size ho) (Nat.le_trans I.sz h)) (Nat.lt_irrefl _)
theorem Inv.cne (I : Inv X pins σ H s) : ∀ x c, X.env.cells.lookup x = some c → c ≠ X.env.locals := fun x c e z => by
  obtain ⟨v, o, ho, hd⟩ := I.cell x c e
  obtain ⟨m, ⟨o', es, ep, ho', hd', _⟩, _⟩ := I.loc
  rw [z, ho'] at ho; cases ho; rw [hd'] at hd; cases hd
theorem Inv.funs (I : Inv X pins σ H s) : s.heap.FunFrames X.base X.outer := by
  have all : ∀ (l : List Env), (∀ b ∈ frs l, b ∈ X.fs) → X.s₀.heap.FunFrames X.base l → s.heap.FunFrames X.base l := by
    intro l
    induction l with
    | nil => intro _ _; trivial
    | cons env r ih =>
      intro hs hl
      obtain ⟨hk, ⟨L, o, hf, hn, ho, hd⟩, hr⟩ := hl
      have hL : L ∈ X.fs := hs L (by unfold frs; rw [List.filterMap_cons, hf]; exact List.mem_cons_self)
      obtain ⟨sl, e⟩ := I.base.slot L o ho (I.ok.frf L hL) hL fun z => I.ok.exfs L z hL
      exact ⟨hk, ⟨L, _, hf, hn, e, hd⟩, ih (fun b hb => hs b (by unfold frs; rw [List.filterMap_cons, hf]; exact List.mem_cons_of_mem _ hb)) hr⟩
  exact all X.outer (fun _ hb => hb) I.ok.funs

/-- the frames that run, for a call -/
theorem Inv.stack (I : Inv X pins σ H s) : s.heap.FunFrames X.base X.stack := by
  rcases I.ok.stk with e | ⟨e, hf⟩
  · rw [e]; exact I.funs
  · rw [e]
    obtain ⟨m, hn, _⟩ := I.loc
    refine .cons (by rw [I.ok.kind]; decide) hf hn ?_ I.funs
    exact Heap.get?_none_of_le (Nat.le_trans I.ok.bsz I.ok.above)
theorem Inv.stkSub (I : Inv X pins σ H s) : ∀ b ∈ frs X.stack, b ∈ X.env.locals :: X.fs := fun b hb => by
  rcases I.ok.stk with e | ⟨e, hf⟩
  · rw [e] at hb; exact List.mem_cons_of_mem _ hb
  · rw [e] at hb
    unfold frs at hb
    rw [List.filterMap_cons, hf] at hb
    exact hb
theorem Inv.stkFree (I : Inv X pins σ H s) : ∀ b ∈ frs X.stack, H b = none := fun b hb => by
  rcases List.mem_cons.mp (I.stkSub b hb) with e | hb
  · rw [e]; exact I.free
  · obtain ⟨_, o, ho, _⟩ := I.ok.funs.mem hb
    exact I.base.free b o ho (I.ok.frf b hb) fun z => I.ok.exfs b z hb

/-- THE STEP: the untracked objects but the frame and the records at ch are kept (the callers' frames up to slots), the frame's map is kept, the new abstract heap is held -/
theorem Inv.step {g' : Array GenState} {t' : Nat} {d' : Drawn} {ch : List Addr} (I : Inv X pins σ H s)
    (hch : ∀ b ∈ ch, (b ∈ X.ex ∨ X.s₀.heap.objs.size ≤ b) ∧ b ≠ X.env.locals ∧ (∀ x c, X.env.cells.lookup x = some c → c ≠ b) ∧ ∀ p ∈ X.pn ++ pins, p.1 ≠ b)
    (keep : ∀ b o, b ≠ X.env.locals → b ∉ X.fs → b ∉ ch → s.heap.get? b = some o → H b = none → h'.get? b = some o)
    (slot : ∀ b o, b ≠ X.env.locals → b ∈ X.fs → b ∉ ch → s.heap.get? b = some o → H b = none → ∃ sl, h'.get? b = some { o with slots := sl }) (free : ∀ b o, b ∉ ch → s.heap.get? b = some o → H b = none → H' b = none)
    (there : ∀ b o, b ∉ ch → s.heap.get? b = some o → ∃ o', h'.get? b = some o')
    (tups : ∀ b xs, H b = some (.tup xs) → H' b = some (.tup xs)) (frzs : ∀ b o u, H b = some (.frz o u) → H' b = some (.frz o u)) (tbls : ∀ b ps, H b = some (.tbl ps) → ∃ more, H' b = some (.tbl (ps ++ more)))
    (ns : ∀ m, s.heap.Ns X.env.locals m → h'.Ns X.env.locals m) (hok : HOk X.prog X.w H' h') (hg : AllBare g') :
    Inv X pins σ H' { s with heap := h', gens := g', drawn := d', toks := t' } := by
  have neL : ∀ b o, X.s₀.heap.get? b = some o → b ≠ X.env.locals := fun b o e => Nat.ne_of_lt (Nat.lt_of_lt_of_le (Heap.lt_size e) I.ok.above)
  have neC : ∀ b o, X.s₀.heap.get? b = some o → b ∉ X.ex → b ∉ ch := fun b o e hx hb => by
    rcases (hch b hb).1 with z | z
    · exact hx z
    · exact absurd (Nat.lt_of_lt_of_le (Heap.lt_size e) z) (Nat.lt_irrefl _)
  have cellK : ∀ x c, X.env.cells.lookup x = some c → ∀ v, s.heap.IsCell c v → h'.IsCell c v := fun x c e v ⟨o, ho, hd⟩ => by
    have nch : c ∉ ch := fun z => (hch c z).2.2.1 x c e rfl
    by_cases hc : c ∈ X.fs
    · obtain ⟨sl, q⟩ := slot c o (I.cne x c e) hc nch ho (I.freeC x c e)
      exact ⟨_, q, hd⟩
    · exact ⟨o, keep c o (I.cne x c e) hc nch ho (I.freeC x c e), hd⟩
  refine ⟨I.ok, I.os, hg, ⟨fun b o e n hb hx => ?_, fun b o e n hb hx => ?_, fun b o e n hx => ?_, fun b o e hx => ?_, fun b xs e => tups b xs (I.base.tups b xs e), fun b o xs e => frzs b o xs (I.base.frzs b o xs e), fun b ps e => ?_⟩, ?_, fun x c e => ?_, ?_, fun x c e => ?_, fun p hp => ?_, hok, I.len⟩
  · exact keep b o (neL b o e) hb (neC b o e hx) (I.base.keep b o e n hb hx) (I.base.free b o e n hx)
  · obtain ⟨sl, e1⟩ := I.base.slot b o e n hb hx
    obtain ⟨sl', e2⟩ := slot b _ (neL b o e) hb (neC b o e hx) e1 (I.base.free b o e n hx)
    exact ⟨sl', e2⟩
  · obtain ⟨o', e1⟩ := I.base.there b o e hx
    exact free b o' (neC b o e hx) e1 (I.base.free b o e n hx)
  · obtain ⟨o', e1⟩ := I.base.there b o e hx
    exact there b o' (neC b o e hx) e1
  · obtain ⟨m1, e1⟩ := I.base.tbls b ps e
    obtain ⟨m2, e2⟩ := tbls b _ e1
    exact ⟨m1 ++ m2, by rw [e2, Array.append_assoc]⟩
  · obtain ⟨m, hn, hl⟩ := I.loc
    refine ⟨m, ns m hn, fun i x v e1 e2 e3 => ?_⟩
    obtain ⟨u, r, l⟩ := hl i x v e1 e2 e3
    refine ⟨u, r, ?_⟩
    rcases l with l | ⟨k, c, e, z⟩
    · exact .inl l
    · exact .inr ⟨k, c, e, cellK x c e _ z⟩
  · obtain ⟨v, z⟩ := I.cell x c e
    exact ⟨v, cellK x c e v z⟩
  · obtain ⟨m, ⟨o, _, _, ho, _⟩, _⟩ := I.loc
    exact free _ o (fun z => (hch _ z).2.1 rfl) ho I.free
  · obtain ⟨v, o, ho, hd⟩ := I.cell x c e
    exact free c o (fun z => (hch c z).2.2.1 x c e rfl) ho (I.freeC x c e)
  · obtain ⟨e, n, ne, nf, d⟩ := I.pin p hp
    have nch : p.1 ∉ ch := fun z => (hch p.1 z).2.2.2 p hp rfl
    exact ⟨keep p.1 p.2 ne nf nch e n, free p.1 p.2 nch e n, ne, nf, d⟩
/-- .. where the frame's own object is kept too -/
theorem Inv.un {t' : Nat} (I : Inv X pins σ H s) (u : Un X.fs [] H H' s.heap h') (hok : HOk X.prog X.w H' h') : Inv X pins σ H' { s with heap := h', toks := t' } := by
  obtain ⟨m, ⟨o, es, ep, ho, r⟩, _⟩ := id I.loc
  obtain ⟨sl, hL⟩ := u.any ho I.free (by simp)
  exact I.step (g' := s.gens) (d' := s.drawn) (ch := []) (fun _ z => nomatch z) (fun b o _ hb _ e n => u.keep b o e n hb (by simp)) (fun b o _ hb _ e n => u.slot b o e n hb (by simp)) (fun b o _ e n => u.free b o e n (by simp)) (fun b o _ e => u.there b o e (by simp)) u.tups u.frzs u.tbls (fun m' hm => by
    obtain ⟨o', es', ep', ho', r'⟩ := hm
    rw [ho] at ho'; cases ho'
    exact ⟨_, es', ep', hL, r'⟩) hok I.bare
/-- behind a call (or a comprehension's block): the slots of this frame may have changed too, the records at ch may have turned -/
theorem Inv.call {g' : Array GenState} {t' : Nat} {d' : Drawn} {ch : List Addr} (I : Inv X pins σ H s) (u : Un (frs X.stack) ch H H' s.heap h') (hok : HOk X.prog X.w H' h') (hg : AllBare g')
    (hch : ∀ b ∈ ch, (b ∈ X.ex ∨ X.s₀.heap.objs.size ≤ b) ∧ b ≠ X.env.locals ∧ (∀ x c, X.env.cells.lookup x = some c → c ≠ b) ∧ ∀ p ∈ X.pn ++ pins, p.1 ≠ b) :
    Inv X pins σ H' { s with heap := h', gens := g', drawn := d', toks := t' } := by
  obtain ⟨m, ⟨o, es, ep, ho, r⟩, _⟩ := id I.loc
  obtain ⟨sl, hL⟩ := u.any ho I.free fun z => (hch _ z).2.1 rfl
  exact I.step (ch := ch) hch (fun b o hL hb hc e n => u.keep b o e n (fun z => (List.mem_cons.mp (I.stkSub b z)).elim hL hb) hc) (fun b o _ _ hc e n => u.any e n hc) (fun b o hc e n => u.free b o e n hc) (fun b o hc e => u.there b o e hc) u.tups u.frzs u.tbls (fun m' hm => by
    obtain ⟨o', es', ep', ho', r'⟩ := hm
    rw [ho] at ho'; cases ho'
    exact ⟨_, es', ep', hL, r'⟩) hok hg
/-- an untracked record of ours (an iterator) has turned -/
theorem Inv.turned {t' : Nat} {it : Addr} (I : Inv X pins σ H s) (k : ∀ b o, b ≠ it → s.heap.get? b = some o → h'.get? b = some o) (hn : H it = none) (hL : it ≠ X.env.locals)
    (h1 : it ∈ X.ex ∨ X.s₀.heap.objs.size ≤ it) (h2 : ∀ x c, X.env.cells.lookup x = some c → c ≠ it) (h3 : ∀ p ∈ X.pn ++ pins, p.1 ≠ it) : Inv X pins σ H { s with heap := h', toks := t' } := by
  have nit : ∀ b u, H b = some u → b ≠ it := fun b u e z => by rw [z, hn] at e; cases e
  refine I.step (g' := s.gens) (d' := s.drawn) (ch := [it]) (fun b hb => ?_) (fun b o _ _ hc e _ => k b o (fun z => hc (by simp [z])) e) (fun b o _ _ hc e _ => ⟨o.slots, k b o (fun z => hc (by simp [z])) e⟩) (fun _ _ _ _ n => n)
    (fun b o hc e => ⟨o, k b o (fun z => hc (by simp [z])) e⟩) (fun _ _ e => e) (fun _ _ _ e => e) (fun b ps e => ⟨#[], by rw [e]; simp⟩) (fun m hm => ?_) (fun b u e => ?_) I.bare
  · have e : b = it := by simpa using hb
    subst e
    exact ⟨h1, hL, h2, h3⟩
  · obtain ⟨o, es, ep, ho, r⟩ := hm
    exact ⟨o, es, ep, k _ o (Ne.symm hL) ho, r⟩
  · refine (I.hok b u e).stay (fun c v hc q => k c v ?_ q) (fun _ q => q) fun _ _ q => q
    rcases hc with z | z
    · rw [z]; exact nit b u e
    · exact nit c _ z
theorem Inv.tok (I : Inv X pins σ H s) (t : Nat) : Inv X pins σ H { s with toks := t } := I.un (h' := s.heap) (t' := t) Un.refl I.hok
/-- all objects kept -/
theorem Inv.kept {t' : Nat} (I : Inv X pins σ H s) (k : ∀ b u, s.heap.get? b = some u → h'.get? b = some u) : Inv X pins σ H { s with heap := h', toks := t' } := I.un (Un.kept k) (I.hok.kept k)
/-- a new object laid and tracked -/
theorem Inv.laid {a : Addr} {o : HO} {t' : Nat} (I : Inv X pins σ H s) (k : ∀ b u, s.heap.get? b = some u → h'.get? b = some u) (hp : s.heap.objs.size ≤ a) (new : ObjOk X.prog X.w (upd H a o) h' a o) :
    Inv X pins σ (upd H a o) { s with heap := h', toks := t' } := I.un (Un.laid k hp (I.hok.fresh hp)) (I.hok.laid k hp new)
/-- an object written -/
theorem Inv.write {x e : Addr} {o : HO} {t' : Nat} (I : Inv X pins σ H s) (mu : Mut (H x)) (he : e = x ∨ H e = some (.own x)) (k : ∀ b u, b ≠ e → s.heap.get? b = some u → h'.get? b = some u) (heo : ∃ u, h'.get? e = some u)
    (new : ObjOk X.prog X.w (upd H x o) h' x o) : Inv X pins σ (upd H x o) { s with heap := h', toks := t' } := I.un (Un.write mu he k heo) (I.hok.write mu he k heo new)
/-- forgetting slots, pins -/
theorem Inv.weak {σ' : List (Option V)} (I : Inv X pins σ H s) (hl : σ'.length = σ.length) (w : ∀ (i : Nat) v, σ'[i]? = some (some v) → σ[i]? = some (some v)) : Inv X pins σ' H s :=
  ⟨I.ok, I.os, I.bare, I.base, let ⟨m, hn, hl'⟩ := I.loc; ⟨m, hn, fun i x v e1 e2 e3 => hl' i x v e1 (w i v e2) e3⟩, I.cell, I.free, I.freeC, I.pin, I.hok, hl.trans I.len⟩
theorem Inv.pins_of {pins' : List (Addr × Obj)} (I : Inv X pins σ H s) (h : ∀ p ∈ pins', s.heap.get? p.1 = some p.2 ∧ H p.1 = none ∧ p.1 ≠ X.env.locals ∧ p.1 ∉ X.fs ∧ ∀ v, p.2.data ≠ .cell v) : Inv X pins' σ H s :=
  ⟨I.ok, I.os, I.bare, I.base, I.loc, I.cell, I.free, I.freeC, fun p hp => (List.mem_append.mp hp).elim (fun z => I.pin p (List.mem_append_left _ z)) (h p), I.hok, I.len⟩

theorem nodup_ix {N : List Str} (hN : N.Nodup) {i j : Nat} {x : Str} (a : N[i]? = some x) (b : N[j]? = some x) : i = j := by
  obtain ⟨h1, e1⟩ := List.getElem?_eq_some_iff.mp a
  obtain ⟨h2, e2⟩ := List.getElem?_eq_some_iff.mp b
  exact (List.getElem_inj hN).mp (e1.trans e2.symm)

/-- a name is stored; what changed -/
theorem store_ok2 {M : Model} {A : Around} {E : Value → Shared → Prop} {i : Nat} {x : Str} {v : V} {u : Value} {Q : Unit → Shared → Prop} (I : Inv X pins σ H s) (hN : X.N.Nodup) (hi : X.N[i]? = some x) (hx : Loc X.env.scope x) (r : RelV v u)
    (h : ∀ s', Inv X pins (σ.set i (some v)) H s' → (∃ a, Heap.SameBut a s.heap s'.heap ∧ (a = X.env.locals ∨ X.env.cells.lookup x = some a)) → Q () s') (hf : X.fn x = true ∨ X.env.scope.names.lookup x = some .local := by first | exact .inl rfl | exact .inr rfl | assumption) : wpAny M A (storeName X.env x u) Q E s := by
  obtain ⟨m, hn, hl⟩ := id I.loc
  have hcls : (X.env.scope.kind == .class || (X.env.scope.kind == .module && X.env.locals != X.env.globals)) = false := by rw [I.ok.kind]; rfl
  have hiσ : i < σ.length := by rw [I.len]; exact (List.getElem?_eq_some_iff.mp hi).1
  have cne := I.cne
  have tracked : ∀ {a : Addr} {h' : Heap}, (∃ o, s.heap.get? a = some o ∧ H a = none) → Heap.SameBut a s.heap h' → HOk X.prog X.w H h' := fun {a h'} ha hs b ob e => by
    obtain ⟨_, _, hfree⟩ := ha
    refine (I.hok b ob e).stay (fun c w' hc q => (hs.2 c ?_).trans q) (fun _ q => q) fun _ _ q => q
    rintro rfl
    rcases hc with rfl | hc
    · rw [hfree] at e; cases e
    · rw [hfree] at hc; cases hc
  rcases hx with hk | hk
  · refine wpAny_storeName_local hk hn (fun h' hn' hs => ?_) hcls
    obtain ⟨oL, _, _, hoL, _⟩ := id hn
    refine h _ ⟨I.ok, I.os, I.bare, ⟨fun b o e n hb hx => ?_, fun b o e n hb hx => ?_, I.base.free, fun b o e hx => ?_, I.base.tups, I.base.frzs, I.base.tbls⟩, ⟨_, hn', fun j y v' e1 e2 e3 => ?_⟩, fun y c e => ?_, I.free, I.freeC, fun p hp => ?_, tracked ⟨oL, hoL, I.free⟩ hs, by simpa using I.len⟩ ⟨_, hs, .inl rfl⟩
    · exact (hs.2 b (Nat.ne_of_lt (Nat.lt_of_lt_of_le (Heap.lt_size e) I.ok.above))).trans (I.base.keep b o e n hb hx)
    · obtain ⟨sl, e1⟩ := I.base.slot b o e n hb hx
      exact ⟨sl, (hs.2 b (Nat.ne_of_lt (Nat.lt_of_lt_of_le (Heap.lt_size e) I.ok.above))).trans e1⟩
    · obtain ⟨o', e1⟩ := I.base.there b o e hx
      exact ⟨o', (hs.2 b (Nat.ne_of_lt (Nat.lt_of_lt_of_le (Heap.lt_size e) I.ok.above))).trans e1⟩
    · by_cases hj : j = i
      · subst hj
        rw [hi] at e1; cases e1
        rw [List.getElem?_set_self hiσ] at e2
        cases e2
        exact ⟨u, r, .inl ⟨hk, by simp⟩⟩
      · rw [List.getElem?_set_ne (Ne.symm hj)] at e2
        obtain ⟨u', r', q⟩ := hl j y v' e1 e2 e3
        refine ⟨u', r', ?_⟩
        rcases q with ⟨k, e⟩ | ⟨k, c, e, z⟩
        · refine .inl ⟨k, ?_⟩
          have : y ≠ x := fun e => hj (nodup_ix hN e1 (e ▸ hi))
          simp [this, e]
        · exact .inr ⟨k, c, e, z.sameBut hs (cne y c e)⟩
    · obtain ⟨w', z⟩ := I.cell y c e
      exact ⟨w', z.sameBut hs (cne y c e)⟩
    · obtain ⟨e, n, ne, nf, d⟩ := I.pin p hp
      exact ⟨(hs.2 p.1 ne).trans e, n, ne, nf, d⟩
  · have hfn : X.fn x = true := by
      rcases hf with z | z
      · exact z
      · rw [z] at hk; cases hk
    obtain ⟨c, hc⟩ := I.ok.has x (.inl hk)
    obtain ⟨w', z⟩ := I.cell x c hc
    refine wpAny_storeName_cell I.ok.kind hk hc z (fun h' hc' hs => ?_)
    obtain ⟨oc, hoc, hocd⟩ := id z
    refine h { s with heap := h' } ⟨I.ok, I.os, I.bare, ⟨fun b o e n hb hx => ?_, fun b o e n hb hx => ?_, I.base.free, fun b o e hx => ?_, I.base.tups, I.base.frzs, I.base.tbls⟩, ⟨m, hn.sameBut hs (Ne.symm (cne x c hc)), fun j y v' e1 e2 e3 => ?_⟩, fun y c' e => ?_, I.free, I.freeC, fun p hp => ?_, tracked ⟨oc, hoc, I.freeC x c hc⟩ hs, by simpa using I.len⟩ ⟨c, hs, .inr hc⟩
    · exact (hs.2 b (Nat.ne_of_lt (Nat.lt_of_lt_of_le (Heap.lt_size e) (I.ok.cab x c hfn hc)))).trans (I.base.keep b o e n hb hx)
    · obtain ⟨sl, e1⟩ := I.base.slot b o e n hb hx
      exact ⟨sl, (hs.2 b (Nat.ne_of_lt (Nat.lt_of_lt_of_le (Heap.lt_size e) (I.ok.cab x c hfn hc)))).trans e1⟩
    · obtain ⟨o', e1⟩ := I.base.there b o e hx
      exact ⟨o', (hs.2 b (Nat.ne_of_lt (Nat.lt_of_lt_of_le (Heap.lt_size e) (I.ok.cab x c hfn hc)))).trans e1⟩
    · by_cases hj : j = i
      · subst hj
        rw [hi] at e1; cases e1
        rw [List.getElem?_set_self hiσ] at e2
        cases e2
        exact ⟨u, r, .inr ⟨.inl hk, c, hc, hc'⟩⟩
      · rw [List.getElem?_set_ne (Ne.symm hj)] at e2
        obtain ⟨u', r', q⟩ := hl j y v' e1 e2 e3
        refine ⟨u', r', ?_⟩
        rcases q with q | ⟨k, c', e, z'⟩
        · exact .inl q
        · refine .inr ⟨k, c', e, z'.sameBut hs ?_⟩
          rintro rfl
          exact hj (nodup_ix hN e1 (I.ok.inj _ _ _ e hc ▸ hi))
    · by_cases hcc : c' = c
      · subst hcc; exact ⟨_, hc'⟩
      · obtain ⟨w2, z2⟩ := I.cell y c' e
        exact ⟨w2, z2.sameBut hs hcc⟩
    · obtain ⟨e, n, ne, nf, d⟩ := I.pin p hp
      refine ⟨(hs.2 p.1 ?_).trans e, n, ne, nf, d⟩
      intro q
      rw [q, hoc] at e
      have q' : oc = p.2 := Option.some.inj e
      exact d w' (by rw [← q']; exact hocd)
theorem store_ok {M : Model} {A : Around} {E : Value → Shared → Prop} {i : Nat} {x : Str} {v : V} {u : Value} {Q : Unit → Shared → Prop} (I : Inv X pins σ H s) (hN : X.N.Nodup) (hi : X.N[i]? = some x) (hx : Loc X.env.scope x) (r : RelV v u)
    (h : ∀ s', Inv X pins (σ.set i (some v)) H s' → Q () s') (hf : X.fn x = true ∨ X.env.scope.names.lookup x = some .local := by first | exact .inl rfl | exact .inr rfl | assumption) : wpAny M A (storeName X.env x u) Q E s :=
  store_ok2 I hN hi hx r (fun s' I' _ => h s' I') hf
/-- behind a call or a block, the state as it is -/
theorem Inv.call' {s' : Shared} {ch : List Addr} (I : Inv X pins σ H s) (ho : s'.os = s.os) (u : Un (frs X.stack) ch H H' s.heap s'.heap) (hok : HOk X.prog X.w H' s'.heap) (hg : AllBare s'.gens)
    (hch : ∀ b ∈ ch, (b ∈ X.ex ∨ X.s₀.heap.objs.size ≤ b) ∧ b ≠ X.env.locals ∧ (∀ x c, X.env.cells.lookup x = some c → c ≠ b) ∧ ∀ p ∈ X.pn ++ pins, p.1 ≠ b) : Inv X pins σ H' s' := by
  obtain ⟨h', g', d', t', o'⟩ := s'
  have e : o' = s.os := ho
  subst e
  exact I.call (g' := g') (t' := t') (d' := d') u hok hg hch
end

/-! ### the judgements -/
/-- an exception: its class, its own dict's address (where it has one), the abstract heap behind it -/
abbrev XK := Value → Option Addr → Hp → Prop
abbrev St := List (Option V)
abbrev VK := V → Hp → Prop
/-- an expression's reading; a test's; an argument list's -/
abbrev TE := St → Hp → VK → Prop
abbrev TT := St → Hp → (Bool → Hp → Prop) → Prop
abbrev TA := St → Hp → (List V → Hp → Prop) → Prop
/-- what is wanted behind a statement -/
structure Ends where
  nx : St → Hp → Prop
  rt : VK
  bk : St → Hp → Prop := fun _ _ => False
  ct : St → Hp → Prop := fun _ _ => False
abbrev TS := Ends → St → Hp → Prop

def EP (X : Cx) (pins : List (Addr × Obj)) (σ : St) (Q : VK) (u : Value) (s' : Shared) : Prop := ∃ v H', Inv X pins σ H' s' ∧ RelV v u ∧ Q v H'
def TP (X : Cx) (pins : List (Addr × Obj)) (σ : St) (Q : Bool → Hp → Prop) (b : Bool) (s' : Shared) : Prop := ∃ H', Inv X pins σ H' s' ∧ Q b H'
def AP (X : Cx) (pins : List (Addr × Obj)) (σ : St) (Q : List V → Hp → Prop) (us : List Value) (s' : Shared) : Prop := ∃ vs H', Inv X pins σ H' s' ∧ Vals vs us ∧ Q vs H'
def SP (X : Cx) (pins : List (Addr × Obj)) (D : Ends) (f : Flow) (s' : Shared) : Prop :=
  match f with
  | .next => ∃ σ' H', Inv X pins σ' H' s' ∧ D.nx σ' H'
  | .brk => ∃ σ' H', Inv X pins σ' H' s' ∧ D.bk σ' H'
  | .cont => ∃ σ' H', Inv X pins σ' H' s' ∧ D.ct σ' H'
  | .ret u => ∃ v σ' H', Inv X pins σ' H' s' ∧ RelV v u ∧ D.rt v H'

def PE (X : Cx) (e : Expr) (t : TE) : Prop :=
  ∀ (pins : List (Addr × Obj)) (s : Shared) (σ : St) (H : Hp) (Q : VK), Inv X pins σ H s → t σ H Q → wpAny (model X.prog X.w) X.A (eval e X.env) (EP X pins σ Q) X.xe s
def PT (X : Cx) (e : Expr) (t : TT) : Prop :=
  ∀ (pins : List (Addr × Obj)) (s : Shared) (σ : St) (H : Hp) (Q : Bool → Hp → Prop), Inv X pins σ H s → t σ H Q → wpAny (model X.prog X.w) X.A (isTrue e X.env (eval e X.env)) (TP X pins σ Q) X.xe s
/-- a test whatever its 'whole' is (and, or) -/
def PW (X : Cx) (e : Expr) (t : TT) : Prop :=
  ∀ (whole : Sem Value) (pins : List (Addr × Obj)) (s : Shared) (σ : St) (H : Hp) (Q : Bool → Hp → Prop), Inv X pins σ H s → t σ H Q → wpAny (model X.prog X.w) X.A (isTrue e X.env whole) (TP X pins σ Q) X.xe s
theorem PW.pt {X : Cx} {e : Expr} {t : TT} (h : PW X e t) : PT X e t := h _
/-- an argument list (no star), from the left -/
def PA (X : Cx) (es : List Expr) (t : TA) : Prop :=
  ∀ (pos : Pos) (pins : List (Addr × Obj)) (s : Shared) (σ : St) (H : Hp) (Q : List V → Hp → Prop), Inv X pins σ H s → t σ H Q → wpAny (model X.prog X.w) X.A (spliced (backTo pos (starEach es X.env))) (AP X pins σ Q) X.xe s
def PS (X : Cx) (st : Stmt) (t : TS) : Prop :=
  ∀ (pins : List (Addr × Obj)) (s : Shared) (σ : St) (H : Hp) (D : Ends), Inv X pins σ H s → t D σ H → wpAny (model X.prog X.w) X.A (exec st X.env) (SP X pins D) X.xe s
def PSs (X : Cx) (st : List Stmt) (t : TS) : Prop :=
  ∀ (pins : List (Addr × Obj)) (s : Shared) (σ : St) (H : Hp) (D : Ends), Inv X pins σ H s → t D σ H → wpAny (model X.prog X.w) X.A (execs st X.env) (SP X pins D) X.xe s
/-- weaken the end -/
theorem thn {α : Type} {t : Sem α} {Q Q' : α → Shared → Prop} {M : Model} {A : Around} {E : Value → Shared → Prop} {s : Shared} (h : wpAny M A t Q E s) (hQ : ∀ a s, Q a s → Q' a s) : wpAny M A t Q' E s := wpAny_mono h hQ fun _ _ x => x
end L2

namespace L2
open PySem PySem.Spec PyProof.Rows
section
variable {X : Cx}

/-- two expressions in a row -/
theorem bin {a b : Expr} {ta tb : TE} (ha : PE X a ta) (hb : PE X b tb) {pins : List (Addr × Obj)} {s : Shared} {σ : St} {H : Hp} {R : V → V → Hp → Prop} (I : Inv X pins σ H s) (h : ta σ H fun x H1 => tb σ H1 fun y H2 => R x y H2)
    {α : Type} {Q : α → Shared → Prop} {f : Value → Value → Sem α}
    (hf : ∀ v u s2 x y H2, Inv X pins σ H2 s2 → RelV x v → RelV y u → R x y H2 → wpAny (model X.prog X.w) X.A (f v u) Q X.xe s2) :
    wpAny (model X.prog X.w) X.A (eval a X.env) (fun v s₁ => wpAny (model X.prog X.w) X.A (eval b X.env) (fun u s₂ => wpAny (model X.prog X.w) X.A (f v u) Q X.xe s₂) X.xe s₁) X.xe s := by
  refine thn (ha pins s σ H _ I h) fun v s1 ⟨x, H1, I1, r1, q1⟩ => ?_
  refine thn (hb pins s1 σ H1 _ I1 q1) fun u s2 ⟨y, H2, I2, r2, q2⟩ => ?_
  exact hf v u s2 x y H2 I2 r1 r2 q2

/-! ### names and constants -/
def tVar (i : Nat) : TE := fun σ H Q => ∃ v, σ[i]? = some (some v) ∧ Q v H
def tC (v : V) : TE := fun _ H Q => Q v H
theorem pe_var {i : Nat} {x : Str} {pos : Pos} (hN : X.N[i]? = some x) (hv : Vis X.env.scope x) (hd : (x == ("__debug__" : Str)) = false := by decide) (hcd : (x == ("__classdict__" : Str)) = false := by decide) : PE X (.Name x pos) (tVar i) := by
  intro pins s σ H Q I h
  obtain ⟨v, e, h⟩ := h
  obtain ⟨m, hn, hl⟩ := I.loc
  obtain ⟨u, r, l⟩ := hl i x v hN e hv
  have fin : EP X pins σ Q u s := ⟨v, H, I, r, h⟩
  rcases l with ⟨hk, hm⟩ | ⟨hk, c, hc, hcell⟩
  · exact wpAny_Name (wpAny_loadName_local I.ok.kind hk hn hm fin) hd
  · rcases hk with hk | hk
    · exact wpAny_Name (wpAny_loadName_cell I.ok.kind hk hc hcell fin) hd
    · exact wpAny_Name (wpAny_loadName_free I.ok.kind hk hc hcell fin hcd) hd
theorem pe_int {i j pos} : PE X (.Constant (.int i) j pos) (tC (.int i)) := fun _ _ _ H _ I h => wpAny_Constant_int ⟨.int i, H, I.tok _, ⟨_, rfl⟩, h⟩
theorem pe_bl {b j pos} : PE X (.Constant (.bool b) j pos) (tC (.bl b)) := fun _ _ _ H _ I h => Constant_bool ⟨.bl b, H, I, rfl, h⟩
theorem pe_non {j pos} : PE X (.Constant .none j pos) (tC .non) := fun _ _ _ H _ I h => Constant_none ⟨.non, H, I, rfl, h⟩
theorem pe_str {x j pos} : PE X (.Constant (.str x) j pos) (tC (.str x)) := fun _ _ _ H _ I h => Calls.Constant_str ⟨.str x, H, I.tok _, ⟨_, rfl⟩, h⟩

/-- a global name of the def -/
def Gl (X : Cx) (x : Str) : Prop := X.env.kindOf x = some .globalImplicit
theorem ld_glob {E : Value → Shared → Prop} {pins : List (Addr × Obj)} {s : Shared} {σ : St} {H : Hp} {x : Str} {u : Value} {pos : Pos} {Q : Value → Shared → Prop} (I : Inv X pins σ H s) (hg : Gl X x) (hm : X.mg x = some u) (h : Q u s)
    (hd : (x == ("__debug__" : Str)) = false := by decide) : wpAny (model X.prog X.w) X.A (eval (.Name x pos) X.env) Q E s :=
  Calls.Name_function_global I.ok.kind hg (Calls.loadGlobal_global (by rw [I.ok.glob]; exact I.mod.glob.keeps I.bk) hm h) hd
theorem ld_blt {E : Value → Shared → Prop} {pins : List (Addr × Obj)} {s : Shared} {σ : St} {H : Hp} {x : Str} {u : Value} {pos : Pos} {Q : Value → Shared → Prop} (I : Inv X pins σ H s) (hg : Gl X x) (hm : X.mg x = none) (hv : bootBuiltins x = some u) (h : Q u s)
    (hn : x ≠ "__name__" := by decide) (hd : (x == ("__debug__" : Str)) = false := by decide) : wpAny (model X.prog X.w) X.A (eval (.Name x pos) X.env) Q E s := by
  obtain ⟨mb, h1, h2⟩ := I.mod.blt
  exact Calls.Name_function_global I.ok.kind hg (Calls.loadGlobal_builtin (by rw [I.ok.glob]; exact I.mod.glob.keeps I.bk) hm (by rw [I.ok.blt]; exact h1.keeps I.bk) ((h2 x hn).trans hv) h) hd
/-- a module's constant, a class, a function, as a value -/
theorem pe_glob {x : Str} {v : V} {u : Value} {pos : Pos} (hg : Gl X x) (hm : X.mg x = some u) (r : RelV v u) (hd : (x == ("__debug__" : Str)) = false := by decide) : PE X (.Name x pos) (tC v) :=
  fun _ _ _ H _ I h => ld_glob I hg hm ⟨v, H, I, r, h⟩ hd
theorem pe_bltn {x : Str} {v : V} {u : Value} {pos : Pos} (hg : Gl X x) (hm : X.mg x = none) (hv : bootBuiltins x = some u) (r : RelV v u) (hn : x ≠ "__name__" := by decide) (hd : (x == ("__debug__" : Str)) = false := by decide) : PE X (.Name x pos) (tC v) :=
  fun _ _ _ H _ I h => ld_blt I hg hm hv ⟨v, H, I, r, h⟩ hn hd

/-! ### arithmetic -/
/-- two ints -/
def t2I (ta tb : TE) (k : Int → Int → Hp → Prop) : St → Hp → Prop := fun σ H => ta σ H fun x H1 => tb σ H1 fun y H2 => ∃ i j, x = .int i ∧ y = .int j ∧ k i j H2
def tAdd (ta tb : TE) : TE := fun σ H Q => t2I ta tb (fun i j H2 => Q (.int (i + j)) H2) σ H
def tSub (ta tb : TE) : TE := fun σ H Q => t2I ta tb (fun i j H2 => Q (.int (i - j)) H2) σ H
/-- the left factor below 2^64 -/
def tMul (ta tb : TE) : TE := fun σ H Q => t2I ta tb (fun i j H2 => (-(2 ^ 64) < i ∧ i < 2 ^ 64) ∧ Q (.int (i * j)) H2) σ H
variable {a b : Expr} {ta tb : TE} {pos : Pos}
theorem pe_add (ha : PE X a ta) (hb : PE X b tb) : PE X (.BinOp a .Add b pos) (tAdd ta tb) := by
  intro pins s σ H Q I h
  refine wpAny_BinOp (bin ha hb I h fun v u s2 x y H2 I2 rx ry q => ?_)
  obtain ⟨i, j, rfl, rfl, q⟩ := q
  obtain ⟨t, rfl⟩ := rx
  obtain ⟨t', rfl⟩ := ry
  exact add_int ⟨.int _, H2, I2.tok _, ⟨_, rfl⟩, q⟩
theorem pe_sub (ha : PE X a ta) (hb : PE X b tb) : PE X (.BinOp a .Sub b pos) (tSub ta tb) := by
  intro pins s σ H Q I h
  refine wpAny_BinOp (bin ha hb I h fun v u s2 x y H2 I2 rx ry q => ?_)
  obtain ⟨i, j, rfl, rfl, q⟩ := q
  obtain ⟨t, rfl⟩ := rx
  obtain ⟨t', rfl⟩ := ry
  exact sub_int ⟨.int _, H2, I2.tok _, ⟨_, rfl⟩, q⟩
theorem pe_mul (ha : PE X a ta) (hb : PE X b tb) : PE X (.BinOp a .Mult b pos) (tMul ta tb) := by
  intro pins s σ H Q I h
  refine wpAny_BinOp (bin ha hb I h fun v u s2 x y H2 I2 rx ry q => ?_)
  obtain ⟨i, j, rfl, rfl, ⟨q1, q2⟩, q⟩ := q
  obtain ⟨t, rfl⟩ := rx
  obtain ⟨t', rfl⟩ := ry
  exact mul_int ⟨.int _, H2, I2.tok _, ⟨_, rfl⟩, q⟩ (.of_left (intBits_le_64 q1 q2))

/-! ### comparisons -/
def PC (X : Cx) (op : CmpOp) (a b : Expr) (t : TE) : Prop :=
  ∀ (pins : List (Addr × Obj)) (s : Shared) (σ : St) (H : Hp) (Q : VK), Inv X pins σ H s → t σ H Q →
    wpAny (model X.prog X.w) X.A (eval a X.env) (fun v s₁ => wpAny (model X.prog X.w) X.A (eval b X.env) (fun u s₂ => wpAny (model X.prog X.w) X.A (compareOp op v u) (EP X pins σ Q) X.xe s₂) X.xe s₁) X.xe s
theorem nobehind (b : Expr) {op : CmpOp} (h : op ≠ .In) (h2 : op ≠ .NotIn) : behindInMarks op b = false := by
  have e1 : (op == CmpOp.In) = false := by cases op <;> first | rfl | exact absurd rfl h
  have e2 : (op == CmpOp.NotIn) = false := by cases op <;> first | rfl | exact absurd rfl h2
  cases b <;> simp [behindInMarks, e1, e2]
def tCmp (p : Int → Int → Bool) (ta tb : TE) : TE := fun σ H Q => t2I ta tb (fun i j H2 => Q (.bl (p i j)) H2) σ H
abbrev tLt : TE → TE → TE := tCmp fun i j => decide (i < j)
abbrev tLe : TE → TE → TE := tCmp fun i j => decide (i ≤ j)
abbrev tGt : TE → TE → TE := tCmp fun i j => decide (j < i)
abbrev tGe : TE → TE → TE := tCmp fun i j => decide (j ≤ i)
abbrev tEqI : TE → TE → TE := tCmp fun i j => decide (i = j)
abbrev tNeI : TE → TE → TE := tCmp fun i j => !decide (i = j)
/-- a comparison of two ints, by its rule -/
theorem pc_int {op : CmpOp} {p : Int → Int → Bool} (ha : PE X a ta) (hb : PE X b tb)
    (rule : ∀ (i j : Int) (t u : Tok) (Q : Value → Shared → Prop) (s : Shared), Q (.bool (p i j)) s → wpAny (model X.prog X.w) X.A (compareOp op (.int i t) (.int j u)) Q X.xe s) : PC X op a b (tCmp p ta tb) := by
  intro pins s σ H Q I h
  refine bin ha hb I h fun v u s2 x y H2 I2 rx ry q => ?_
  obtain ⟨i, j, rfl, rfl, q⟩ := q
  obtain ⟨t, rfl⟩ := rx
  obtain ⟨t', rfl⟩ := ry
  exact rule i j t t' _ s2 ⟨.bl _, H2, I2, rfl, q⟩
theorem pc_lt (ha : PE X a ta) (hb : PE X b tb) : PC X .Lt a b (tLt ta tb) := pc_int ha hb fun _ _ _ _ _ _ h => lt_int h
theorem pc_le (ha : PE X a ta) (hb : PE X b tb) : PC X .LtE a b (tLe ta tb) := pc_int ha hb fun _ _ _ _ _ _ h => le_int h
theorem pc_gt (ha : PE X a ta) (hb : PE X b tb) : PC X .Gt a b (tGt ta tb) := pc_int ha hb fun _ _ _ _ _ _ h => gt_int h
theorem pc_ge (ha : PE X a ta) (hb : PE X b tb) : PC X .GtE a b (tGe ta tb) := pc_int ha hb fun _ _ _ _ _ _ h => ge_int h
theorem pc_eqI (ha : PE X a ta) (hb : PE X b tb) : PC X .Eq a b (tEqI ta tb) := pc_int ha hb fun _ _ _ _ _ _ h => eq_int (by rw [Bool.beq_eq_decide_eq]; exact h)
theorem pc_neI (ha : PE X a ta) (hb : PE X b tb) : PC X .NotEq a b (tNeI ta tb) := pc_int ha hb fun _ _ _ _ _ _ h => ne_int (by rw [bne, Bool.beq_eq_decide_eq]; exact h)
/-- is None -/
def tIsN (ta : TE) : TE := fun σ H Q => ta σ H fun x H1 => Q (.bl (decide (x = .non))) H1
def tNotN (ta : TE) : TE := fun σ H Q => ta σ H fun x H1 => Q (.bl (!decide (x = .non))) H1
theorem RelV.none_iff {x : V} {v : Value} (r : RelV x v) : (v == Value.none) = decide (x = .non) := by
  cases x with
  | non => cases r; rfl
  | bl _ => cases r; rfl
  | int _ => obtain ⟨t, rfl⟩ := r; rfl
  | str _ => obtain ⟨t, rfl⟩ := r; rfl
  | byt _ => obtain ⟨t, rfl⟩ := r; rfl
  | flt _ => obtain ⟨t, rfl⟩ := r; rfl
  | ref _ => cases r; rfl
  | ty _ => cases r; rfl
theorem pc_isN {j pos'} (ha : PE X a ta) : PC X .Is a (.Constant .none j pos') (tIsN ta) := by
  intro pins s σ H Q I h
  refine thn (ha pins s σ H _ I h) fun v s1 ⟨x, H1, I1, r1, q1⟩ => ?_
  exact Constant_none (is_none_gen ⟨.bl _, H1, I1, by rw [r1.none_iff]; rfl, q1⟩)
theorem pc_notN {j pos'} (ha : PE X a ta) : PC X .IsNot a (.Constant .none j pos') (tNotN ta) := by
  intro pins s σ H Q I h
  refine thn (ha pins s σ H _ I h) fun v s1 ⟨x, H1, I1, r1, q1⟩ => ?_
  exact Constant_none (isnot_none_gen ⟨.bl _, H1, I1, by rw [r1.none_iff]; rfl, q1⟩)
/-- a comparison as a value, as a test -/
def tB (t : TE) : TT := fun σ H Q => t σ H fun x H1 => ∃ c, x = .bl c ∧ Q c H1
theorem pe_cmp {op : CmpOp} {t : TE} (h : PC X op a b t) (h1 : behindInMarks op b = false := by first | exact nobehind _ (by decide) (by decide) | rfl) : PE X (.Compare a [op] [b] pos) t := fun pins s σ H Q I hw => wpAny_Compare1 (h pins s σ H Q I hw) h1
theorem pt_cmp {op : CmpOp} {t : TE} (h : PC X op a b t) (h1 : behindInMarks op b = false := by first | exact nobehind _ (by decide) (by decide) | rfl) : PT X (.Compare a [op] [b] pos) (tB t) := by
  intro pins s σ H Q I hw
  refine wpAny_isTrue_Compare1 (thn (h pins s σ H _ I hw) fun v s1 h1 => thn h1 fun u s2 h2 => thn h2 fun c s3 ⟨x, H1, I1, r1, q1⟩ => ?_) h1
  obtain ⟨d, rfl, q⟩ := q1
  cases r1
  exact wpAny_truthy_bool ⟨H1, I1, q⟩
/-- an expression whose value is a bool, as a test -/
theorem pt_val {e : Expr} {t : TE} (h : PE X e t) (he : ∀ whole, isTrue e X.env whole = (do let v ← whole; standAt e.pos; holding [v] (truthy v)) := by intro _; rfl) : PT X e (tB t) := by
  intro pins s σ H Q I hw
  refine isTrue_plain (thn (h pins s σ H _ I hw) fun v s1 ⟨x, H1, I1, r1, q1⟩ => ?_) (he _)
  obtain ⟨d, rfl, q⟩ := q1
  cases r1
  exact wpAny_truthy_bool ⟨H1, I1, q⟩

/-! ### and, or, not -/
variable {tA tB' : TT} {rest : List Expr}
def tAnd (t u : TT) : TT := fun σ H Q => t σ H fun c H1 => if c = true then u σ H1 Q else Q false H1
def tOr (t u : TT) : TT := fun σ H Q => t σ H fun c H1 => if c = true then Q true H1 else u σ H1 Q
def tNot (t : TT) : TT := fun σ H Q => t σ H fun c H1 => Q (!c) H1
theorem pw_and1 (ha : PT X a tA) : PW X (.BoolOp .And [a] pos) tA := by
  intro wh pins s σ H Q I h
  refine isTrue_and (thn (ha pins s σ H Q I h) fun c s1 e => ?_)
  cases c with
  | true => exact isTrue_and_nil e
  | false => exact e
theorem pw_or1 (ha : PT X a tA) : PW X (.BoolOp .Or [a] pos) tA := by
  intro wh pins s σ H Q I h
  refine isTrue_or (thn (ha pins s σ H Q I h) fun c s1 e => ?_)
  cases c with
  | false => exact isTrue_or_nil e
  | true => exact e
theorem pw_and (ha : PT X a tA) (hb : PW X (.BoolOp .And (b :: rest) pos) tB') : PW X (.BoolOp .And (a :: b :: rest) pos) (tAnd tA tB') := by
  intro wh pins s σ H Q I h
  refine isTrue_and (thn (ha pins s σ H _ I h) fun c s1 ⟨H1, I1, q1⟩ => ?_)
  cases c with
  | true => exact hb wh pins s1 σ H1 Q I1 q1
  | false => exact ⟨H1, I1, q1⟩
theorem pw_or (ha : PT X a tA) (hb : PW X (.BoolOp .Or (b :: rest) pos) tB') : PW X (.BoolOp .Or (a :: b :: rest) pos) (tOr tA tB') := by
  intro wh pins s σ H Q I h
  refine isTrue_or (thn (ha pins s σ H _ I h) fun c s1 ⟨H1, I1, q1⟩ => ?_)
  cases c with
  | true => exact ⟨H1, I1, q1⟩
  | false => exact hb wh pins s1 σ H1 Q I1 q1
theorem pt_not (ha : PT X a tA) : PT X (.UnaryOp .Not a pos) (tNot tA) := by
  intro pins s σ H Q I h
  exact isTrue_not (ha pins s σ H (fun c H1 => Q (!c) H1) I h)
/-- .. as values (bools) -/
def tAndV (ta tb : TE) : TE := fun σ H Q => ta σ H fun x H1 => ∃ c, x = .bl c ∧ if c = true then tb σ H1 Q else Q (.bl false) H1
def tOrV (ta tb : TE) : TE := fun σ H Q => ta σ H fun x H1 => ∃ c, x = .bl c ∧ if c = true then Q (.bl true) H1 else tb σ H1 Q
def tNotV (ta : TE) : TE := fun σ H Q => ta σ H fun x H1 => ∃ c, x = .bl c ∧ Q (.bl (!c)) H1
theorem pe_one {op} {t : TE} (h : PE X a t) : PE X (.BoolOp op [a] pos) t := fun pins s σ H Q I hw => BoolOp_one (h pins s σ H Q I hw)
theorem pe_and (ha : PE X a ta) (hb : PE X (.BoolOp .And (b :: rest) pos) tb) : PE X (.BoolOp .And (a :: b :: rest) pos) (tAndV ta tb) := by
  intro pins s σ H Q I h
  refine BoolOp_and (thn (ha pins s σ H _ I h) fun v s1 ⟨x, H1, I1, r1, q1⟩ => ?_)
  obtain ⟨c, rfl, q1⟩ := q1
  cases r1
  refine wpAny_truthy_bool ?_
  cases c with
  | true => exact hb pins s1 σ H1 Q I1 q1
  | false => exact ⟨.bl false, H1, I1, rfl, q1⟩
theorem pe_or (ha : PE X a ta) (hb : PE X (.BoolOp .Or (b :: rest) pos) tb) : PE X (.BoolOp .Or (a :: b :: rest) pos) (tOrV ta tb) := by
  intro pins s σ H Q I h
  refine BoolOp_or (thn (ha pins s σ H _ I h) fun v s1 ⟨x, H1, I1, r1, q1⟩ => ?_)
  obtain ⟨c, rfl, q1⟩ := q1
  cases r1
  refine wpAny_truthy_bool ?_
  cases c with
  | false => exact hb pins s1 σ H1 Q I1 q1
  | true => exact ⟨.bl true, H1, I1, rfl, q1⟩
theorem pe_not (ha : PE X a ta) : PE X (.UnaryOp .Not a pos) (tNotV ta) := by
  intro pins s σ H Q I h
  refine UnaryOp_ (thn (ha pins s σ H _ I h) fun v s1 ⟨x, H1, I1, r1, q1⟩ => ?_)
  obtain ⟨c, rfl, q1⟩ := q1
  cases r1
  exact not_of (wpAny_truthy_bool ⟨.bl (!c), H1, I1, rfl, q1⟩)
/-- a if t else b -/
def tIf (t : TT) (ta tb : TE) : TE := fun σ H Q => t σ H fun c H1 => if c = true then ta σ H1 Q else tb σ H1 Q
theorem pe_ifExp {c : Expr} (hc : PT X c tA) (ha : PE X a ta) (hb : PE X b tb) : PE X (.IfExp c a b pos) (tIf tA ta tb) := by
  intro pins s σ H Q I h
  refine wpAny_IfExp (thn (hc pins s σ H _ I h) fun d s1 ⟨H1, I1, q1⟩ => ?_)
  cases d with
  | true => exact ha pins s1 σ H1 Q I1 q1
  | false => exact hb pins s1 σ H1 Q I1 q1
end
end L2

namespace L2
open PySem PySem.Spec PyProof.Rows

/-! ### a list, a tuple that is read: tracked, frozen, or an object of the module -/
def SqL (K : PySem.W.Frag) (H : Hp) (a : Addr) (xs : List V) : Prop :=
  Rd H a (.lst xs) ∨
    ∃ (o : Obj) (its : Array Value) (n : Nat), K.lookup a = some o ∧ o.cls = .type "list" ∧ o.dict = none ∧ o.data = .seq its n ∧ its.size ≤ sizeLine ∧ Vals xs its.toList
def SqT (K : PySem.W.Frag) (H : Hp) (a : Addr) (xs : List V) : Prop :=
  Rd H a (.tup xs) ∨
    ∃ (o : Obj) (its : Array Value) (n : Nat), K.lookup a = some o ∧ o.cls = .type "tuple" ∧ o.data = .seq its n ∧ its.size ≤ sizeLine ∧ Vals xs its.toList
def absV : Value → Option V
  | .none => some .non
  | .bool b => some (.bl b)
  | .int i _ => some (.int i)
  | .str x _ => some (.str x)
  | .bytes b _ => some (.byt b)
  | .float b _ => some (.flt b)
  | .ref a => some (.ref a)
  | .type n => some (.ty n)
  | _ => none
theorem RelV.abs {x : V} {u : Value} (r : RelV x u) : absV u = some x := by
  cases x with
  | non => cases r; rfl
  | bl _ => cases r; rfl
  | int _ => obtain ⟨t, rfl⟩ := r; rfl
  | str _ => obtain ⟨t, rfl⟩ := r; rfl
  | byt _ => obtain ⟨t, rfl⟩ := r; rfl
  | flt _ => obtain ⟨t, rfl⟩ := r; rfl
  | ref _ => cases r; rfl
  | ty _ => cases r; rfl
theorem RelV.inj {x y : V} {u : Value} (r : RelV x u) (q : RelV y u) : x = y := Option.some.inj (r.abs.symm.trans q.abs)
theorem Vals.inj : ∀ {xs ys : List V} {us : List Value}, Vals xs us → Vals ys us → xs = ys
  | _, _, _, .nil, .nil => rfl
  | _, _, _, .cons r t, .cons r' t' => by rw [r.inj r', Vals.inj t t']
section
variable {X : Cx} {pins : List (Addr × Obj)} {σ : St} {H : Hp} {s : Shared} {a : Addr} {xs ys : List V}
theorem SqL.of {K : PySem.W.Frag} (h : H a = some (.lst xs)) : SqL K H a xs := .inl (.inl h)
theorem SqT.of {K : PySem.W.Frag} (h : H a = some (.tup xs)) : SqT K H a xs := .inl (.inl h)
theorem Inv.list (I : Inv X pins σ H s) (h : SqL X.K H a xs) : ∃ its : List Value, Vals xs its ∧ PlainL s.heap a its.toArray ∧ xs.length ≤ sizeLine := by
  rcases h with h | ⟨o, its, n, hk, hc, hd, hs, hz, r⟩
  · obtain ⟨z, its, n, r, e⟩ := h.ok I.hok
    exact ⟨its, r, ⟨_, n, e, rfl, rfl, rfl⟩, z⟩
  · refine ⟨its.toList, r, ⟨o, n, I.kIn a o hk, hc, hd, by simpa using hs⟩, ?_⟩
    have e := r.length
    simp only [Array.length_toList] at e
    omega
theorem Inv.tuple (I : Inv X pins σ H s) (h : SqT X.K H a xs) : ∃ its : List Value, Vals xs its ∧ IsTup s.heap a its.toArray ∧ xs.length ≤ sizeLine := by
  rcases h with h | ⟨o, its, n, hk, hc, hs, hz, r⟩
  · obtain ⟨z, its, r, p⟩ := h.ok I.hok
    exact ⟨its, r, p, z⟩
  · refine ⟨its.toList, r, ⟨o, I.kIn a o hk, hc, n, by simpa using hs⟩, ?_⟩
    have e := r.length
    simp only [Array.length_toList] at e
    omega
theorem Inv.list_inj (I : Inv X pins σ H s) (h : SqL X.K H a xs) (h' : SqL X.K H a ys) : xs = ys := by
  obtain ⟨its, r, ⟨o, n, e, _, _, d⟩, _⟩ := I.list h
  obtain ⟨its', r', ⟨o', n', e', _, _, d'⟩, _⟩ := I.list h'
  rw [e] at e'; cases e'
  rw [d] at d'
  injection d' with d1 _
  have : its = its' := by simpa using congrArg Array.toList d1
  subst this
  exact r.inj r'
theorem Inv.tuple_inj (I : Inv X pins σ H s) (h : SqT X.K H a xs) (h' : SqT X.K H a ys) : xs = ys := by
  obtain ⟨its, r, ⟨o, e, _, n, d⟩, _⟩ := I.tuple h
  obtain ⟨its', r', ⟨o', e', _, n', d'⟩, _⟩ := I.tuple h'
  rw [e] at e'; cases e'
  rw [d] at d'
  injection d' with d1 _
  have : its = its' := by simpa using congrArg Array.toList d1
  subst this
  exact r.inj r'
end

/-! ### another wish about exceptions -/
abbrev Cx.wish (X : Cx) (E : Value → Shared → Prop) : Cx := { X with xe := E }
/-- no exception leaves -/
abbrev Cx.nox (X : Cx) : Cx := X.wish fun _ _ => False
theorem Cx.Ok.wish {X : Cx} (ok : X.Ok) (E : Value → Shared → Prop) : (X.wish E).Ok :=
  ⟨ok.mod, ok.kind, ok.glob, ok.blt, ok.above, ok.inj, ok.has, ok.cab, ok.hd, ok.frames, ok.stk, ok.exf, ok.bs, ok.bsz, ok.noex, ok.exfs, ok.funs, ok.frf⟩
theorem Cx.Ok.unwish {X : Cx} {E : Value → Shared → Prop} (ok : (X.wish E).Ok) : X.Ok :=
  ⟨ok.mod, ok.kind, ok.glob, ok.blt, ok.above, ok.inj, ok.has, ok.cab, ok.hd, ok.frames, ok.stk, ok.exf, ok.bs, ok.bsz, ok.noex, ok.exfs, ok.funs, ok.frf⟩
section
variable {X : Cx} {pins : List (Addr × Obj)} {σ : St} {H : Hp} {s : Shared} {E : Value → Shared → Prop}
theorem Inv.wish (I : Inv X pins σ H s) (E : Value → Shared → Prop) : Inv (X.wish E) pins σ H s := ⟨I.ok.wish E, I.os, I.bare, I.base, I.loc, I.cell, I.free, I.freeC, I.pin, I.hok, I.len⟩
theorem Inv.unwish (I : Inv (X.wish E) pins σ H s) : Inv X pins σ H s := ⟨I.ok.unwish, I.os, I.bare, I.base, I.loc, I.cell, I.free, I.freeC, I.pin, I.hok, I.len⟩
theorem SP.unwish {D : Ends} {f : Flow} {s' : Shared} (h : SP (X.wish E) pins D f s') : SP X pins D f s' := by
  cases f with
  | next => obtain ⟨σ', H', I, q⟩ := h; exact ⟨σ', H', I.unwish, q⟩
  | brk => obtain ⟨σ', H', I, q⟩ := h; exact ⟨σ', H', I.unwish, q⟩
  | cont => obtain ⟨σ', H', I, q⟩ := h; exact ⟨σ', H', I.unwish, q⟩
  | ret u => obtain ⟨v, σ', H', I, r, q⟩ := h; exact ⟨v, σ', H', I.unwish, r, q⟩
theorem PE.nox {e : Expr} {t : TE} (h : PE X.nox e t) : PE X e t := fun pins s σ H Q I hw =>
  wpAny_mono (h pins s σ H Q (I.wish _) hw) (fun _ _ ⟨v, H', I', r, q⟩ => ⟨v, H', I'.unwish, r, q⟩) fun _ _ z => False.elim z
theorem PT.nox {e : Expr} {t : TT} (h : PT X.nox e t) : PT X e t := fun pins s σ H Q I hw =>
  wpAny_mono (h pins s σ H Q (I.wish _) hw) (fun _ _ ⟨H', I', q⟩ => ⟨H', I'.unwish, q⟩) fun _ _ z => False.elim z
theorem PSs.nox {st : List Stmt} {t : TS} (h : PSs X.nox st t) : PSs X st t := fun pins s σ H D I hw =>
  wpAny_mono (h pins s σ H D (I.wish _) hw) (fun _ _ q => q.unwish) fun _ _ z => False.elim z
end

/-! ### blocks and small statements -/
section
variable {X : Cx} {st : Stmt} {rest : List Stmt} {t u : TS} {e : Expr} {te : TE} {pos : Pos}
def tNext : TS := fun D σ H => D.nx σ H
def tSeq (t u : TS) : TS := fun D σ H => t { D with nx := u D } σ H
theorem pss_nil : PSs X [] tNext := fun _ _ σ H _ I h => wpAny_execs_nil ⟨σ, H, I, h⟩
theorem pss_cons (h1 : PS X st t) (h2 : PSs X rest u) : PSs X (st :: rest) (tSeq t u) := by
  intro pins s σ H D I h
  refine wpAny_execs_cons (thn (h1 pins s σ H { D with nx := u D } I h) fun f s1 q => ?_)
  cases f with
  | next =>
    obtain ⟨σ', H', I', q⟩ := q
    exact h2 pins s1 σ' H' D I' q
  | ret v => exact q
  | brk => exact q
  | cont => exact q
theorem pss_one (h1 : PS X st t) : PSs X [st] t := by
  intro pins s σ H D I h
  refine wpAny_execs_cons (thn (h1 pins s σ H D I h) fun f s1 q => ?_)
  cases f with
  | next => exact wpAny_execs_nil q
  | ret v => exact q
  | brk => exact q
  | cont => exact q
def tBreak : TS := fun D σ H => D.bk σ H
def tCont : TS := fun D σ H => D.ct σ H
theorem ps_pass : PS X (.Pass pos) tNext := fun _ _ σ H _ I h => wpAny_Pass ⟨σ, H, I, h⟩
theorem ps_break : PS X (.Break pos) tBreak := fun _ _ σ H _ I h => wpAny_Break ⟨σ, H, I, h⟩
theorem ps_continue : PS X (.Continue pos) tCont := fun _ _ σ H _ I h => wpAny_Continue ⟨σ, H, I, h⟩
/-- in a def's body nothing is shown -/
theorem Inv.quiet {pins : List (Addr × Obj)} {σ : St} {H : Hp} {s : Shared} (I : Inv X pins σ H s) : interactive X.env = false := by simp [interactive, I.ok.kind]
/-- a docstring -/
theorem ps_doc {x j pos pos'} : PS X (.Expr (.Constant (.str x) j pos) pos') tNext := fun _ s σ H _ I h => wpAny_Expr (Calls.Constant_str (show SP X _ _ .next { s with toks := s.toks + 1 } from ⟨σ, H, I.tok _, h⟩)) I.quiet
/-- an expression whose value is dropped -/
def tDrop (te : TE) : TS := fun D σ H => te σ H fun _ H1 => D.nx σ H1
theorem ps_expr (he : PE X e te) (hs : swapsWith e none pos.line X.env = pure false := by rfl) : PS X (.Expr e pos) (tDrop te) := by
  intro pins s σ H D I h
  exact wpAny_Expr_any (thn (he pins s σ H _ I h) fun v s1 ⟨x, H1, I1, r1, q1⟩ => ⟨σ, H1, I1, q1⟩) I.quiet hs
def tRet (te : TE) : TS := fun D σ H => te σ H D.rt
theorem ps_ret (he : PE X e te) : PS X (.Return (some e) pos) (tRet te) := by
  intro pins s σ H D I h
  exact wpAny_Return_some (thn (he pins s σ H _ I h) fun v s1 ⟨x, H1, I1, r1, q1⟩ => ⟨x, σ, H1, I1, r1, q1⟩)
def tRetN : TS := fun D _ H => D.rt .non H
theorem ps_retN : PS X (.Return none pos) tRetN := fun _ _ σ H _ I h => wpAny_Return_none ⟨.non, σ, H, I, rfl, h⟩
def tIfS (c : TT) (t u : TS) : TS := fun D σ H => c σ H fun b H1 => if b = true then t D σ H1 else u D σ H1
theorem ps_if {c : Expr} {a b : List Stmt} {tc : TT} (hc : PT X c tc) (ha : PSs X a t) (hb : PSs X b u) : PS X (.If c a b pos) (tIfS tc t u) := by
  intro pins s σ H D I h
  refine wpAny_If (thn (hc pins s σ H _ I h) fun d s1 ⟨H1, I1, q1⟩ => ?_)
  cases d with
  | true => exact ha pins s1 σ H1 D I1 q1
  | false => exact hb pins s1 σ H1 D I1 q1
/-- code that the proof never comes to -/
def tNever : TS := fun _ _ _ => False
theorem ps_never : PS X st tNever := fun _ _ _ _ _ _ h => h.elim
theorem pss_never {sts : List Stmt} : PSs X sts tNever := fun _ _ _ _ _ _ h => h.elim
end

/-! ### targets -/
abbrev TG := V → St → Hp → (St → Hp → Prop) → Prop
abbrev TGs := List V → St → Hp → (St → Hp → Prop) → Prop
def PG (X : Cx) (target : Expr) (t : TG) : Prop :=
  ∀ (pins : List (Addr × Obj)) (s : Shared) (σ : St) (H : Hp) (v : V) (u : Value) (Q : St → Hp → Prop), Inv X pins σ H s → RelV v u → t v σ H Q →
    wpAny (model X.prog X.w) X.A (assign target X.env u) (fun _ s' => ∃ σ' H', Inv X pins σ' H' s' ∧ Q σ' H') X.xe s
/-- several targets, one after another -/
def PGs (X : Cx) (ts : List Expr) (t : TGs) : Prop :=
  ∀ (pins : List (Addr × Obj)) (s : Shared) (σ : St) (H : Hp) (vs : List V) (us : List Value) (Q : St → Hp → Prop), Inv X pins σ H s → Vals vs us → t vs σ H Q →
    wpAny (model X.prog X.w) X.A (assignInOrder ((assignEach ts X.env).map (·.2)) us) (fun _ s' => ∃ σ' H', Inv X pins σ' H' s' ∧ Q σ' H') X.xe s
/-- o[i] = v, by values -/
abbrev TSet := V → V → V → Hp → (Hp → Prop) → Prop
def PSet (X : Cx) (t : TSet) : Prop :=
  ∀ (pins : List (Addr × Obj)) (s : Shared) (σ : St) (H : Hp) (o i v : V) (ov iv u : Value) (Q : Hp → Prop), Inv X pins σ H s → RelV o ov → RelV i iv → RelV v u → t o i v H Q →
    wpAny (model X.prog X.w) X.A (setItem ov iv u) (fun _ s' => ∃ H', Inv X pins σ H' s' ∧ Q H') X.xe s
/-- a op= b, by values -/
abbrev TIp := V → V → Hp → VK → Prop
def PIp (X : Cx) (op : Operator) (t : TIp) : Prop :=
  ∀ (pins : List (Addr × Obj)) (s : Shared) (σ : St) (H : Hp) (x y : V) (v u : Value) (Q : VK), Inv X pins σ H s → RelV x v → RelV y u → t x y H Q →
    wpAny (model X.prog X.w) X.A (inplaceOp op v u) (EP X pins σ Q) X.xe s
section
variable {X : Cx} {pos : Pos}
def gName (i : Nat) : TG := fun v σ H Q => Q (σ.set i (some v)) H
theorem pg_name {i : Nat} {x : Str} (hN : X.N.Nodup) (hi : X.N[i]? = some x) (hx : Loc X.env.scope x) (hf : X.fn x = true ∨ X.env.scope.names.lookup x = some .local := by first | exact .inl rfl | exact .inr rfl | assumption) : PG X (.Name x pos) (gName i) := by
  intro pins s σ H v u Q I r h
  exact wpAny_assign_Name (store_ok I hN hi hx r (fun s' I' => ⟨_, H, I', h⟩) hf)
def gNil : TGs := fun vs σ H Q => vs = [] ∧ Q σ H
def gCons (t : TG) (u : TGs) : TGs := fun vs σ H Q => ∃ v r, vs = v :: r ∧ t v σ H fun σ' H' => u r σ' H' Q
theorem pgs_nil : PGs X [] gNil := by
  intro pins s σ H vs us Q I r h
  obtain ⟨e, h⟩ := h
  subst e
  cases r
  exact assignInOrder_nil ⟨σ, H, I, h⟩
theorem pgs_cons {e : Expr} {es : List Expr} {t : TG} {u : TGs} (h1 : PG X e t) (h2 : PGs X es u)
    (hs : (assignEach (e :: es) X.env).map (·.2) = assign e X.env :: (assignEach es X.env).map (·.2) := by rfl) : PGs X (e :: es) (gCons t u) := by
  intro pins s σ H vs us Q I r h
  obtain ⟨v, vr, e1, h⟩ := h
  subst e1
  cases r with
  | cons r rr =>
    rw [hs]
    refine assignInOrder_cons (thn (h1 pins s σ H _ _ _ I r h) fun _ s1 ⟨σ1, H1, I1, q1⟩ => ?_)
    exact h2 pins s1 σ1 H1 _ _ Q I1 rr q1
/-- (a, b, ..) = a tuple of that length -/
def gTup (K : PySem.W.Frag) (n : Nat) (t : TGs) : TG := fun v σ H Q => ∃ a xs, v = .ref a ∧ SqT K H a xs ∧ xs.length = n ∧ t xs σ H Q
theorem pg_tup {es : List Expr} {k : Nat} {t : TGs} {n : Nat} (hc : X.calm = true) (h : PGs X es t)
    (hn : (assignEach es X.env).length = n := by rfl) (hst : (assignEach es X.env).findIdx? (·.1) = none := by rfl) : PG X (.Tuple es k pos) (gTup X.K n t) := by
  intro pins s σ H v u Q I r hw
  obtain ⟨a, xs, e1, hq, hl, hw⟩ := hw
  subst e1
  cases r
  obtain ⟨its, rv, ht, hz⟩ := I.tuple hq
  refine assign_Tuple_tuple (I.ok.hd hc) ht (by simp [hn, ← hl, rv.length]) hst fun h' hx => ?_
  have I1 : Inv X pins σ H { s with heap := h' } := I.kept (t' := s.toks) fun b o e => hx b o (Nat.ne_of_lt (Heap.lt_size e)) e
  exact h pins _ σ H xs _ Q I1 (by simpa using rv) hw
/-- o[i] = .. -/
def gSub (to ti : TE) (t : TSet) : TG := fun v σ H Q => to σ H fun o H1 => ti σ H1 fun i H2 => t o i v H2 fun H3 => Q σ H3
theorem pg_sub {o i : Expr} {to ti : TE} {t : TSet} (ho : PE X o to) (hi : PE X i ti) (hs : PSet X t)
    (ha : ∀ v, assign (.Subscript o i pos) X.env v = (do
      let ov ← holding [v] (eval o X.env)
      let iv ← holding [v, ov] (eval i X.env)
      standAt pos
      holding [v, ov, iv] (setItem ov iv v)
      release [v, ov, iv] []) := by intro _; rfl) : PG X (.Subscript o i pos) (gSub to ti t) := by
  intro pins s σ H v u Q I r h
  rw [ha]
  refine wpAny_bind (wpAny_holding (thn (ho pins s σ H _ I h) fun ov s1 ⟨x, H1, I1, r1, q1⟩ => ?_))
  refine wpAny_bind (wpAny_holding (thn (hi pins s1 σ H1 _ I1 q1) fun iv s2 ⟨y, H2, I2, r2, q2⟩ => ?_))
  refine wpAny_bind (wpAny_standAt (wpAny_bind (wpAny_holding (thn (hs pins s2 σ H2 x y v ov iv u _ I2 r1 r2 r q2) fun _ s3 ⟨H3, I3, q3⟩ => ?_))))
  exact wpAny_release ⟨σ, H3, I3, q3⟩
/-- target = value -/
def tAsg (te : TE) (g : TG) : TS := fun D σ H => te σ H fun x H1 => g x σ H1 D.nx
theorem ps_asg {tg e : Expr} {te : TE} {g : TG} (he : PE X e te) (hg : PG X tg g) (hs : swapsWithSole [tg] e pos.line X.env = pure false := by rfl) (hw : swappedStores [tg] e X.env = pure none := by rfl)
    (h1 : (assignEach [tg] X.env).map (·.2) = [assign tg X.env] := by rfl) : PS X (.Assign [tg] e pos) (tAsg te g) := by
  intro pins s σ H D I h
  refine wpAny_Assign_stores (thn (he pins s σ H _ I h) fun v s1 ⟨x, H1, I1, r1, q1⟩ => ?_) hs hw
  rw [h1]
  exact thn (hg pins s1 σ H1 x v _ I1 r1 q1) fun _ s2 q => q
/-- name = value -/
theorem ps_set {i : Nat} {x : Str} {e : Expr} {te : TE} {pos' : Pos} (hN : X.N.Nodup) (hi : X.N[i]? = some x) (hx : Loc X.env.scope x) (he : PE X e te) (hs : swapsWith e (some (.Name x pos')) pos.line X.env = pure false := by rfl) (hf : X.fn x = true ∨ X.env.scope.names.lookup x = some .local := by first | exact .inl rfl | exact .inr rfl | assumption) :
    PS X (.Assign [.Name x pos'] e pos) (tAsg te (gName i)) := by
  intro pins s σ H D I h
  refine wpAny_Assign_Name (thn (he pins s σ H _ I h) fun v s1 ⟨y, H1, I1, r1, q1⟩ => ?_) hs
  exact store_ok I1 hN hi hx r1 (fun s2 I2 => ⟨_, H1, I2, q1⟩) hf
/-- a, b = x, y with plain local names: stored from the right; the pair itself is not tracked (the opening rows as in PyProof/Rows/TupAssign.lean:23) -/
def tPar (i j : Nat) (ta : TA) : TS := fun D σ H => ta σ H fun vs H1 => ∃ v w, vs = [v, w] ∧ D.nx ((σ.set i (some v)).set j (some w)) H1
theorem ps_par {i j : Nat} {x y : Str} {a b : Expr} {ta : TA} {px py pt : Pos} {kt k2 pt2} (hc : X.calm = true) (hN : X.N.Nodup) (hi : X.N[i]? = some x) (hj : X.N[j]? = some y) (hij : i ≠ j)
    (hx : X.env.scope.names.lookup x = some .local) (hy : X.env.scope.names.lookup y = some .local) (ha : PA X [a, b] ta)
    (hw : swappedStores [.Tuple [.Name x px, .Name y py] kt pt] (.Tuple [a, b] k2 pt2) X.env = pure (some [x, y]))
    (hs : swapsWithSole [.Tuple [.Name x px, .Name y py] kt pt] (.Tuple [a, b] k2 pt2) pos.line X.env = pure false := by rfl) :
    PS X (.Assign [.Tuple [.Name x px, .Name y py] kt pt] (.Tuple [a, b] k2 pt2) pos) (tPar i j ta) := by
  intro pins s σ H D I h
  rw [exec_Assign_arm]
  refine wpAny_bind (wpAny_standAt ?_)
  rw [hs]
  refine wpAny_bind (wpAny_pure ?_)
  rw [if_neg (by decide)]
  refine wpAny_bind (Tuple_ (thn (ha _ pins s σ H _ I h) fun us s1 ⟨vs, H1, I1, r1, q1⟩ => ?_))
  obtain ⟨v, w, e1, q1⟩ := q1
  subst e1
  obtain ⟨u1, u2, rfl, rv, rw'⟩ : ∃ u1 u2, us = [u1, u2] ∧ RelV v u1 ∧ RelV w u2 := by
    cases r1 with
    | cons p q =>
      cases q with
      | cons p' q' =>
        cases q'
        exact ⟨_, _, rfl, p, p'⟩
  refine wpAny_newObj_type ?_ (by show 2 ≤ sizeLine; decide)
  have I2 : Inv X pins σ H1 { s1 with heap := s1.heap.push { cls := .type "tuple", data := .seq [u1, u2].toArray } } := I1.kept (t' := s1.toks) fun b o e => Heap.get?_push_of_some _ e
  rw [hw]
  refine wpAny_bind (wpAny_pure ?_)
  show wpAny (model X.prog X.w) X.A (do rule "assign.swapped-stores"; let items ← unpackItems (.ref s1.heap.objs.size) 2 none; assignInOrder [fun v => bindName X.env y v, fun v => bindName X.env x v] items.reverse; pure Flow.next) _ _ _
  refine wpAny_bind (wpAny_rule (wpAny_bind (unpackItems_tuple (items := #[u1, u2]) (I.ok.hd hc) (IsTup.new s1.heap _) fun h' hx' => ?_)))
  have I3 := I2.kept (h' := h') (t' := s1.toks) fun b o e => hx' b o (Nat.ne_of_lt (Heap.lt_size e)) e
  show wpAny _ _ (assignInOrder [fun v => bindName X.env y v, fun v => bindName X.env x v] [u2, u1] >>= fun _ => pure Flow.next) _ _ _
  refine wpAny_bind (assignInOrder_cons (wpAny_bindName (store_ok I3 hN hj (.inl hy) rw' (fun s2 I4 => ?_) (.inr hy))))
  refine assignInOrder_cons (wpAny_bindName (store_ok I4 hN hi (.inl hx) rv (fun s3 I5 => assignInOrder_nil (wpAny_pure ?_)) (.inr hx)))
  rw [List.set_comm _ _ (Ne.symm hij)] at I5
  exact ⟨_, H1, I5, q1⟩
/-- name op= e -/
def tAug (i : Nat) (te : TE) (ti : TIp) : TS := fun D σ H => ∃ x, σ[i]? = some (some x) ∧ te σ H fun y H1 => ti x y H1 fun z H2 => D.nx (σ.set i (some z)) H2
theorem ps_aug {i : Nat} {x : Str} {e : Expr} {te : TE} {op : Operator} {ti : TIp} {pos' : Pos} (hN : X.N.Nodup) (hi : X.N[i]? = some x) (hx : Loc X.env.scope x) (he : PE X e te) (ho : PIp X op ti) (hf : X.fn x = true ∨ X.env.scope.names.lookup x = some .local := by first | exact .inl rfl | exact .inr rfl | assumption) :
    PS X (.AugAssign (.Name x pos') op e pos) (tAug i te ti) := by
  intro pins s σ H D I h
  obtain ⟨v, e1, h⟩ := h
  obtain ⟨m, hn, hl⟩ := I.loc
  have vis : Vis X.env.scope x := by rcases hx with k | k; exact .inl k; exact .inr (.inl k)
  obtain ⟨u, r, l⟩ := hl i x v hi e1 vis
  refine wpAny_AugAssign_Name ?_
  have go : wpAny (model X.prog X.w) X.A (eval e X.env) (fun w s₂ => wpAny (model X.prog X.w) X.A (inplaceOp op u w) (fun r s₃ => wpAny (model X.prog X.w) X.A (storeName X.env x r) (fun _ => SP X pins D .next) X.xe s₃) X.xe s₂) X.xe s := by
    refine thn (he pins s σ H _ I h) fun w s1 ⟨y, H1, I1, r1, q1⟩ => ?_
    refine thn (ho pins s1 σ H1 v y u w _ I1 r r1 q1) fun z s2 ⟨zv, H2, I2, r2, q2⟩ => ?_
    exact store_ok I2 hN hi hx r2 (fun s3 I3 => ⟨_, H2, I3, q2⟩) hf
  rcases l with ⟨hk, hm⟩ | ⟨hk, c, hc, hcell⟩
  · exact wpAny_loadName_local I.ok.kind hk hn hm go
  · rcases hk with hk | hk
    · exact wpAny_loadName_cell I.ok.kind hk hc hcell go
    · rcases hx with k | k
      · have : X.env.scope.names.lookup x = some .free := hk
        rw [k] at this; cases this
      · have : X.env.scope.names.lookup x = some .free := hk
        rw [k] at this; cases this
/-- o[i] op= e -/
def tAugS (to ti te : TE) (tget : V → V → Hp → VK → Prop) (tip : TIp) (tset : TSet) : TS := fun D σ H => to σ H fun o H1 => ti σ H1 fun i H2 => tget o i H2 fun x H3 => te σ H3 fun y H4 => tip x y H4 fun z H5 => tset o i z H5 fun H6 => D.nx σ H6
/-- o[i], by values -/
def PGet (X : Cx) (t : V → V → Hp → VK → Prop) : Prop :=
  ∀ (pins : List (Addr × Obj)) (s : Shared) (σ : St) (H : Hp) (o i : V) (ov iv : Value) (Q : VK), Inv X pins σ H s → RelV o ov → RelV i iv → t o i H Q →
    wpAny (model X.prog X.w) X.A (getItem ov iv) (EP X pins σ Q) X.xe s
theorem ps_augS {o i e : Expr} {to ti te : TE} {tget : V → V → Hp → VK → Prop} {tip : TIp} {tset : TSet} {op : Operator} {tpos : Pos} (ho : PE X o to) (hi : PE X i ti) (hg : PGet X tget) (he : PE X e te) (hp : PIp X op tip) (hs : PSet X tset)
    (ha : ∀ ov iv new, augStore i ov iv new = (do holding [new, ov, iv] (setItem ov iv new); release [new, ov, iv] []; pure .next) := by intros; rfl) : PS X (.AugAssign (.Subscript o i tpos) op e pos) (tAugS to ti te tget tip tset) := by
  intro pins s σ H D I h
  refine wpAny_AugAssign_SubscriptAny (thn (ho pins s σ H _ I h) fun ov s1 ⟨x1, H1, I1, r1, q1⟩ => ?_) ha
  refine thn (hi pins s1 σ H1 _ I1 q1) fun iv s2 ⟨x2, H2, I2, r2, q2⟩ => ?_
  refine thn (hg pins s2 σ H2 x1 x2 ov iv _ I2 r1 r2 q2) fun old s3 ⟨x3, H3, I3, r3, q3⟩ => ?_
  refine thn (he pins s3 σ H3 _ I3 q3) fun v s4 ⟨x4, H4, I4, r4, q4⟩ => ?_
  refine thn (hp pins s4 σ H4 x3 x4 old v _ I4 r3 r4 q4) fun new s5 ⟨x5, H5, I5, r5, q5⟩ => ?_
  exact thn (hs pins s5 σ H5 x1 x2 x5 ov iv new _ I5 r1 r2 r5 q5) fun _ s6 ⟨H6, I6, q6⟩ => ⟨σ, H6, I6, q6⟩
/-- ints -/
def ipI (f : Int → Int → Int) : TIp := fun x y H Q => ∃ i j, x = .int i ∧ y = .int j ∧ Q (.int (f i j)) H
theorem ip_add : PIp X .Add (ipI fun i j => i + j) := by
  intro pins s σ H x y v u Q I r1 r2 h
  obtain ⟨i, j, e1, e2, q⟩ := h
  subst e1; subst e2
  obtain ⟨t, rfl⟩ := r1
  obtain ⟨t', rfl⟩ := r2
  exact iadd_int ⟨.int _, H, I.tok _, ⟨_, rfl⟩, q⟩
theorem ip_sub : PIp X .Sub (ipI fun i j => i - j) := by
  intro pins s σ H x y v u Q I r1 r2 h
  obtain ⟨i, j, e1, e2, q⟩ := h
  subst e1; subst e2
  obtain ⟨t, rfl⟩ := r1
  obtain ⟨t', rfl⟩ := r2
  exact isub_int ⟨.int _, H, I.tok _, ⟨_, rfl⟩, q⟩
end

/-! ### while -/
section
variable {X : Cx} {pos : Pos}
/-- the invariant W with its measure -/
def tWhile (c : TT) (tb : TS) : TS := fun D σ H => ∃ W : Nat → St → Hp → Prop, (∃ m, W m σ H) ∧ ∀ m σ H, W m σ H →
  c σ H fun b H1 => if b = true then ∃ N : St → Hp → Prop, (∀ σ' H', N σ' H' → ∃ m', m' < m ∧ W m' σ' H') ∧ tb { D with nx := N, ct := N, bk := D.nx } σ H1 else D.nx σ H1
theorem ps_while {c : Expr} {body : List Stmt} {tc : TT} {tb : TS} (hp : PassesOwn (model X.prog X.w) X.A X.env X.xe) (hc : PT X c tc) (hb : PSs X body tb) : PS X (.While c body [] pos) (tWhile tc tb) := by
  intro pins s σ H D I h
  obtain ⟨W, ⟨m0, w0⟩, turn⟩ := h
  refine wpAny_While (codeAny_whileLoop (fun n s' => ∃ σ' H', Inv X pins σ' H' s' ∧ W n σ' H') ?_ m0 ⟨σ, H, I, w0⟩)
  rintro n s1 ⟨σ1, H1, I1, w1⟩
  refine wpAny_passesOwn hp (thn (hc pins s1 σ1 H1 _ I1 (turn n σ1 H1 w1)) fun b s2 ⟨H2, I2, q2⟩ => ?_)
  cases b with
  | true =>
    obtain ⟨N, hN, q2⟩ := q2
    rw [if_pos rfl]
    refine wpAny_passesOwn hp (thn (hb pins s2 σ1 H2 _ I2 q2) fun f s3 q3 => ?_)
    cases f with
    | next =>
      obtain ⟨σ3, H3, I3, n3⟩ := q3
      obtain ⟨m', hm, w3⟩ := hN σ3 H3 n3
      exact ⟨m', hm, σ3, H3, I3, w3⟩
    | cont =>
      obtain ⟨σ3, H3, I3, n3⟩ := q3
      obtain ⟨m', hm, w3⟩ := hN σ3 H3 n3
      exact ⟨m', hm, σ3, H3, I3, w3⟩
    | brk => exact q3
    | ret v => exact q3
  | false =>
    rw [if_neg Bool.false_ne_true]
    exact wpAny_execs_nil ⟨σ1, H2, I2, q2⟩
end

/-! ### what a loop or a comprehension walks -/
/-- at turn i: it yields x (the heap may grow), or it stops -/
structure It where
  go : Nat → Hp → Prop
  yld : Nat → Hp → V → Hp → Prop
  stop : Nat → Hp → Prop
/-- the iterator's own objects may turn: they are not the frame's, not pinned, younger than the entry (or a comprehension's own) -/
def FpOk (X : Cx) (pins : List (Addr × Obj)) (H : Hp) (b : Addr) : Prop :=
  H b = none ∧ b ≠ X.env.locals ∧ b ∉ X.fs ∧ (b ∈ X.ex ∨ X.s₀.heap.objs.size ≤ b) ∧ (∀ x c, X.env.cells.lookup x = some c → c ≠ b) ∧ ∀ p ∈ X.pn ++ pins, p.1 ≠ b
theorem Inv.fpOk {X : Cx} {pins : List (Addr × Obj)} {σ : St} {H H' : Hp} {s : Shared} {b : Addr} (I : Inv X pins σ H s) (hb : s.heap.objs.size ≤ b) (hn : H' b = none) : FpOk X pins H' b := by
  refine ⟨hn, Nat.ne_of_gt (Nat.lt_of_lt_of_le I.lt hb), I.nofs hb, .inr (Nat.le_trans I.sz hb), fun x c e z => ?_, fun p hp z => ?_⟩
  · obtain ⟨v, q⟩ := I.cell x c e
    exact absurd (Nat.lt_of_lt_of_le q.lt (by rw [z]; exact hb)) (Nat.lt_irrefl _)
  · exact absurd (Nat.lt_of_lt_of_le (Heap.lt_size (I.pin p hp).1) (by rw [z]; exact hb)) (Nat.lt_irrefl _)
structure Turn (P : Program) (w : World) (K : PySem.W.Frag) (tg : Expr) (J : It) (fp : List Addr) (it : Addr) (tn : Nat → Heap → Prop) : Prop where
  mem : it ∈ fp
  obj : ∀ i h, tn i h → ∀ b ∈ fp, ∃ o, h.get? b = some o ∧ ∀ v, o.data ≠ .cell v
  keep : ∀ i h h', tn i h → (∀ b ∈ fp, ∀ o, h.get? b = some o → h'.get? b = some o) → tn i h'
  item : ∀ (X : Cx), X.prog = P → X.w = w → X.K = K → X.calm = true → ∀ (i : Nat) (pins : List (Addr × Obj)) (s : Shared) (σ : St) (H : Hp) (E : Value → Shared → Prop), Inv X pins σ H s → (∀ b ∈ fp, FpOk X pins H b) → tn i s.heap → J.go i H →
    wpAny (model P w) X.A (pyNext (.ref it)) (fun r s1 => ∃ u, r = some u ∧
      wpAny (model P w) X.A (letOwnedTupleGo tg (.ref it) u) (fun _ s2 => ∃ x H', Inv X pins σ H' s2 ∧ RelV x u ∧ J.yld i H x H' ∧ tn (i + 1) s2.heap ∧ ∀ b ∈ fp, H' b = none) E s1) E s
  done : ∀ (X : Cx), X.prog = P → X.w = w → X.K = K → X.calm = true → ∀ (i : Nat) (pins : List (Addr × Obj)) (s : Shared) (σ : St) (H : Hp) (E : Value → Shared → Prop), Inv X pins σ H s → (∀ b ∈ fp, FpOk X pins H b) → tn i s.heap → J.stop i H →
    wpAny (model P w) X.A (pyNext (.ref it)) (fun r s1 => r = none ∧ Inv X pins σ H s1) E s
  self : ∀ (A : Around) (i : Nat) (s : Shared) (Q : Value → Shared → Prop) (E : Value → Shared → Prop), tn i s.heap → Q (.ref it) s → wpAny (model P w) A (pyIter (.ref it)) Q E s
abbrev TI := St → Hp → (It → Hp → Prop) → Prop
/-- an iterator has come -/
def PIE (X : Cx) (pins : List (Addr × Obj)) (σ : St) (tg : Expr) (R : It → Hp → Prop) (itv : Value) (s2 : Shared) : Prop :=
  ∃ (it : Addr) (fp : List Addr) (tn : Nat → Heap → Prop) (J : It) (H' : Hp), itv = .ref it ∧ Inv X pins σ H' s2 ∧ Turn X.prog X.w X.K tg J fp it tn ∧ tn 0 s2.heap ∧ (∀ b ∈ fp, FpOk X pins H' b) ∧ R J H'
def PI (X : Cx) (tg iter : Expr) (wi : TI) : Prop :=
  ∀ (pins : List (Addr × Obj)) (s : Shared) (σ : St) (H : Hp) (R : It → Hp → Prop), Inv X pins σ H s → wi σ H R →
    wpAny (model X.prog X.w) X.A (eval iter X.env) (fun v s1 => wpAny (model X.prog X.w) X.A (pyIter v) (PIE X pins σ tg R) X.xe s1) X.xe s

/-- the step ahead of the store is nothing for an iterator that keeps no tuple -/
theorem go_of {M : Model} {A : Around} {E : Value → Shared → Prop} {s : Shared} {tg : Expr} {it : Addr} {u : Value} {o : Obj} {n : String} {vs : Array Value} {Q : Unit → Shared → Prop} (ho : s.heap.get? it = some o) (hc : o.cls = .type n) (hd : o.data = .fields vs)
    (hn : ["enumerate", "zip", "dict_itemiterator", "dict_reverseitemiterator", "odict_iterator", "itertools.zip_longest", "itertools.pairwise"].contains n = false) (hQ : Q () s) : wpAny M A (letOwnedTupleGo tg (.ref it) u) Q E s := by
  unfold letOwnedTupleGo
  cases tg <;> first
    | exact wpAny_pure hQ
    | (cases u <;> first
        | exact wpAny_pure hQ
        | (refine wpAny_bind (wpAny_load ho ?_)
           rw [hc, hd]
           show wpAny M A (if (["enumerate", "zip", "dict_itemiterator", "dict_reverseitemiterator", "odict_iterator", "itertools.zip_longest", "itertools.pairwise"].contains n && vs[0]? == some (rawInt _)) = true then _ else _) Q E s
           rw [if_neg (by intro h; rw [hn, Bool.false_and] at h; cases h)]
           exact wpAny_pure hQ))

/-- the list at a, as it stands at each turn (a loop may append to it) -/
def Itl (K : PySem.W.Frag) (a : Addr) : It :=
  ⟨fun i H => ∃ xs x, SqL K H a xs ∧ xs[i]? = some x, fun i H x H' => H' = H ∧ ∀ xs, SqL K H a xs → xs[i]? = some x, fun i H => ∃ xs, SqL K H a xs ∧ xs.length ≤ i⟩
def Itt (K : PySem.W.Frag) (a : Addr) : It :=
  ⟨fun i H => ∃ xs x, SqT K H a xs ∧ xs[i]? = some x, fun i H x H' => H' = H ∧ ∀ xs, SqT K H a xs → xs[i]? = some x, fun i H => ∃ xs, SqT K H a xs ∧ xs.length ≤ i⟩
/-- lo, lo + 1, .. (n of them) -/
def Itr (lo : Int) (n : Nat) : It := ⟨fun i _ => i < n, fun i H x H' => H' = H ∧ x = .int (lo + i), fun i _ => n ≤ i⟩
theorem turn_list {P : Program} {w : World} {K : PySem.W.Frag} {tg : Expr} (a it : Addr) : Turn P w K tg (Itl K a) [it] it (fun i h => h.IsListIter it a i) where
  mem := by simp
  obj := fun i h st b hb => by
    have e : b = it := by simpa using hb
    subst e
    obtain ⟨o, e, c, d⟩ := st
    exact ⟨o, e, fun v z => by rw [d] at z; cases z⟩
  keep := fun i h h' st k => st.at fun o e => k it (by simp) o e
  item := by
    intro X hP hw hK hc i pins s σ H E I hf st hg
    subst hP hw hK
    obtain ⟨xs, x, hq, hx⟩ := hg
    obtain ⟨its, rv, p, hz⟩ := I.list hq
    obtain ⟨u, hu, ru⟩ := rv.get hx
    obtain ⟨f0, f1, f2, f3, f4, f5⟩ := hf it (by simp)
    refine wpAny_pyNext_list_item st p.isList (x := u) (by simpa using hu) fun h' st' sb => ?_
    have I1 : Inv X pins σ H { s with heap := h' } := I.turned (t' := s.toks) (fun b o hb e => (sb.2 b hb).trans e) f0 f1 f3 f4 f5
    obtain ⟨o, e, c, d⟩ := id st'
    exact ⟨u, rfl, go_of (s := { s with heap := h' }) e c d (by decide) ⟨x, H, I1, ru, ⟨rfl, fun ys hy => by rw [I.list_inj hy hq]; exact hx⟩, st', fun b hb => (hf b hb).1⟩⟩
  done := by
    intro X hP hw hK hc i pins s σ H E I hf st hg
    subst hP hw hK
    obtain ⟨xs, hq, hx⟩ := hg
    obtain ⟨its, rv, p, hz⟩ := I.list hq
    obtain ⟨f0, f1, f2, f3, f4, f5⟩ := hf it (by simp)
    have hl := rv.length
    exact wpAny_pyNext_list_end (I.ok.hd hc) st p.isList (by simp; omega) fun h' eb => ⟨rfl, I.turned (t' := s.toks) (fun b o hb e => eb b o hb e) f0 f1 f3 f4 f5⟩
  self := fun _ _ _ _ _ st h => wpAny_pyIter_listiter st h
theorem turn_tuple {P : Program} {w : World} {K : PySem.W.Frag} {tg : Expr} (a it : Addr) : Turn P w K tg (Itt K a) [it] it (fun i h => h.IsTupleIter it a i) where
  mem := by simp
  obj := fun i h st b hb => by
    have e : b = it := by simpa using hb
    subst e
    obtain ⟨o, e, c, d⟩ := st
    exact ⟨o, e, fun v z => by rw [d] at z; cases z⟩
  keep := fun i h h' st k => st.at fun o e => k it (by simp) o e
  item := by
    intro X hP hw hK hc i pins s σ H E I hf st hg
    subst hP hw hK
    obtain ⟨xs, x, hq, hx⟩ := hg
    obtain ⟨its, rv, p, hz⟩ := I.tuple hq
    obtain ⟨u, hu, ru⟩ := rv.get hx
    obtain ⟨f0, f1, f2, f3, f4, f5⟩ := hf it (by simp)
    refine wpAny_pyNext_tuple_item st (show s.heap.IsTuple a its.toArray from p) (x := u) (by simpa using hu) fun h' st' sb => ?_
    have I1 : Inv X pins σ H { s with heap := h' } := I.turned (t' := s.toks) (fun b o hb e => (sb.2 b hb).trans e) f0 f1 f3 f4 f5
    obtain ⟨o, e, c, d⟩ := id st'
    exact ⟨u, rfl, go_of (s := { s with heap := h' }) e c d (by decide) ⟨x, H, I1, ru, ⟨rfl, fun ys hy => by rw [I.tuple_inj hy hq]; exact hx⟩, st', fun b hb => (hf b hb).1⟩⟩
  done := by
    intro X hP hw hK hc i pins s σ H E I hf st hg
    subst hP hw hK
    obtain ⟨xs, hq, hx⟩ := hg
    obtain ⟨its, rv, p, hz⟩ := I.tuple hq
    obtain ⟨f0, f1, f2, f3, f4, f5⟩ := hf it (by simp)
    have hl := rv.length
    exact wpAny_pyNext_tuple_end (I.ok.hd hc) st (show s.heap.IsTuple a its.toArray from p) (by simp; omega) fun h' eb => ⟨rfl, I.turned (t' := s.toks) (fun b o hb e => eb b o hb e) f0 f1 f3 f4 f5⟩
  self := fun _ _ _ _ _ st h => wpAny_pyIter_tupleiter st h
theorem turn_range {P : Program} {w : World} {K : PySem.W.Frag} {tg : Expr} (it : Addr) (lo : Int) (n : Nat) : Turn P w K tg (Itr lo n) [it] it (fun i h => IsRangeIter h it (lo + (i : Nat) * 1) ((n : Int) - (i : Nat)) 1) where
  mem := by simp
  obj := fun i h st b hb => by
    have e : b = it := by simpa using hb
    subst e
    exact ⟨_, st, fun v z => by
      have z' : Data.fields _ = Data.cell v := z
      cases z'⟩
  keep := fun i h h' st k => k it (by simp) _ st
  item := by
    intro X hP hw hK hc i pins s σ H E I hf st hg
    subst hP hw hK
    obtain ⟨f0, f1, f2, f3, f4, f5⟩ := hf it (by simp)
    have W := Walks.range (prog := X.prog) (w := X.w) (I.ok.hd hc) it lo 1 n
    refine W.item i s _ _ hg st fun v h' tk hv st' kk => ?_
    obtain ⟨t, rfl⟩ := hv
    have I1 : Inv X pins σ H { s with heap := h', toks := tk } := I.turned (fun b o hb e => kk b o (by simpa using hb) e) f0 f1 f3 f4 f5
    refine ⟨_, rfl, go_of (s := { s with heap := h', toks := tk }) (n := "range_iterator") st' rfl rfl (by decide) ⟨.int (lo + i), H, I1, ⟨t, ?_⟩, ⟨rfl, rfl⟩, st', fun b hb => (hf b hb).1⟩⟩
    rw [Int.mul_one]
  done := by
    intro X hP hw hK hc i pins s σ H E I hf st hg
    subst hP hw hK
    obtain ⟨f0, f1, f2, f3, f4, f5⟩ := hf it (by simp)
    exact wpAny_pyNext_range_end (I.ok.hd hc) st (by have : n ≤ i := hg; omega) fun h' eb => ⟨rfl, I.turned (t' := s.toks) (fun b o hb e => eb b o hb e) f0 f1 f3 f4 f5⟩
  self := fun _ _ _ _ _ st h => wpAny_pyIter_rangeiter st h
end L2

namespace L2
open PySem PySem.Spec PyProof.Rows
section
variable {X : Cx} {tg : Expr}
def iList (K : PySem.W.Frag) (tl : TE) : TI := fun σ H R => tl σ H fun x H1 => ∃ a, x = .ref a ∧ (∃ xs, SqL K H1 a xs) ∧ R (Itl K a) H1
def iTup (K : PySem.W.Frag) (tl : TE) : TI := fun σ H R => tl σ H fun x H1 => ∃ a, x = .ref a ∧ (∃ xs, SqT K H1 a xs) ∧ R (Itt K a) H1
theorem pi_list {l : Expr} {tl : TE} (hl : PE X l tl) : PI X tg l (iList X.K tl) := by
  intro pins s σ H R I h
  refine thn (hl pins s σ H _ I h) fun v s1 ⟨x, H1, I1, r1, q1⟩ => ?_
  obtain ⟨a, e, ⟨xs, hq⟩, q⟩ := q1
  subst e
  cases r1
  obtain ⟨its, rv, p, hz⟩ := I1.list hq
  refine wpAny_pyIter_list p.isList ?_
  refine ⟨s1.heap.objs.size, [s1.heap.objs.size], _, _, H1, rfl, I1.kept (t' := s1.toks) fun b o e => Heap.get?_push_of_some _ e, turn_list a _, ⟨_, Heap.get?_push_size _ rfl, rfl, rfl⟩, fun b hb => ?_, q⟩
  have e : b = s1.heap.objs.size := by simpa using hb
  subst e
  exact I1.fpOk (Nat.le_refl _) (I1.hok.fresh (Nat.le_refl _))
theorem pi_tup {l : Expr} {tl : TE} (hl : PE X l tl) : PI X tg l (iTup X.K tl) := by
  intro pins s σ H R I h
  refine thn (hl pins s σ H _ I h) fun v s1 ⟨x, H1, I1, r1, q1⟩ => ?_
  obtain ⟨a, e, ⟨xs, hq⟩, q⟩ := q1
  subst e
  cases r1
  obtain ⟨its, rv, p, hz⟩ := I1.tuple hq
  refine wpAny_pyIter_tuple (show s1.heap.IsTuple a its.toArray from p) ?_
  refine ⟨s1.heap.objs.size, [s1.heap.objs.size], _, _, H1, rfl, I1.kept (t' := s1.toks) fun b o e => Heap.get?_push_of_some _ e, turn_tuple a _, ⟨_, Heap.get?_push_size _ rfl, rfl, rfl⟩, fun b hb => ?_, q⟩
  have e : b = s1.heap.objs.size := by simpa using hb
  subst e
  exact I1.fpOk (Nat.le_refl _) (I1.hok.fresh (Nat.le_refl _))
/-- a range object just made, walked -/
theorem range_it {pins : List (Addr × Obj)} {σ : St} {H : Hp} {s : Shared} {R : It → Hp → Prop} {E : Value → Shared → Prop} {lo hi : Int} {t u v : Tok} {tk : Nat} (I : Inv X pins σ H s) (h1 : -(2 ^ 62) ≤ lo) (h2 : lo < 2 ^ 62) (h3 : -(2 ^ 62) ≤ hi) (h4 : hi < 2 ^ 62)
    (q : R (Itr lo (hi - lo).toNat) H) : wpAny (model X.prog X.w) X.A (pyIter (.ref s.heap.objs.size)) (PIE X pins σ tg R) E { s with heap := s.heap.push { cls := .type "range", data := .fields #[.int lo t, .int hi u, .int 1 v] }, toks := tk } := by
  refine wpAny_pyIter_range (IsRange.new ..) (small_one h1 h2 h3 h4) ?_
  have I1 : Inv X pins σ H { s with heap := s.heap.push { cls := .type "range", data := .fields #[.int lo t, .int hi u, .int 1 v] }, toks := tk } := I.kept fun b o e => Heap.get?_push_of_some _ e
  refine ⟨(s.heap.push { cls := .type "range", data := .fields #[.int lo t, .int hi u, .int 1 v] }).objs.size, [(s.heap.push { cls := .type "range", data := .fields #[.int lo t, .int hi u, .int 1 v] }).objs.size], _, _, H, rfl,
    I1.kept (t' := tk) fun b o e => Heap.get?_push_of_some _ e, turn_range _ lo (hi - lo).toNat, ?_, fun b hb => ?_, q⟩
  · have e1 : lo + ((0 : Nat) : Int) * 1 = lo := by simp
    have e2 : (((hi - lo).toNat : Nat) : Int) - ((0 : Nat) : Int) = Builtin.Range.rangeSize lo hi 1 := by rw [rangeSize_one]; split <;> omega
    show IsRangeIter _ _ (lo + ((0 : Nat) : Int) * 1) ((((hi - lo).toNat : Nat) : Int) - ((0 : Nat) : Int)) 1
    rw [e1, e2]
    exact Heap.get?_push_size _ rfl
  · have e : b = (s.heap.push { cls := .type "range", data := .fields #[.int lo t, .int hi u, .int 1 v] }).objs.size := by simpa using hb
    subst e
    exact I1.fpOk (Nat.le_refl _) (I1.hok.fresh (Nat.le_refl _))
def iRng1 (ta : TA) : TI := fun σ H R => ta σ H fun vs H1 => ∃ j : Int, vs = [.int j] ∧ -(2 ^ 62) ≤ j ∧ j < 2 ^ 62 ∧ R (Itr 0 j.toNat) H1
def iRng2 (ta : TA) : TI := fun σ H R => ta σ H fun vs H1 => ∃ i j : Int, vs = [.int i, .int j] ∧ (-(2 ^ 62) ≤ i ∧ i < 2 ^ 62 ∧ -(2 ^ 62) ≤ j ∧ j < 2 ^ 62) ∧ R (Itr i (j - i).toNat) H1
theorem pi_range1 {a : Expr} {ta : TA} {p pos : Pos} (hg : Gl X "range") (hm : X.mg "range" = none) (ha : PA X [a] ta) (hs : starEach [a] X.env = [(false, eval a X.env)] := by rfl) : PI X tg (.Call (.Name "range" p) [a] [] pos) (iRng1 ta) := by
  intro pins s σ H R I h
  refine Call_ (ld_blt I hg hm boot_range (PyProof.Rows.callWith_type1 (thn (ha pos pins s σ H _ I h) fun us s1 ⟨vs, H1, I1, r1, q1⟩ => ?_) hs rfl))
  obtain ⟨j, e, q1, q2, q⟩ := q1
  subst e
  cases r1 with
  | cons r rr =>
    cases rr
    obtain ⟨t, rfl⟩ := r
    exact call_range_1 (range_it I1 (by omega) (by omega) q1 q2 (by simpa using q))
theorem pi_range2 {a b : Expr} {ta : TA} {p pos : Pos} (hg : Gl X "range") (hm : X.mg "range" = none) (ha : PA X [a, b] ta) (hs : starEach [a, b] X.env = [(false, eval a X.env), (false, eval b X.env)] := by rfl) (hs2 : starEach [b] X.env = [(false, eval b X.env)] := by rfl) :
    PI X tg (.Call (.Name "range" p) [a, b] [] pos) (iRng2 ta) := by
  intro pins s σ H R I h
  refine Call_ (ld_blt I hg hm boot_range (PyProof.Rows.callWith_type1 (thn (ha pos pins s σ H _ I h) fun us s1 ⟨vs, H1, I1, r1, q1⟩ => ?_) (by rw [hs, hs2]) (by rw [hs2]; rfl)))
  obtain ⟨i, j, e, ⟨q1, q2, q3, q4⟩, q⟩ := q1
  subst e
  cases r1 with
  | cons r rr =>
    cases rr with
    | cons r' rr =>
      cases rr
      obtain ⟨t, rfl⟩ := r
      obtain ⟨t', rfl⟩ := r'
      exact call_range_2 (range_it I1 q1 q2 q3 q4 q)

/-! ### for -/
/-- W: the invariant by the turn and a measure; N: what the body is to reach -/
def tFor (wi : TI) (g : TG) (tb : TS) : TS := fun D σ H => wi σ H fun J H1 => ∃ W : Nat → Nat → St → Hp → Prop, (∃ m, W 0 m σ H1) ∧ ∀ i m σ H, W i m σ H →
  (J.stop i H ∧ D.nx σ H) ∨ (J.go i H ∧ ∃ N : St → Hp → Prop, (∀ σ' H', N σ' H' → ∃ m', m' < m ∧ W (i + 1) m' σ' H') ∧ ∀ x H', J.yld i H x H' → g x σ H' fun σ2 H2 => tb { D with nx := N, ct := N, bk := D.nx } σ2 H2)
/-- the records at fp as they stand -/
def pinsAt (fp : List Addr) (h : Heap) : List (Addr × Obj) := fp.filterMap fun b => (h.get? b).map fun o => (b, o)
theorem mem_pinsAt {fp : List Addr} {h : Heap} {b : Addr} {o : Obj} (hb : b ∈ fp) (e : h.get? b = some o) : (b, o) ∈ pinsAt fp h := List.mem_filterMap.mpr ⟨b, hb, by rw [e]; rfl⟩
theorem of_pinsAt {fp : List Addr} {h : Heap} {p : Addr × Obj} (hp : p ∈ pinsAt fp h) : p.1 ∈ fp ∧ h.get? p.1 = some p.2 := by
  obtain ⟨b, hb, e⟩ := List.mem_filterMap.mp hp
  cases q : h.get? b with
  | none => rw [q] at e; cases e
  | some o =>
    rw [q] at e
    have e' : (b, o) = p := Option.some.inj e
    subst e'
    exact ⟨hb, q⟩
theorem Inv.pinned {pins : List (Addr × Obj)} {σ : St} {H : Hp} {s : Shared} {fp : List Addr} (I : Inv X pins σ H s) (hf : ∀ b ∈ fp, FpOk X pins H b) (ho : ∀ b ∈ fp, ∃ o, s.heap.get? b = some o ∧ ∀ v, o.data ≠ .cell v) : Inv X (pins ++ pinsAt fp s.heap) σ H s :=
  I.pins_of fun p hp => (List.mem_append.mp hp).elim (fun z => I.pin p (List.mem_append_right _ z)) fun z => by
    obtain ⟨hb, e⟩ := of_pinsAt z
    obtain ⟨f0, f1, f2, _⟩ := hf p.1 hb
    obtain ⟨o, e', d⟩ := ho p.1 hb
    rw [e] at e'; cases e'
    exact ⟨e, f0, f1, f2, d⟩
theorem Inv.unpinned {pins pl : List (Addr × Obj)} {σ : St} {H : Hp} {s : Shared} (I : Inv X (pins ++ pl) σ H s) : Inv X pins σ H s := I.pins_of fun p hp => I.pin p (List.mem_append_right _ (List.mem_append_left _ hp))
theorem ps_for {iter : Expr} {body : List Stmt} {wi : TI} {g : TG} {tb : TS} {pos : Pos} (hp : PassesOwn (model X.prog X.w) X.A X.env X.xe) (hc : X.calm = true) (hi : PI X tg iter wi) (hg : PG X tg g) (hb : PSs X body tb)
    (hs : ∀ x, foldedSetIterable iter X.env x = pure x := by intro _; rfl) : PS X (.For tg iter body [] pos) (tFor wi g tb) := by
  intro pins s σ H D I h
  refine wpAny_For (thn (hi pins s σ H _ I h) fun v s1 h1 => thn h1 fun itv s2 h2 => ?_) hs
  obtain ⟨it, fp, tn, J, H2, e, I2, T, st2, f2, W, ⟨m0, w0⟩, turn⟩ := h2
  subst e
  -- what stays true of the iterator's objects through the loop
  have stat : ∀ {H' : Hp}, (∀ b ∈ fp, H' b = none) → ∀ b ∈ fp, FpOk X pins H' b := fun hn b hb => ⟨hn b hb, (f2 b hb).2⟩
  refine codeAny_forLoop_any (fun n s' => ∃ i σ' H', Inv X pins σ' H' s' ∧ tn i s'.heap ∧ (∀ b ∈ fp, H' b = none) ∧ W i n σ' H') ?_ m0 ⟨0, σ, H2, I2, st2, fun b hb => (f2 b hb).1, w0⟩
  rintro n s3 ⟨i, σ3, H3, I3, st3, fr3, w3⟩
  rcases turn i n σ3 H3 w3 with ⟨stop, qn⟩ | ⟨go, N, hN, step⟩
  · refine wpAny_passesOwn hp (thn (T.done X rfl rfl rfl hc i pins s3 σ3 H3 X.xe I3 (stat fr3) st3 stop) fun r s4 ⟨hr, I4⟩ => ?_)
    subst hr
    exact wpAny_execs_nil ⟨σ3, H3, I4, qn⟩
  · refine wpAny_passesOwn hp (thn (T.item X rfl rfl rfl hc i pins s3 σ3 H3 X.xe I3 (stat fr3) st3 go) fun r s4 ⟨u, hr, h4⟩ => ?_)
    subst hr
    refine wpAny_passesOwn hp (thn h4 fun _ s5 ⟨x, H5, I5, r5, y5, st5, fr5⟩ => ?_)
    have I5' := I5.pinned (stat fr5) (T.obj _ _ st5)
    refine wpAny_passesOwn hp (thn (hg _ s5 σ3 H5 x u _ I5' r5 (step x H5 y5)) fun _ s6 ⟨σ6, H6, I6, q6⟩ => ?_)
    refine wpAny_passesOwn hp (thn (hb _ s6 σ6 H6 _ I6 q6) fun f s7 q7 => ?_)
    have again : ∀ {σ7 : St} {H7 : Hp}, Inv X (pins ++ pinsAt fp s5.heap) σ7 H7 s7 → N σ7 H7 → ∃ m, m < n ∧ ∃ i σ' H', Inv X pins σ' H' s7 ∧ tn i s7.heap ∧ (∀ b ∈ fp, H' b = none) ∧ W i m σ' H' := fun {σ7 H7} I7 n7 => by
      obtain ⟨m', hm, w7⟩ := hN σ7 H7 n7
      refine ⟨m', hm, i + 1, σ7, H7, I7.unpinned, T.keep _ _ _ st5 fun b hb o e => (I7.pin (b, o) (List.mem_append_right _ (List.mem_append_right _ (mem_pinsAt hb e)))).1, fun b hb => ?_, w7⟩
      obtain ⟨o, e, d⟩ := T.obj _ _ st5 b hb
      exact (I7.pin (b, o) (List.mem_append_right _ (List.mem_append_right _ (mem_pinsAt hb e)))).2.1
    cases f with
    | next => obtain ⟨σ7, H7, I7, n7⟩ := q7; exact again I7 n7
    | cont => obtain ⟨σ7, H7, I7, n7⟩ := q7; exact again I7 n7
    | brk => obtain ⟨σ7, H7, I7, q7⟩ := q7; exact ⟨σ7, H7, I7.unpinned, q7⟩
    | ret v => obtain ⟨x7, σ7, H7, I7, r7, q7⟩ := q7; exact ⟨x7, σ7, H7, I7.unpinned, r7, q7⟩
end

/-! ### the forms one uses -/
/-- over a list that the body leaves as it is -/
theorem for_list {K : PySem.W.Frag} {a : Addr} {xs : List V} {g : TG} {tb : TS} {D : Ends} {σ : St} {H : Hp} (Pv : Nat → St → Hp → Prop) (h0 : Pv 0 σ H) (hl : ∀ i σ H, i ≤ xs.length → Pv i σ H → SqL K H a xs)
    (hs : ∀ i x σ H, xs[i]? = some x → Pv i σ H → g x σ H fun σ2 H2 => tb { D with nx := Pv (i + 1), ct := Pv (i + 1), bk := D.nx } σ2 H2) (hd : ∀ σ H, Pv xs.length σ H → D.nx σ H) :
    ∃ W : Nat → Nat → St → Hp → Prop, (∃ m, W 0 m σ H) ∧ ∀ i m σ H, W i m σ H →
      ((Itl K a).stop i H ∧ D.nx σ H) ∨ ((Itl K a).go i H ∧ ∃ N : St → Hp → Prop, (∀ σ' H', N σ' H' → ∃ m', m' < m ∧ W (i + 1) m' σ' H') ∧ ∀ x H', (Itl K a).yld i H x H' → g x σ H' fun σ2 H2 => tb { D with nx := N, ct := N, bk := D.nx } σ2 H2) := by
  refine ⟨fun i m σ H => m = xs.length - i ∧ i ≤ xs.length ∧ Pv i σ H, ⟨xs.length, by simp, Nat.zero_le _, h0⟩, ?_⟩
  rintro i m σ H ⟨rfl, hi, p⟩
  have q := hl i σ H hi p
  by_cases hlt : i < xs.length
  · refine .inr ⟨⟨xs, xs[i], q, by simp [hlt]⟩, Pv (i + 1), fun σ' H' p' => ⟨xs.length - (i + 1), by omega, rfl, hlt, p'⟩, fun x H' y => ?_⟩
    obtain ⟨e, y⟩ := y
    subst e
    exact hs i x σ _ (y xs q) p
  · have e : i = xs.length := by omega
    subst e
    exact .inl ⟨⟨xs, q, Nat.le_refl _⟩, hd σ H p⟩
theorem for_tup {K : PySem.W.Frag} {a : Addr} {xs : List V} {g : TG} {tb : TS} {D : Ends} {σ : St} {H : Hp} (Pv : Nat → St → Hp → Prop) (h0 : Pv 0 σ H) (hl : ∀ i σ H, i ≤ xs.length → Pv i σ H → SqT K H a xs)
    (hs : ∀ i x σ H, xs[i]? = some x → Pv i σ H → g x σ H fun σ2 H2 => tb { D with nx := Pv (i + 1), ct := Pv (i + 1), bk := D.nx } σ2 H2) (hd : ∀ σ H, Pv xs.length σ H → D.nx σ H) :
    ∃ W : Nat → Nat → St → Hp → Prop, (∃ m, W 0 m σ H) ∧ ∀ i m σ H, W i m σ H →
      ((Itt K a).stop i H ∧ D.nx σ H) ∨ ((Itt K a).go i H ∧ ∃ N : St → Hp → Prop, (∀ σ' H', N σ' H' → ∃ m', m' < m ∧ W (i + 1) m' σ' H') ∧ ∀ x H', (Itt K a).yld i H x H' → g x σ H' fun σ2 H2 => tb { D with nx := N, ct := N, bk := D.nx } σ2 H2) := by
  refine ⟨fun i m σ H => m = xs.length - i ∧ i ≤ xs.length ∧ Pv i σ H, ⟨xs.length, by simp, Nat.zero_le _, h0⟩, ?_⟩
  rintro i m σ H ⟨rfl, hi, p⟩
  have q := hl i σ H hi p
  by_cases hlt : i < xs.length
  · refine .inr ⟨⟨xs, xs[i], q, by simp [hlt]⟩, Pv (i + 1), fun σ' H' p' => ⟨xs.length - (i + 1), by omega, rfl, hlt, p'⟩, fun x H' y => ?_⟩
    obtain ⟨e, y⟩ := y
    subst e
    exact hs i x σ _ (y xs q) p
  · have e : i = xs.length := by omega
    subst e
    exact .inl ⟨⟨xs, q, Nat.le_refl _⟩, hd σ H p⟩
theorem for_range {lo : Int} {n : Nat} {g : TG} {tb : TS} {D : Ends} {σ : St} {H : Hp} (Pv : Nat → St → Hp → Prop) (h0 : Pv 0 σ H)
    (hs : ∀ i σ H, i < n → Pv i σ H → g (.int (lo + i)) σ H fun σ2 H2 => tb { D with nx := Pv (i + 1), ct := Pv (i + 1), bk := D.nx } σ2 H2) (hd : ∀ σ H, Pv n σ H → D.nx σ H) :
    ∃ W : Nat → Nat → St → Hp → Prop, (∃ m, W 0 m σ H) ∧ ∀ i m σ H, W i m σ H →
      ((Itr lo n).stop i H ∧ D.nx σ H) ∨ ((Itr lo n).go i H ∧ ∃ N : St → Hp → Prop, (∀ σ' H', N σ' H' → ∃ m', m' < m ∧ W (i + 1) m' σ' H') ∧ ∀ x H', (Itr lo n).yld i H x H' → g x σ H' fun σ2 H2 => tb { D with nx := N, ct := N, bk := D.nx } σ2 H2) := by
  refine ⟨fun i m σ H => m = n - i ∧ i ≤ n ∧ Pv i σ H, ⟨n, by simp, Nat.zero_le _, h0⟩, ?_⟩
  rintro i m σ H ⟨rfl, hi, p⟩
  by_cases hlt : i < n
  · refine .inr ⟨hlt, Pv (i + 1), fun σ' H' p' => ⟨n - (i + 1), by omega, rfl, hlt, p'⟩, fun x H' y => ?_⟩
    obtain ⟨e, y⟩ := y
    subst e y
    exact hs i σ _ hlt p
  · have e : i = n := by omega
    subst e
    exact .inl ⟨Nat.le_refl _, hd σ H p⟩
/-- while, by a word and a measure of the state -/
theorem while_by {c : TT} {tb : TS} {D : Ends} {σ : St} {H : Hp} (Pv : St → Hp → Prop) (μ : St → Hp → Nat) (h0 : Pv σ H)
    (hs : ∀ σ H, Pv σ H → c σ H fun b H1 => if b = true then tb { D with nx := fun σ' H' => Pv σ' H' ∧ μ σ' H' < μ σ H, ct := fun σ' H' => Pv σ' H' ∧ μ σ' H' < μ σ H, bk := D.nx } σ H1 else D.nx σ H1)
    (mono : ∀ σ H Q Q', (∀ b H1, Q b H1 → Q' b H1) → c σ H Q → c σ H Q') : tWhile c tb D σ H := by
  refine ⟨fun m σ H => m = μ σ H ∧ Pv σ H, ⟨_, rfl, h0⟩, ?_⟩
  rintro m σ H ⟨rfl, p⟩
  refine mono σ H _ _ (fun b H1 q => ?_) (hs σ H p)
  cases b with
  | true => exact ⟨_, fun σ' H' ⟨p', l⟩ => ⟨_, l, rfl, p'⟩, q⟩
  | false => exact q
end L2

namespace L2
open PySem PySem.Spec PyProof.Rows

abbrev R2 := V → V → Hp → VK → Prop
/-- a two-place operation on values: f is binaryOp op, inplaceOp op or compareOp op -/
def OpR (X : Cx) (f : Value → Value → Sem Value) (r : R2) : Prop :=
  ∀ (pins : List (Addr × Obj)) (s : Shared) (σ : St) (H : Hp) (x y : V) (v u : Value) (Q : VK), Inv X pins σ H s → RelV x v → RelV y u → r x y H Q →
    wpAny (model X.prog X.w) X.A (f v u) (EP X pins σ Q) X.xe s
/-- a one-place operation -/
def UnR (X : Cx) (f : Value → Sem Value) (r : V → Hp → VK → Prop) : Prop :=
  ∀ (pins : List (Addr × Obj)) (s : Shared) (σ : St) (H : Hp) (x : V) (v : Value) (Q : VK), Inv X pins σ H s → RelV x v → r x H Q →
    wpAny (model X.prog X.w) X.A (f v) (EP X pins σ Q) X.xe s
/-- a call of a value that is known (a builtin, a type) with values -/
def CallR (X : Cx) (f : Value) (r : List V → Hp → VK → Prop) : Prop :=
  ∀ (pins : List (Addr × Obj)) (s : Shared) (σ : St) (H : Hp) (xs : List V) (us : List Value) (Q : VK), Inv X pins σ H s → Vals xs us → r xs H Q →
    wpAny (model X.prog X.w) X.A (call f us) (EP X pins σ Q) X.xe s
/-- a value's truth -/
def TruR (X : Cx) (r : V → Hp → (Bool → Hp → Prop) → Prop) : Prop :=
  ∀ (pins : List (Addr × Obj)) (s : Shared) (σ : St) (H : Hp) (x : V) (v : Value) (Q : Bool → Hp → Prop), Inv X pins σ H s → RelV x v → r x H Q →
    wpAny (model X.prog X.w) X.A (truthy v) (TP X pins σ Q) X.xe s

def tOp (r : R2) (ta tb : TE) : TE := fun σ H Q => ta σ H fun x H1 => tb σ H1 fun y H2 => r x y H2 Q
def tUn (r : V → Hp → VK → Prop) (ta : TE) : TE := fun σ H Q => ta σ H fun x H1 => r x H1 Q
/-- ints in, under C, and a value out -/
def rI (C : Int → Int → Prop) (g : Int → Int → V) : R2 := fun x y H Q => ∃ i j, x = .int i ∧ y = .int j ∧ C i j ∧ Q (g i j) H
def rI0 (g : Int → Int → V) : R2 := fun x y H Q => ∃ i j, x = .int i ∧ y = .int j ∧ Q (g i j) H
def rU (g : Int → V) : V → Hp → VK → Prop := fun x H Q => ∃ i, x = .int i ∧ Q (g i) H

section
variable {X : Cx} {a b c : Expr} {ta tb tc : TE} {pos : Pos}

theorem binT (ha : PE X a ta) (hb : PE X b tb) {pins : List (Addr × Obj)} {s : Shared} {σ : St} {H : Hp} {R : V → V → Hp → Prop} (I : Inv X pins σ H s)
    (h : ta σ H fun x H1 => tb σ H1 fun y H2 => R x y H2) {Q : Value → Shared → Prop} {f : Value → Value → Sem Value}
    (hf : ∀ v u s2 x y H2, Inv X pins σ H2 s2 → RelV x v → RelV y u → R x y H2 → wpAny (model X.prog X.w) X.A (f v u) Q X.xe s2) :
    wpAny (model X.prog X.w) X.A (eval a X.env) (fun v s₁ => wpAny (model X.prog X.w) X.A (eval b X.env) (fun u s₂ => wpAny (model X.prog X.w) X.A (f v u) Q X.xe s₂) X.xe s₁) X.xe s := by
  refine thn (ha pins s σ H _ I h) fun v s1 ⟨x, H1, I1, r1, q1⟩ => ?_
  refine thn (hb pins s1 σ H1 _ I1 q1) fun u s2 ⟨y, H2, I2, r2, q2⟩ => ?_
  exact hf v u s2 x y H2 I2 r1 r2 q2

theorem pe_op {op : Operator} {r : R2} (ho : OpR X (binaryOp op) r) (ha : PE X a ta) (hb : PE X b tb) : PE X (.BinOp a op b pos) (tOp r ta tb) := by
  intro pins s σ H Q I h
  exact wpAny_BinOp (binT ha hb I h fun v u s2 x y H2 I2 rx ry q => ho pins s2 σ H2 x y v u Q I2 rx ry q)
theorem pe_un {op : UnaryOp} {r : V → Hp → VK → Prop} (ho : UnR X (unaryOp op) r) (ha : PE X a ta) : PE X (.UnaryOp op a pos) (tUn r ta) := by
  intro pins s σ H Q I h
  exact UnaryOp_ (thn (ha pins s σ H _ I h) fun v s1 ⟨x, H1, I1, r1, q1⟩ => ho pins s1 σ H1 x v Q I1 r1 q1)
/-- a op= e at a name: the name's slot i -/
theorem augR {op : Operator} {r : R2} (ho : OpR X (inplaceOp op) r) {pins : List (Addr × Obj)} {s : Shared} {σ : St} {H : Hp} {x y : V} {v u : Value} {Q : VK} (I : Inv X pins σ H s)
    (rx : RelV x v) (ry : RelV y u) (q : r x y H Q) : wpAny (model X.prog X.w) X.A (inplaceOp op v u) (EP X pins σ Q) X.xe s := ho pins s σ H x y v u Q I rx ry q

/-! ### ints -/
theorem opI {f : Value → Value → Sem Value} {C : Int → Int → Prop} {g : Int → Int → Int}
    (rule : ∀ (i j : Int) (t u : Tok) (s : Shared) (Q : Value → Shared → Prop) (E : Value → Shared → Prop), C i j → Q (.int (g i j) s.toks) { s with toks := s.toks + 1 } → wpAny (model X.prog X.w) X.A (f (.int i t) (.int j u)) Q E s) :
    OpR X f (rI C fun i j => .int (g i j)) := by
  intro pins s σ H x y v u Q I rx ry h
  obtain ⟨i, j, rfl, rfl, hc, q⟩ := h
  obtain ⟨t, rfl⟩ := rx
  obtain ⟨t', rfl⟩ := ry
  exact rule i j t t' s _ _ hc ⟨.int (g i j), H, I.tok _, ⟨_, rfl⟩, q⟩
theorem opI0 {f : Value → Value → Sem Value} {g : Int → Int → Int}
    (rule : ∀ (i j : Int) (t u : Tok) (s : Shared) (Q : Value → Shared → Prop) (E : Value → Shared → Prop), Q (.int (g i j) s.toks) { s with toks := s.toks + 1 } → wpAny (model X.prog X.w) X.A (f (.int i t) (.int j u)) Q E s) :
    OpR X f (rI0 fun i j => .int (g i j)) := by
  intro pins s σ H x y v u Q I rx ry h
  obtain ⟨i, j, rfl, rfl, q⟩ := h
  obtain ⟨t, rfl⟩ := rx
  obtain ⟨t', rfl⟩ := ry
  exact rule i j t t' s _ _ ⟨.int (g i j), H, I.tok _, ⟨_, rfl⟩, q⟩
theorem opB0 {f : Value → Value → Sem Value} {g : Int → Int → Bool}
    (rule : ∀ (i j : Int) (t u : Tok) (s : Shared) (Q : Value → Shared → Prop) (E : Value → Shared → Prop), Q (.bool (g i j)) s → wpAny (model X.prog X.w) X.A (f (.int i t) (.int j u)) Q E s) :
    OpR X f (rI0 fun i j => .bl (g i j)) := by
  intro pins s σ H x y v u Q I rx ry h
  obtain ⟨i, j, rfl, rfl, q⟩ := h
  obtain ⟨t, rfl⟩ := rx
  obtain ⟨t', rfl⟩ := ry
  exact rule i j t t' s _ _ ⟨.bl (g i j), H, I, rfl, q⟩

def CDiv (i j : Int) : Prop := 0 < j ∧ j < 1073741824
def CDivN (i j : Int) : Prop := j ≠ 0 ∧ j.natAbs < 1073741824
def CPow (i j : Int) : Prop := 0 ≤ j ∧ j ≤ 1000000 ∧ i.natAbs < 2 ^ 64
def CMul (i j : Int) : Prop := (-(2 ^ 64) < i ∧ i < 2 ^ 64) ∨ (-(2 ^ 64) < j ∧ j < 2 ^ 64)
theorem CMul.ok {i j : Int} (h : CMul i j) : IntMulOk i j := by
  rcases h with ⟨h1, h2⟩ | ⟨h1, h2⟩
  · exact .of_left (intBits_le_64 h1 h2)
  · exact .of_right (intBits_le_64 h1 h2)
theorem two_pow_nn (k : Nat) : (0 : Int) ≤ 2 ^ k := by
  rw [two_pow_cast]
  exact Int.natCast_nonneg _

theorem op_add : OpR X (binaryOp .Add) (rI0 fun i j => .int (i + j)) := opI0 fun _ _ _ _ _ _ _ q => add_int q
theorem op_sub : OpR X (binaryOp .Sub) (rI0 fun i j => .int (i - j)) := opI0 fun _ _ _ _ _ _ _ q => sub_int q
theorem op_mul : OpR X (binaryOp .Mult) (rI CMul fun i j => .int (i * j)) := opI fun _ _ _ _ _ _ _ hc q => mul_int q hc.ok
/-- // by a positive divisor -/
theorem op_fdiv : OpR X (binaryOp .FloorDiv) (rI CDiv fun i j => .int (i / j)) := opI fun i j _ _ _ _ _ hc q => by
  have h1 : (0 : Int) < j := hc.1
  have h2 : j < 1073741824 := hc.2
  exact floordiv_int (by omega) (by rw [Int.fdiv_eq_ediv_of_nonneg i (by omega)]; exact q) (.inl (PyProof.noPylong_small (by omega)))
theorem op_fdivN : OpR X (binaryOp .FloorDiv) (rI CDivN fun i j => .int (i.fdiv j)) := opI fun _ _ _ _ _ _ _ hc q => floordiv_int hc.1 q (.inl (PyProof.noPylong_small hc.2))
/-- % by a positive divisor of any size -/
theorem op_mod : OpR X (binaryOp .Mod) (rI (fun _ j => 0 < j) fun i j => .int (i % j)) := opI fun i j _ _ _ _ _ hc q => by
  have h1 : (0 : Int) < j := hc
  exact mod_int' (by omega) (by rw [Int.fmod_eq_emod_of_nonneg i (by omega)]; exact q)
theorem op_modN : OpR X (binaryOp .Mod) (rI (fun _ j => j ≠ 0) fun i j => .int (i.fmod j)) := opI fun _ _ _ _ _ _ _ hc q => mod_int' hc q
theorem op_pow : OpR X (binaryOp .Pow) (rI CPow fun i j => .int (i ^ j.toNat)) := opI fun _ _ _ _ _ _ _ hc q => pow_int_small hc.1 hc.2.1 hc.2.2 q
theorem op_shl : OpR X (binaryOp .LShift) (rI CPow fun i j => .int (i * 2 ^ j.toNat)) := opI fun _ _ _ _ _ _ _ hc q => lshift_int_small hc.1 hc.2.1 hc.2.2 q
theorem op_shr : OpR X (binaryOp .RShift) (rI (fun _ j => 0 ≤ j) fun i j => .int (i / 2 ^ j.toNat)) := opI fun i j _ _ _ _ _ hc q =>
  rshift_int hc (by rw [Int.fdiv_eq_ediv_of_nonneg i (two_pow_nn _)]; exact q)
theorem op_and : OpR X (binaryOp .BitAnd) (rI0 fun i j => .int (Builtin.bitAnd i j)) := opI0 fun _ _ _ _ _ _ _ q => and_int q
theorem op_or : OpR X (binaryOp .BitOr) (rI0 fun i j => .int (Builtin.bitOr i j)) := opI0 fun _ _ _ _ _ _ _ q => or_int q
theorem op_xor : OpR X (binaryOp .BitXor) (rI0 fun i j => .int (Builtin.bitXor i j)) := opI0 fun _ _ _ _ _ _ _ q => xor_int q

theorem iop_add : OpR X (inplaceOp .Add) (rI0 fun i j => .int (i + j)) := opI0 fun _ _ _ _ _ _ _ q => iadd_int q
theorem iop_sub : OpR X (inplaceOp .Sub) (rI0 fun i j => .int (i - j)) := opI0 fun _ _ _ _ _ _ _ q => isub_int q
theorem iop_mul : OpR X (inplaceOp .Mult) (rI CMul fun i j => .int (i * j)) := opI fun _ _ _ _ _ _ _ hc q => imul_int q hc.ok
theorem iop_fdiv : OpR X (inplaceOp .FloorDiv) (rI CDiv fun i j => .int (i / j)) := opI fun i j _ _ _ _ _ hc q => by
  have h1 : (0 : Int) < j := hc.1
  have h2 : j < 1073741824 := hc.2
  exact ifloordiv_int (by omega) (by rw [Int.fdiv_eq_ediv_of_nonneg i (by omega)]; exact q) (.inl (PyProof.noPylong_small (by omega)))
theorem iop_mod : OpR X (inplaceOp .Mod) (rI (fun _ j => 0 < j) fun i j => .int (i % j)) := opI fun i j _ _ _ _ _ hc q => by
  have h1 : (0 : Int) < j := hc
  exact imod_int (by omega) (by rw [Int.fmod_eq_emod_of_nonneg i (by omega)]; exact q)
theorem iop_shl : OpR X (inplaceOp .LShift) (rI CPow fun i j => .int (i * 2 ^ j.toNat)) := opI fun _ _ _ _ _ _ _ hc q => ilshift_int_small hc.1 hc.2.1 hc.2.2 q
theorem iop_shr : OpR X (inplaceOp .RShift) (rI (fun _ j => 0 ≤ j) fun i j => .int (i / 2 ^ j.toNat)) := opI fun i j _ _ _ _ _ hc q =>
  irshift_int hc (by rw [Int.fdiv_eq_ediv_of_nonneg i (two_pow_nn _)]; exact q)
theorem iop_and : OpR X (inplaceOp .BitAnd) (rI0 fun i j => .int (Builtin.bitAnd i j)) := opI0 fun _ _ _ _ _ _ _ q => iand_int q
theorem iop_or : OpR X (inplaceOp .BitOr) (rI0 fun i j => .int (Builtin.bitOr i j)) := opI0 fun _ _ _ _ _ _ _ q => ior_int q
theorem iop_xor : OpR X (inplaceOp .BitXor) (rI0 fun i j => .int (Builtin.bitXor i j)) := opI0 fun _ _ _ _ _ _ _ q => ixor_int q

theorem unI {f : Value → Sem Value} {g : Int → Int}
    (rule : ∀ (i : Int) (t : Tok) (s : Shared) (Q : Value → Shared → Prop) (E : Value → Shared → Prop), Q (.int (g i) s.toks) { s with toks := s.toks + 1 } → wpAny (model X.prog X.w) X.A (f (.int i t)) Q E s) :
    UnR X f (rU fun i => .int (g i)) := by
  intro pins s σ H x v Q I rx h
  obtain ⟨i, rfl, q⟩ := h
  obtain ⟨t, rfl⟩ := rx
  exact rule i t s _ _ ⟨.int (g i), H, I.tok _, ⟨_, rfl⟩, q⟩
theorem un_neg : UnR X (unaryOp .USub) (rU fun i => .int (-i)) := unI fun _ _ _ _ _ q => neg_int q
theorem un_inv : UnR X (unaryOp .Invert) (rU fun i => .int (Builtin.bitNot i)) := unI fun _ _ _ _ _ q => invert_int q

/-! ### bools among ints: n += (a < b) -/
theorem op_add_ib : OpR X (binaryOp .Add) (fun x y H Q => ∃ i k, x = .int i ∧ y = .bl k ∧ Q (.int (i + b2i k)) H) := by
  intro pins s σ H x y v u Q I rx ry h
  obtain ⟨i, k, rfl, rfl, q⟩ := h
  obtain ⟨t, rfl⟩ := rx
  cases ry
  exact add_int_bool ⟨.int (i + b2i k), H, I.tok _, ⟨_, rfl⟩, q⟩
end

/-! ### comparisons -/
/-- the scalars that == tells apart as data does -/
def scal : V → V → Bool
  | .non, .non => true | .non, .int _ => true | .int _, .non => true | .non, .bl _ => true | .bl _, .non => true | .non, .str _ => true | .str _, .non => true
  | .int _, .int _ => true | .bl _, .bl _ => true | .str _, .str _ => true | .byt _, .byt _ => true
  | .int _, .str _ => true | .str _, .int _ => true | .bl _, .str _ => true | .str _, .bl _ => true
  | _, _ => false
def rEq : R2 := fun x y H Q => scal x y = true ∧ Q (.bl (decide (x = y))) H
def rNe : R2 := fun x y H Q => scal x y = true ∧ Q (.bl (!decide (x = y))) H

theorem dec_int {i j : Int} : decide (V.int i = V.int j) = (i == j) := by
  rw [Bool.eq_iff_iff]
  simp
theorem dec_bl {i j : Bool} : decide (V.bl i = V.bl j) = (i == j) := by
  rw [Bool.eq_iff_iff]
  simp
theorem dec_str {i j : Str} : decide (V.str i = V.str j) = (i == j) := by
  rw [Bool.eq_iff_iff]
  simp
theorem dec_byt {i j : Array UInt8} : decide (V.byt i = V.byt j) = (i.toList == j.toList) := by
  rw [Bool.eq_iff_iff]
  cases i
  cases j
  simp

section
variable {X : Cx} {a b c : Expr} {ta tb tc : TE} {pos : Pos}
theorem fin_bl {pins : List (Addr × Obj)} {σ : St} {H : Hp} {s : Shared} {Q : VK} {k k' : Bool} (I : Inv X pins σ H s) (q : Q (.bl k) H) (e : k = k') : EP X pins σ Q (.bool k') s := by
  subst e
  exact ⟨.bl k, H, I, rfl, q⟩
theorem op_eq : OpR X (compareOp .Eq) rEq := by
  intro pins s σ H x y v u Q I rx ry h
  obtain ⟨hs, q⟩ := h
  cases x with
  | non =>
    cases rx
    cases y with
    | non => cases ry; exact PySem.EqNone.eq_none_none (fin_bl I q (by simp))
    | bl j => cases ry; exact PySem.EqNone.eq_none_bool (fin_bl I q (by simp))
    | int j => obtain ⟨t', rfl⟩ := ry; exact PySem.EqNone.eq_none_int (fin_bl I q (by simp))
    | str j => obtain ⟨t', rfl⟩ := ry; exact PySem.EqNone.eq_none_str (fin_bl I q (by simp))
    | _ => exact absurd (show false = true from hs) Bool.false_ne_true
  | bl i =>
    cases rx
    cases y with
    | non => cases ry; exact PySem.EqNone.eq_bool_none (fin_bl I q (by simp))
    | bl j => cases ry; exact eq_bool (fin_bl I q dec_bl)
    | str j => obtain ⟨t', rfl⟩ := ry; exact PySem.EqMixed.eq_bool_str (fin_bl I q (by simp))
    | _ => exact absurd (show false = true from hs) Bool.false_ne_true
  | int i =>
    obtain ⟨t, rfl⟩ := rx
    cases y with
    | non => cases ry; exact PySem.EqNone.eq_int_none (fin_bl I q (by simp))
    | int j => obtain ⟨t', rfl⟩ := ry; exact eq_int (fin_bl I q dec_int)
    | str j => obtain ⟨t', rfl⟩ := ry; exact PySem.EqMixed.eq_int_str (fin_bl I q (by simp))
    | _ => exact absurd (show false = true from hs) Bool.false_ne_true
  | str i =>
    obtain ⟨t, rfl⟩ := rx
    cases y with
    | non => cases ry; exact PySem.EqNone.eq_str_none (fin_bl I q (by simp))
    | bl j => cases ry; exact PySem.EqMixed.eq_str_bool (fin_bl I q (by simp))
    | int j => obtain ⟨t', rfl⟩ := ry; exact PySem.EqMixed.eq_str_int (fin_bl I q (by simp))
    | str j => obtain ⟨t', rfl⟩ := ry; exact eq_str (fin_bl I q dec_str)
    | _ => exact absurd (show false = true from hs) Bool.false_ne_true
  | byt i =>
    obtain ⟨t, rfl⟩ := rx
    cases y with
    | byt j => obtain ⟨t', rfl⟩ := ry; exact PySem.W.eq_bytes (fin_bl I q dec_byt)
    | _ => exact absurd (show false = true from hs) Bool.false_ne_true
  | _ => cases y <;> exact absurd (show false = true from hs) Bool.false_ne_true
theorem op_ne : OpR X (compareOp .NotEq) rNe := by
  intro pins s σ H x y v u Q I rx ry h
  obtain ⟨hs, q⟩ := h
  cases x with
  | non =>
    cases rx
    cases y with
    | non => cases ry; exact PySem.EqNone.ne_none_none (fin_bl I q (by simp))
    | bl j => cases ry; exact PySem.EqNone.ne_none_bool (fin_bl I q (by simp))
    | int j => obtain ⟨t', rfl⟩ := ry; exact PySem.EqNone.ne_none_int (fin_bl I q (by simp))
    | str j => obtain ⟨t', rfl⟩ := ry; exact PySem.EqNone.ne_none_str (fin_bl I q (by simp))
    | _ => exact absurd (show false = true from hs) Bool.false_ne_true
  | bl i =>
    cases rx
    cases y with
    | non => cases ry; exact PySem.EqNone.ne_bool_none (fin_bl I q (by simp))
    | bl j => cases ry; exact ne_bool (fin_bl I q (congrArg not dec_bl))
    | str j => obtain ⟨t', rfl⟩ := ry; exact PySem.EqMixed.ne_bool_str (fin_bl I q (by simp))
    | _ => exact absurd (show false = true from hs) Bool.false_ne_true
  | int i =>
    obtain ⟨t, rfl⟩ := rx
    cases y with
    | non => cases ry; exact PySem.EqNone.ne_int_none (fin_bl I q (by simp))
    | int j => obtain ⟨t', rfl⟩ := ry; exact ne_int (fin_bl I q (congrArg not dec_int))
    | str j => obtain ⟨t', rfl⟩ := ry; exact PySem.EqMixed.ne_int_str (fin_bl I q (by simp))
    | _ => exact absurd (show false = true from hs) Bool.false_ne_true
  | str i =>
    obtain ⟨t, rfl⟩ := rx
    cases y with
    | non => cases ry; exact PySem.EqNone.ne_str_none (fin_bl I q (by simp))
    | bl j => cases ry; exact PySem.EqMixed.ne_str_bool (fin_bl I q (by simp))
    | int j => obtain ⟨t', rfl⟩ := ry; exact PySem.EqMixed.ne_str_int (fin_bl I q (by simp))
    | str j => obtain ⟨t', rfl⟩ := ry; exact ne_str (fin_bl I q (congrArg not dec_str))
    | _ => exact absurd (show false = true from hs) Bool.false_ne_true
  | byt i =>
    obtain ⟨t, rfl⟩ := rx
    cases y with
    | byt j => obtain ⟨t', rfl⟩ := ry; exact PySem.W.ne_bytes (fin_bl I q (congrArg not dec_byt))
    | _ => exact absurd (show false = true from hs) Bool.false_ne_true
  | _ => cases y <;> exact absurd (show false = true from hs) Bool.false_ne_true

theorem op_lt : OpR X (compareOp .Lt) (rI0 fun i j => .bl (decide (i < j))) := opB0 fun _ _ _ _ _ _ _ q => lt_int q
theorem op_le : OpR X (compareOp .LtE) (rI0 fun i j => .bl (decide (i ≤ j))) := opB0 fun _ _ _ _ _ _ _ q => le_int q
theorem op_gt : OpR X (compareOp .Gt) (rI0 fun i j => .bl (decide (j < i))) := opB0 fun _ _ _ _ _ _ _ q => gt_int q
theorem op_ge : OpR X (compareOp .GtE) (rI0 fun i j => .bl (decide (j ≤ i))) := opB0 fun _ _ _ _ _ _ _ q => ge_int q
theorem op_lt_str : OpR X (compareOp .Lt) (fun x y H Q => ∃ i j, x = .str i ∧ y = .str j ∧ Q (.bl (decide (i.cps.toList < j.cps.toList))) H) := by
  intro pins s σ H x y v u Q I rx ry h
  obtain ⟨i, j, rfl, rfl, q⟩ := h
  obtain ⟨t, rfl⟩ := rx
  obtain ⟨t', rfl⟩ := ry
  exact lt_str (fin_bl I q rfl)
/-- the one string within the other -/
theorem op_in_str : OpR X (compareOp .In) (fun x y H Q => ∃ i j, x = .str i ∧ y = .str j ∧ Q (.bl (!(Builtin.Str.occurrences j i 0 j.length 1).isEmpty)) H) := by
  intro pins s σ H x y v u Q I rx ry h
  obtain ⟨i, j, rfl, rfl, q⟩ := h
  obtain ⟨t, rfl⟩ := rx
  obtain ⟨t', rfl⟩ := ry
  exact in_str (fin_bl I q rfl)

/-- is None, is not None: the right side a value none -/
theorem op_isN : OpR X (compareOp .Is) (fun x y H Q => y = .non ∧ Q (.bl (decide (x = .non))) H) := by
  intro pins s σ H x y v u Q I rx ry h
  obtain ⟨rfl, q⟩ := h
  cases ry
  refine is_none_gen (fin_bl I q ?_)
  cases x <;> first
    | (cases rx; rfl)
    | (obtain ⟨t, rfl⟩ := rx; rfl)
theorem op_notN : OpR X (compareOp .IsNot) (fun x y H Q => y = .non ∧ Q (.bl (!decide (x = .non))) H) := by
  intro pins s σ H x y v u Q I rx ry h
  obtain ⟨rfl, q⟩ := h
  cases ry
  refine isnot_none_gen (fin_bl I q ?_)
  cases x <;> first
    | (cases rx; rfl)
    | (obtain ⟨t, rfl⟩ := rx; rfl)

theorem op_notin_str : OpR X (compareOp .NotIn) (fun x y H Q => ∃ i j, x = .str i ∧ y = .str j ∧ Q (.bl (!(!(Builtin.Str.occurrences j i 0 j.length 1).isEmpty))) H) := by
  intro pins s σ H x y v u Q I rx ry h
  obtain ⟨i, j, rfl, rfl, q⟩ := h
  obtain ⟨t, rfl⟩ := rx
  obtain ⟨t', rfl⟩ := ry
  exact notIn_str (fin_bl I q rfl)
/-- is, is not of two objects that are tracked lists or instances -/
def isObj : HO → Bool
  | .lst _ => true
  | .ins _ _ _ => true
  | _ => false
theorem obj_there {pins : List (Addr × Obj)} {s : Shared} {σ : St} {H : Hp} {a : Addr} {o : HO} (I : Inv X pins σ H s) (h : H a = some o) (p : isObj o = true) : ∃ ob, s.heap.get? a = some ob ∧ ob.cls ≠ .type "tuple" := by
  cases o with
  | lst xs =>
    obtain ⟨_, its, n, _, e⟩ : xs.length ≤ sizeLine ∧ ∃ (its : List Value) (n : Nat), Vals xs its ∧ s.heap.get? a = some { cls := .type "list", data := .seq its.toArray n } := I.hok a _ h
    exact ⟨_, e, (by show Value.type "list" ≠ .type "tuple"; decide +kernel)⟩
  | ins C dx fs =>
    have x := I.hok a _ h
    obtain ⟨_, _, _, e, _⟩ := x
    exact ⟨_, e, (by show Value.ref C ≠ .type "tuple"; exact fun z => by cases z)⟩
  | _ => exact absurd (show false = true from p) Bool.false_ne_true
theorem op_is_ref : OpR X (compareOp .Is) (fun x y H Q => ∃ a b oa ob, x = .ref a ∧ y = .ref b ∧ H a = some oa ∧ isObj oa = true ∧ H b = some ob ∧ isObj ob = true ∧ Q (.bl (decide (a = b))) H) := by
  intro pins s σ H x y v u Q I rx ry h
  obtain ⟨a, b, oa, ob, rfl, rfl, ha, pa, hb, pb, q⟩ := h
  cases rx
  cases ry
  obtain ⟨o1, e1, n1⟩ := obj_there I ha pa
  obtain ⟨o2, e2, _⟩ := obj_there I hb pb
  by_cases z : a = b
  · subst z
    exact wpAny_is_ref_self (fin_bl I q (by simp))
  · exact wpAny_is_ref_other z e1 e2 n1 (fin_bl I q (by simp [z]))
theorem op_isnot_ref : OpR X (compareOp .IsNot) (fun x y H Q => ∃ a b oa ob, x = .ref a ∧ y = .ref b ∧ H a = some oa ∧ isObj oa = true ∧ H b = some ob ∧ isObj ob = true ∧ Q (.bl (!decide (a = b))) H) := by
  intro pins s σ H x y v u Q I rx ry h
  obtain ⟨a, b, oa, ob, rfl, rfl, ha, pa, hb, pb, q⟩ := h
  cases rx
  cases ry
  obtain ⟨o1, e1, n1⟩ := obj_there I ha pa
  obtain ⟨o2, e2, _⟩ := obj_there I hb pb
  by_cases z : a = b
  · subst z
    exact wpAny_isNot_ref_self (fin_bl I q (by simp))
  · exact wpAny_isNot_ref_other z e1 e2 n1 (fin_bl I q (by simp [z]))

/-- two rules for one operation: by cases -/
theorem OpR.or {f : Value → Value → Sem Value} {r r' : R2} (h : OpR X f r) (h' : OpR X f r') : OpR X f (fun x y H Q => r x y H Q ∨ r' x y H Q) := by
  intro pins s σ H x y v u Q I rx ry q
  rcases q with q | q
  · exact h pins s σ H x y v u Q I rx ry q
  · exact h' pins s σ H x y v u Q I rx ry q

theorem nomark (b : Expr) {op : CmpOp} (h : op ≠ .In := by decide) (h2 : op ≠ .NotIn := by decide) : behindInMarks op b = false := by
  have e1 : (op == CmpOp.In) = false := by cases op <;> first | rfl | exact absurd rfl h
  have e2 : (op == CmpOp.NotIn) = false := by cases op <;> first | rfl | exact absurd rfl h2
  cases b <;> simp [behindInMarks, e1, e2]
/-- a comparison as a value; hm: nomark b, or (for in, not in) by with_unfolding_all rfl -/
theorem pe_cmpR {op : CmpOp} {r : R2} (ho : OpR X (compareOp op) r) (ha : PE X a ta) (hb : PE X b tb) (hm : behindInMarks op b = false) : PE X (.Compare a [op] [b] pos) (tOp r ta tb) := by
  intro pins s σ H Q I h
  exact wpAny_Compare1 (binT ha hb I h fun v u s2 x y H2 I2 rx ry q => ho pins s2 σ H2 x y v u Q I2 rx ry q) hm
/-- a reading of a value as a test -/
def tTest (t : TE) : TT := fun σ H Q => t σ H fun x H' => ∃ k, x = .bl k ∧ Q k H'
theorem pt_cmpR {op : CmpOp} {r : R2} (ho : OpR X (compareOp op) r) (ha : PE X a ta) (hb : PE X b tb) (hm : behindInMarks op b = false) : PT X (.Compare a [op] [b] pos) (tTest (tOp r ta tb)) := by
  intro pins s σ H Q I h
  refine wpAny_isTrue_Compare1 (thn (ha pins s σ H _ I h) fun v s1 ⟨x, H1, I1, r1, q1⟩ => thn (hb pins s1 σ H1 _ I1 q1) fun u s2 ⟨y, H2, I2, r2, q2⟩ =>
    thn (ho pins s2 σ H2 x y v u _ I2 r1 r2 q2) fun c s3 ⟨z, H3, I3, r3, k, e, q3⟩ => ?_) hm
  subst e
  cases r3
  exact wpAny_truthy_bool ⟨H3, I3, q3⟩
/-- a op1 b op2 c -/
def tChain (r r' : R2) (ta tb tc : TE) : TE := fun σ H Q => ta σ H fun x H1 => tb σ H1 fun y H2 => r x y H2 fun z H3 => ∃ k, z = .bl k ∧
  (if k = true then tc σ H3 fun w' H4 => r' y w' H4 Q else Q (.bl false) H3)
theorem pe_chain {op op' : CmpOp} {r r' : R2} (ho : OpR X (compareOp op) r) (ho' : OpR X (compareOp op') r') (ha : PE X a ta) (hb : PE X b tb) (hc : PE X c tc)
    (hm : lastMarks [op, op'] [b, c] = false := by with_unfolding_all rfl) : PE X (.Compare a [op, op'] [b, c] pos) (tChain r r' ta tb tc) := by
  intro pins s σ H Q I h
  refine Compare_chain (thn (ha pins s σ H _ I h) fun v s1 ⟨x, H1, I1, r1, q1⟩ => chain_link (thn (hb pins s1 σ H1 _ I1 q1) fun u s2 ⟨y, H2, I2, r2, q2⟩ =>
    thn (ho pins s2 σ H2 x y v u _ I2 r1 r2 q2) fun d s3 ⟨z, H3, I3, r3, k, e, q3⟩ => ?_)) hm
  subst e
  cases r3
  refine wpAny_truthy_bool ?_
  cases k with
  | false => exact ite_ff ⟨.bl false, H3, I3, rfl, q3⟩
  | true => exact ite_tt (chain_last (thn (hc pins s3 σ H3 _ I3 q3) fun w' s4 ⟨z', H4, I4, r4, q4⟩ => ho' pins s4 σ H4 y z' u w' Q I4 r2 r4 q4))
theorem pt_chain {op op' : CmpOp} {r r' : R2} (ho : OpR X (compareOp op) r) (ho' : OpR X (compareOp op') r') (ha : PE X a ta) (hb : PE X b tb) (hc : PE X c tc)
    (hm : lastMarks [op, op'] [b, c] = false := by with_unfolding_all rfl) : PT X (.Compare a [op, op'] [b, c] pos) (tTest (tChain r r' ta tb tc)) := by
  intro pins s σ H Q I h
  refine isTrue_chain (thn (ha pins s σ H _ I h) fun v s1 ⟨x, H1, I1, r1, q1⟩ => test_link (thn (hb pins s1 σ H1 _ I1 q1) fun u s2 ⟨y, H2, I2, r2, q2⟩ =>
    thn (ho pins s2 σ H2 x y v u _ I2 r1 r2 q2) fun d s3 ⟨z, H3, I3, r3, k, e, q3⟩ => ?_)) hm
  subst e
  cases r3
  refine wpAny_truthy_bool ?_
  cases k with
  | false =>
    obtain ⟨k', e', q'⟩ := q3
    cases e'
    exact ite_ff ⟨H3, I3, q'⟩
  | true =>
    refine ite_tt (test_last (thn (hc pins s3 σ H3 _ I3 q3) fun w' s4 ⟨z', H4, I4, r4, q4⟩ => thn (ho' pins s4 σ H4 y z' u w' _ I4 r2 r4 q4) fun d' s5 ⟨z2, H5, I5, r5, k2, e2, q5⟩ => ?_))
    subst e2
    cases r5
    exact wpAny_truthy_bool ⟨H5, I5, q5⟩

/-! ### truth -/
/-- a value's truth by the abstract heap -/
def TruV (K : PySem.W.Frag) (x : V) (H : Hp) (k : Bool) : Prop :=
  match x with
  | .non => k = false
  | .bl b => k = b
  | .int i => k = (i != 0)
  | .str y => y.length ≤ sizeLine ∧ k = ((y.length : Int) != 0)
  | .byt y => y.size ≤ sizeLine ∧ k = ((y.size : Int) != 0)
  | .ref p => (∃ xs, SqL K H p xs ∧ k = !xs.isEmpty) ∨ (∃ xs, SqT K H p xs ∧ k = !xs.isEmpty) ∨ ∃ kvs, H p = some (.dK kvs) ∧ k = !kvs.isEmpty
  | _ => False
theorem isEmpty_kv {κ : Type} {kvs : List (κ × V)} {vs : List (κ × Value)} (r : KV kvs vs) : (!vs.isEmpty) = !kvs.isEmpty := by
  cases r <;> rfl
theorem isEmpty_of {xs : List V} {its : List Value} (r : Vals xs its) : (!its.toArray.isEmpty) = !xs.isEmpty := by
  cases r <;> simp
theorem line63 : (sizeLine : Nat) < 2 ^ 63 := by rw [sizeLine_eq]; decide
theorem tru_ok : TruR X (fun x H Q => ∃ k, TruV X.K x H k ∧ Q k H) := by
  intro pins s σ H x v Q I rx h
  obtain ⟨k, e, q⟩ := h
  have hl := line63
  have hs : sizeLine = 16777216 := sizeLine_eq
  cases x with
  | non =>
    cases rx
    have e' : k = false := e
    subst e'
    exact truthy_none ⟨H, I, q⟩
  | bl b =>
    cases rx
    have e' : k = b := e
    subst e'
    exact wpAny_truthy_bool ⟨H, I, q⟩
  | int i =>
    obtain ⟨t, rfl⟩ := rx
    have e' : k = (i != 0) := e
    subst e'
    exact PySem.P.truthy_int ⟨H, I, q⟩
  | str y =>
    obtain ⟨t, rfl⟩ := rx
    obtain ⟨hy, e'⟩ : y.length ≤ sizeLine ∧ k = ((y.length : Int) != 0) := e
    subst e'
    exact PySem.P.truthy_str (by omega) ⟨H, I.tok _, q⟩
  | byt y =>
    obtain ⟨t, rfl⟩ := rx
    obtain ⟨hy, e'⟩ : y.size ≤ sizeLine ∧ k = ((y.size : Int) != 0) := e
    subst e'
    exact PySem.W.truthy_bytes (by omega) ⟨H, I.tok _, q⟩
  | ref p =>
    cases rx
    have e' : (∃ xs, SqL X.K H p xs ∧ k = !xs.isEmpty) ∨ (∃ xs, SqT X.K H p xs ∧ k = !xs.isEmpty) ∨ ∃ kvs, H p = some (.dK kvs) ∧ k = !kvs.isEmpty := e
    rcases e' with ⟨xs, hx, e'⟩ | ⟨xs, hx, e'⟩ | ⟨kvs, hx, e'⟩
    · subst e'
      obtain ⟨its, r, pl, hz⟩ := I.list hx
      have hlen := r.length
      exact wpAny_truthy_list pl.isList (by simp only [List.size_toArray]; omega) ⟨H, I.tok _, by rw [isEmpty_of r]; exact q⟩
    · subst e'
      obtain ⟨its, r, pl, hz⟩ := I.tuple hx
      have hlen := r.length
      exact truthy_tuple pl (by simp only [List.size_toArray]; omega) ⟨H, I.tok _, by rw [isEmpty_of r]; exact q⟩
    · subst e'
      obtain ⟨hz, hS, vs, r, m⟩ : kvs.length ≤ sizeLine ∧ (p == sysModules) = false ∧ ∃ vs, KV kvs vs ∧ s.heap.DictOf (mixKind X.prog X.w) p vs := I.hok p _ hx
      have hlen : kvs.length = vs.length := Paired.length r
      exact wpAny_truthy_dict hS m (by omega) ⟨H, I.tok _, by rw [isEmpty_kv r]; exact q⟩
  | _ => exact (show False from e).elim
/-- any expression whose test is its value's truth (a name, a call, a subscript, a field ..: he by fun _ => rfl) -/
theorem pt_truth (ha : PE X a ta) (he : ∀ whole, isTrue a X.env whole = (do let v ← whole; standAt a.pos; holding [v] (truthy v))) :
    PT X a (fun σ H Q => ta σ H fun x H' => ∃ k, TruV X.K x H' k ∧ Q k H') := by
  intro pins s σ H Q I h
  exact isTrue_plain (thn (ha pins s σ H _ I h) fun v s1 ⟨x, H1, I1, r1, q1⟩ => tru_ok pins s1 σ H1 x v Q I1 r1 q1) (he _)

/-! ### strs and bytes -/
theorem pe_byt {x : List UInt8} {k : Nat} : PE X (.Constant (.bytes x) k pos) (fun _ H Q => Q (.byt x.toArray) H) := fun _ _ _ H _ I h => PySem.W.Constant_bytes ⟨.byt x.toArray, H, I.tok _, ⟨_, rfl⟩, h⟩
theorem op_add_str : OpR X (binaryOp .Add) (fun x y H Q => ∃ i j, x = .str i ∧ y = .str j ∧ i.length + j.length ≤ sizeLine ∧ Q (.str (i ++ j)) H) := by
  intro pins s σ H x y v u Q I rx ry h
  obtain ⟨i, j, rfl, rfl, hz, q⟩ := h
  obtain ⟨t, rfl⟩ := rx
  obtain ⟨t', rfl⟩ := ry
  exact add_str (fun t' tk => ⟨.str (i ++ j), H, I.tok _, ⟨_, rfl⟩, q⟩) hz
theorem iop_add_str : OpR X (inplaceOp .Add) (fun x y H Q => ∃ i j, x = .str i ∧ y = .str j ∧ i.length + j.length ≤ sizeLine ∧ Q (.str (i ++ j)) H) := by
  intro pins s σ H x y v u Q I rx ry h
  obtain ⟨i, j, rfl, rfl, hz, q⟩ := h
  obtain ⟨t, rfl⟩ := rx
  obtain ⟨t', rfl⟩ := ry
  exact iadd_str (fun t' tk => ⟨.str (i ++ j), H, I.tok _, ⟨_, rfl⟩, q⟩) hz
theorem op_add_byt : OpR X (binaryOp .Add) (fun x y H Q => ∃ i j, x = .byt i ∧ y = .byt j ∧ i.size + j.size ≤ 16777216 ∧ Q (.byt (i ++ j)) H) := by
  intro pins s σ H x y v u Q I rx ry h
  obtain ⟨i, j, rfl, rfl, hz, q⟩ := h
  obtain ⟨t, rfl⟩ := rx
  obtain ⟨t', rfl⟩ := ry
  exact PySem.W.KBy.add_bytes hz (fun t' tk => ⟨.byt (i ++ j), H, I.tok _, ⟨_, rfl⟩, q⟩)

def PlainIxT (b : Expr) : Prop := ∀ o i, subscripted b false o i = operate [o, i] (getItem o i)
/-- s[i], 0 ≤ i < len -/
theorem pe_item_str (ha : PE X a ta) (hb : PE X b tb) (hs : PlainIxT b) :
    PE X (.Subscript a b pos) (tOp (fun x y H Q => ∃ z i c, x = .str z ∧ y = .int i ∧ 0 ≤ i ∧ i < 2 ^ 63 ∧ i < z.length ∧ z.cps[i.toNat]? = some c ∧ Q (.str ⟨#[c]⟩) H) ta tb) := by
  intro pins s σ H Q I h
  refine Subscript_ (binT ha hb I h fun v u s2 x y H2 I2 rx ry q => ?_)
  obtain ⟨z, i, c, rfl, rfl, h0, h63, h1, hc, q⟩ := q
  obtain ⟨t, rfl⟩ := rx
  obtain ⟨t', rfl⟩ := ry
  have e : seqIndex? i z.length = some i.toNat := PySem.StrLaws.seqIndex_nonneg h0 h1
  exact tail_any (typeIs_str s2 z t) slot_str_getitem.lookup (getItem_str (c := c) (by
    have e1 : decide (i < -(2 ^ 63 : Int)) = false := decide_eq_false (by omega)
    have e2 : decide (i ≥ 2 ^ 63) = false := decide_eq_false (by omega)
    rw [e1, e2] <;> rfl) (by rw [e]; exact hc) ⟨.str ⟨#[c]⟩, H2, I2.tok _, ⟨_, rfl⟩, q⟩) (hs _ _)
/-- b[i], 0 ≤ i < len -/
theorem pe_item_byt (ha : PE X a ta) (hb : PE X b tb) (hs : PlainIxT b) :
    PE X (.Subscript a b pos) (tOp (fun x y H Q => ∃ (z : List UInt8) (i : Int), x = .byt z.toArray ∧ y = .int i ∧ z.length ≤ sizeLine ∧ 0 ≤ i ∧ i < z.length ∧ Q (.int ((z.getD i.toNat 0).toNat : Nat)) H) ta tb) := by
  intro pins s σ H Q I h
  refine Subscript_ (binT ha hb I h fun v u s2 x y H2 I2 rx ry q => ?_)
  obtain ⟨z, i, rfl, rfl, hz, h0, h1, q⟩ := q
  obtain ⟨t, rfl⟩ := rx
  obtain ⟨t', rfl⟩ := ry
  have hl : sizeLine = 16777216 := sizeLine_eq
  exact tail_any (PySem.W.typeIs_bytes s2 z.toArray t) PySem.W.FB.slot_bytes_getitem.lookup (PySem.W.getItem_bytes (by omega) h0 h1 ⟨.int ((z.getD i.toNat 0).toNat : Nat), H2, I2.tok _, ⟨_, rfl⟩, q⟩) (hs _ _)

/-! ### scalar builtins, by CallR -/
theorem vals1 {x : V} {us : List Value} (r : Vals [x] us) : ∃ u, us = [u] ∧ RelV x u := by
  cases r with
  | cons r1 r2 => cases r2; exact ⟨_, rfl, r1⟩
theorem vals2 {x y : V} {us : List Value} (r : Vals [x, y] us) : ∃ u w', us = [u, w'] ∧ RelV x u ∧ RelV y w' := by
  cases r with
  | cons r1 r2 =>
    cases r2 with
    | cons r3 r4 => cases r4; exact ⟨_, _, rfl, r1, r3⟩
theorem call_abs : CallR X (.builtin "abs") (fun xs H Q => ∃ i, xs = [.int i] ∧ Q (.int (if i < 0 then -i else i)) H) := by
  intro pins s σ H xs us Q I r h
  obtain ⟨i, rfl, q⟩ := h
  obtain ⟨u, rfl, t, rfl⟩ := vals1 r
  exact call_abs_int fun u tk => ⟨.int (if i < 0 then -i else i), H, I.tok _, ⟨_, rfl⟩, q⟩
theorem call_max2 (hc : X.calm = true) : CallR X (.builtin "max") (fun xs H Q => ∃ i j, xs = [.int i, .int j] ∧ Q (.int (if j > i then j else i)) H) := by
  intro pins s σ H xs us Q I r h
  obtain ⟨i, j, rfl, q⟩ := h
  obtain ⟨u, w', rfl, ⟨t, rfl⟩, ⟨t', rfl⟩⟩ := vals2 r
  refine max_two_ints (I.ok.hd hc) fun h' tk k => ⟨_, H, I.kept k, ?_, q⟩
  by_cases hj : j > i
  · rw [if_pos hj, if_pos hj]; exact ⟨_, rfl⟩
  · rw [if_neg hj, if_neg hj]; exact ⟨_, rfl⟩
theorem call_min2 (hc : X.calm = true) : CallR X (.builtin "min") (fun xs H Q => ∃ i j, xs = [.int i, .int j] ∧ Q (.int (if j < i then j else i)) H) := by
  intro pins s σ H xs us Q I r h
  obtain ⟨i, j, rfl, q⟩ := h
  obtain ⟨u, w', rfl, ⟨t, rfl⟩, ⟨t', rfl⟩⟩ := vals2 r
  refine min_two_ints (I.ok.hd hc) fun h' tk k => ⟨_, H, I.kept k, ?_, q⟩
  by_cases hj : j < i
  · rw [if_pos hj, if_pos hj]; exact ⟨_, rfl⟩
  · rw [if_neg hj, if_neg hj]; exact ⟨_, rfl⟩
theorem call_int1 : CallR X (.type "int") (fun xs H Q => (∃ i, xs = [.int i] ∧ Q (.int i) H) ∨ ∃ k, xs = [.bl k] ∧ Q (.int (if k then 1 else 0)) H) := by
  intro pins s σ H xs us Q I r h
  rcases h with ⟨i, rfl, q⟩ | ⟨k, rfl, q⟩
  · obtain ⟨u, rfl, t, rfl⟩ := vals1 r
    exact call_int_int ⟨.int i, H, I, ⟨_, rfl⟩, q⟩
  · obtain ⟨u, rfl, r1⟩ := vals1 r
    cases r1
    exact call_int_bool ⟨.int (if k then 1 else 0), H, I.tok _, ⟨_, rfl⟩, q⟩
theorem call_bool1 : CallR X (.type "bool") (fun xs H Q => (∃ i, xs = [.int i] ∧ Q (.bl (i != 0)) H) ∨ ∃ k, xs = [.bl k] ∧ Q (.bl k) H) := by
  intro pins s σ H xs us Q I r h
  rcases h with ⟨i, rfl, q⟩ | ⟨k, rfl, q⟩
  · obtain ⟨u, rfl, t, rfl⟩ := vals1 r
    exact call_bool_int ⟨.bl (i != 0), H, I, rfl, q⟩
  · obtain ⟨u, rfl, r1⟩ := vals1 r
    cases r1
    exact call_bool_bool ⟨.bl k, H, I, rfl, q⟩
theorem call_str_int : CallR X (.type "str") (fun xs H Q => ∃ i, xs = [.int i] ∧ i.natAbs.log2 < 1920 ∧ Q (.str (toString i)) H) := by
  intro pins s σ H xs us Q I r h
  obtain ⟨i, rfl, hz, q⟩ := h
  obtain ⟨u, rfl, t, rfl⟩ := vals1 r
  exact PySem.P.str_of_int hz ⟨.str _, H, I.tok _, ⟨_, rfl⟩, q⟩
theorem call_ord : CallR X (.builtin "ord") (fun xs H Q => ∃ x, xs = [.str x] ∧ x.length = 1 ∧ Q (.int (x.cps.getD 0 0 : Nat)) H) := by
  intro pins s σ H xs us Q I r h
  obtain ⟨x, rfl, hz, q⟩ := h
  obtain ⟨u, rfl, t, rfl⟩ := vals1 r
  exact ord_of_one hz ⟨.int _, H, I.tok _, ⟨_, rfl⟩, q⟩
theorem call_chr : CallR X (.builtin "chr") (fun xs H Q => ∃ i, xs = [.int i] ∧ 0 ≤ i ∧ i ≤ 1114111 ∧ Q (.str ⟨#[i.toNat]⟩) H) := by
  intro pins s σ H xs us Q I r h
  obtain ⟨i, rfl, h0, h1, q⟩ := h
  obtain ⟨u, rfl, t, rfl⟩ := vals1 r
  exact chr_of_range h0 h1 ⟨.str _, H, I.tok _, ⟨_, rfl⟩, q⟩
/-- len of a str, a bytes, a list, a tuple -/
def LenV (K : PySem.W.Frag) (x : V) (H : Hp) (n : Nat) : Prop :=
  match x with
  | .str y => y.length ≤ sizeLine ∧ n = y.length
  | .byt y => y.size ≤ sizeLine ∧ n = y.size
  | .ref p => (∃ xs, SqL K H p xs ∧ n = xs.length) ∨ ∃ xs, SqT K H p xs ∧ n = xs.length
  | _ => False
theorem call_len : CallR X (.builtin "len") (fun xs H Q => ∃ x n, xs = [x] ∧ LenV X.K x H n ∧ Q (.int n) H) := by
  intro pins s σ H xs us Q I r h
  obtain ⟨x, n, rfl, e, q⟩ := h
  obtain ⟨u, rfl, rx⟩ := vals1 r
  have hl := line63
  have hs : sizeLine = 16777216 := sizeLine_eq
  cases x with
  | str y =>
    obtain ⟨t, rfl⟩ := rx
    obtain ⟨hy, e'⟩ : y.length ≤ sizeLine ∧ n = y.length := e
    subst e'
    exact len_str (by omega) ⟨.int _, H, I.tok _, ⟨_, rfl⟩, q⟩
  | byt y =>
    obtain ⟨t, rfl⟩ := rx
    obtain ⟨hy, e'⟩ : y.size ≤ sizeLine ∧ n = y.size := e
    subst e'
    exact PySem.W.len_bytes (by omega) ⟨.int _, H, I.tok _, ⟨_, rfl⟩, q⟩
  | ref p =>
    cases rx
    have e' : (∃ xs, SqL X.K H p xs ∧ n = xs.length) ∨ ∃ xs, SqT X.K H p xs ∧ n = xs.length := e
    rcases e' with ⟨xs, hx, e'⟩ | ⟨xs, hx, e'⟩
    · subst e'
      obtain ⟨its, r', pl, hz⟩ := I.list hx
      have hlen := r'.length
      exact Calls.call_len_list pl.isList (by simp only [List.size_toArray]; omega) ⟨.int xs.length, H, I.tok _, ⟨_, by simp only [List.size_toArray]; rw [hlen]⟩, q⟩
    · subst e'
      obtain ⟨its, r', pl, hz⟩ := I.tuple hx
      have hlen := r'.length
      exact len_tuple pl (by simp only [List.size_toArray]; omega) ⟨.int xs.length, H, I.tok _, ⟨_, by simp only [List.size_toArray]; rw [hlen]⟩, q⟩
  | _ => exact (show False from e).elim
/-- divmod: a new tuple -/
theorem call_divmod : CallR X (.builtin "divmod") (fun xs H Q => ∃ i j, xs = [.int i, .int j] ∧ CDiv i j ∧ ∀ p, H p = none → Q (.ref p) (upd H p (.tup [.int (i / j), .int (i % j)]))) := by
  intro pins s σ H xs us Q I r h
  obtain ⟨i, j, rfl, ⟨h1, h2⟩, q⟩ := h
  obtain ⟨u, w', rfl, ⟨t, rfl⟩, ⟨t', rfl⟩⟩ := vals2 r
  refine divmod_int (by omega) ?_ (.inl (PyProof.noPylong_small (by omega)))
  rw [Int.fdiv_eq_ediv_of_nonneg i (by omega), Int.fmod_eq_emod_of_nonneg i (by omega)]
  have hn : H s.heap.objs.size = none := I.hok.fresh (Nat.le_refl _)
  refine ⟨.ref s.heap.objs.size, _, ?_, rfl, q _ hn⟩
  refine I.laid (fun b o e => Heap.get?_push_of_some _ e) (Nat.le_refl _) ⟨by simp only [List.length_cons, List.length_nil]; rw [sizeLine_eq]; decide, [.int (i / j) s.toks, .int (i % j) (s.toks + 1)], .cons ⟨_, rfl⟩ (.cons ⟨_, rfl⟩ .nil), ?_⟩
  exact ⟨_, Heap.get?_push_size s.heap rfl, rfl, 0, rfl⟩
end
end L2

namespace L2
open PySem PySem.Spec PyProof.Rows

/-! ### an instance, its attributes a map -/
structure ObjM (h : Heap) (x dx C : Addr) (mA : Str → Option Value) : Prop where
  obj : h.get? x = some (PySem.W.instObj C dx)
  ns : h.Ns1 dx mA
  ne : dx ≠ x

theorem lookIn_ns {h : Heap} {dx : Addr} {mA : Str → Option Value} (n : h.Ns1 dx mA) : ∃ od, h.get? dx = some od ∧ ∀ name, PySem.W.lookIn name od = some (mA name) := by
  obtain ⟨o, es, ep, ho, hd, hk, _, hm⟩ := n
  refine ⟨o, ho, fun name => ?_⟩
  have e := hm name
  unfold nsFind findBy at e
  rw [← Array.find?_toList] at e
  unfold PySem.W.lookIn
  rw [hd]
  dsimp only
  split
  · rename_i y q
    rw [q] at e
    exact congrArg some e
  · rename_i q
    rw [q] at e
    have a : es.toList.any (·.refKey) = false := by
      rw [List.any_eq_false]
      intro y hy
      obtain ⟨z, t, hkey⟩ := hk y (Array.mem_toList_iff.mp hy)
      simp [DictEntry.refKey, hkey]
    have a' : ¬ es.toList.any (·.refKey) = true := by rw [a]; exact Bool.false_ne_true
    rw [if_neg a']
    exact congrArg some e

theorem ObjM.look {h : Heap} {x dx C : Addr} {mA : Str → Option Value} (I : ObjM h x dx C mA) : ∃ od, PySem.W.InstAt h x (PySem.W.instObj C dx) C (some od) ∧ ∀ name, PySem.W.lookIn name od = some (mA name) :=
  let ⟨od, ho, hl⟩ := lookIn_ns I.ns
  ⟨od, ⟨I.obj, rfl, rfl, ho⟩, hl⟩

section
variable {prog : Program} {w : World} {A : Around} {E : Value → Shared → Prop} {s : Shared} {K : PySem.W.Frag} {x dx C f : Addr} {mA : Str → Option Value} {name : Str} {v : Value}

theorem get_map {expr : Bool} {Q : Value → Shared → Prop} (X : K.In s.heap) (I : ObjM s.heap x dx C mA) (hg : PySem.W.plainGet K C name = true) (hh : PySem.W.hasDictIn K C = true)
    (ha : PySem.W.findIn K (.ref C) name = some none) (hv : mA name = some v) (hv' : PySem.W.handedIn v = true) (h : Q v { s with toks := s.toks + 1 }) :
    wpAny (model prog w) A (getAttr (.ref x) name expr) Q E s := by
  obtain ⟨od, J, hl⟩ := I.look
  exact PySem.W.get_value X J (PySem.W.plainGet_of hg).1 (PySem.W.findObj_own hh ha rfl (by rw [hl, hv])) hv' h

theorem get_const {expr : Bool} {a : Value} {Q : Value → Shared → Prop} (X : K.In s.heap) (I : ObjM s.heap x dx C mA) (hg : PySem.W.plainGet K C name = true) (hh : PySem.W.hasDictIn K C = true)
    (ha : PySem.W.findIn K (.ref C) name = some (some a)) (hn : PySem.W.specialIn K a "__get__" = some none) (hc : PySem.W.copiedNames.contains name = false) (hv : mA name = none) (hv' : PySem.W.handedIn a = true)
    (h : Q a { s with toks := s.toks + 1 }) : wpAny (model prog w) A (getAttr (.ref x) name expr) Q E s := by
  obtain ⟨od, J, hl⟩ := I.look
  exact PySem.W.get_value X J (PySem.W.plainGet_of hg).1 (PySem.W.findObj_cls hh ha hn hv' hc (by rw [hl, hv])) hv' h

theorem get_meth {pl : Sem Bool} {Q : Value × List Value → Shared → Prop} (X : K.In s.heap) (I : ObjM s.heap x dx C mA) (hg : PySem.W.plainGet K C name = true)
    (hf : PySem.W.findIn K (.ref C) name = some (some (.ref f))) (ht : PySem.W.isFn K (.ref f) = true) (hv : mA name = none) (h : Q (.ref f, [.ref x]) s) :
    wpAny (model prog w) A (getMethod (.ref x) name pl) Q E s := by
  obtain ⟨od, J, hl⟩ := I.look
  exact PySem.W.method_fn X J (PySem.W.plainGet_of hg).1 (PySem.W.plainGet_of hg).2 hf (beq_iff_eq.mp ht) (by show (PySem.W.lookIn name od).map (·.isSome) = some false; rw [hl, hv]; rfl) h

theorem set_map {ns : List Str} {Q : Unit → Shared → Prop} (X : K.In s.heap) (I : ObjM s.heap x dx C mA)
    (hs : PySem.W.findIn K (.ref C) "__setattr__" = some (some (.builtin "object.__setattr__"))) (hp : PySem.W.plainOver K C = true) (ht : PySem.W.takerIn K C name = some none) (hh : PySem.W.hasDictIn K C = true)
    (hw : PySem.Within mA ns) (hsz : ns.length ≤ sizeLine)
    (h : ∀ h', ObjM h' x dx C (fun y => if y = name then some v else mA y) → Heap.SameBut dx s.heap h' → Q () { s with heap := h', toks := s.toks + 2 }) :
    wpAny (model prog w) A (setAttr (.ref x) name v) Q E s := by
  obtain ⟨od, J, hl⟩ := I.look
  refine PySem.W.set_plain X J hs (PySem.W.osa_open (s := { s with toks := s.toks + 1 }) (r := none) X J hp ht fun b => ?_)
  obtain ⟨cd, hc, hd'⟩ := PySem.W.any_some hh
  have hx : s.heap.get? x = some ⟨.ref C, some dx, .plain, #[]⟩ := I.obj
  refine wpAny_bind (wpAny_pure (wpAny_bind (wpAny_bind (wpAny_loadPart hx (wpAny_bind (PySem.W.Looks.here (s := { s with toks := s.toks + 1 }) (PySem.W.looks_clsIn X hc) ?_))))))
  rw [hd']
  refine wpAny_pure (a := some dx) (wpAny_bind (wpAny_pure (wpAny_bind ?_)))
  refine wpAny_nsSet1 (s := { s with toks := s.toks + 1 }) I.ns fun h' hn2 hs2 => ?_
  obtain ⟨oD, esD, epD, hoD, hdD, hcD⟩ := hn2.count (PySem.Within.cons name v hw)
  refine wpAny_bind (wpAny_lookBehind hoD (by rw [hdD]; exact pastItsLine_dict (Nat.le_trans hcD (by rw [List.length_cons]; omega))) ?_)
  exact wpAny_pure (h _ ⟨(hs2.2 _ (Ne.symm I.ne)).trans I.obj, hn2, I.ne⟩ hs2)

/-- C(..): the dict at the heap's end, the instance behind it; then its __init__ -/
theorem make_map {R : Result → Shared → Prop} {vs : List Value} {kw : List (Str × Value)} (X : K.In s.heap) (hm : PySem.W.makesIn K C = true)
    (hi : PySem.W.findIn K (.ref C) "__init__" = some (some (.ref f))) (hf : PySem.W.typeIn K (.ref f) = some (.type "function"))
    (h : codeAny (model prog w) (A.under (.builtin "type.__call__" ⟨.ref C :: vs, kw⟩)) (.call (.ref f) ⟨.ref (s.heap.objs.size + 1) :: vs, kw⟩) (PySem.W.InitBack (s.heap.objs.size + 1) R)
      { s with heap := (s.heap.push PySem.W.emptyDict).push (PySem.W.instObj C s.heap.objs.size) }) :
    codeAny (model prog w) A (.call (.ref C) ⟨vs, kw⟩) R s := by
  obtain ⟨hh, g, d, t, os⟩ := s
  exact PySem.W.make_core (PySem.W.makes_of X hm) (PySem.W.looks_findIn X hi) (fun self => PySem.W.bind_fn X self hf) (.inl rfl) h
/-- C() where there is no __init__ but object's -/
theorem make_map0 {R : Result → Shared → Prop} (X : K.In s.heap) (hm : PySem.W.makesIn K C = true)
    (hi : PySem.W.findIn K (.ref C) "__init__" = some (some (.builtin "object.__init__")))
    (hb : ∀ self, PySem.W.Looks (model prog w) s.heap (bindSpecial (.builtin "object.__init__") self) (.builtin "object.__init__", [self]))
    (h : codeAny (model prog w) (A.under (.builtin "type.__call__" ⟨[.ref C], []⟩)) (.call (.builtin "object.__init__") ⟨[.ref (s.heap.objs.size + 1)], []⟩) (PySem.W.InitBack (s.heap.objs.size + 1) R)
      { s with heap := (s.heap.push PySem.W.emptyDict).push (PySem.W.instObj C s.heap.objs.size) }) :
    codeAny (model prog w) A (.call (.ref C) ⟨[], []⟩) R s := by
  obtain ⟨hh, g, d, t, os⟩ := s
  exact PySem.W.make_core (PySem.W.makes_of X hm) (PySem.W.looks_findIn X hi) hb (.inr ⟨rfl, rfl⟩) h
end

/-! ### the attributes as a list of pairs -/
def putF (f : Str) (v : V) : List (Str × V) → List (Str × V)
  | [] => [(f, v)]
  | (g, x) :: r => if g = f then (g, v) :: r else (g, x) :: putF f v r
theorem lookup_putF (f g : Str) (v : V) : ∀ fs : List (Str × V), (putF f v fs).lookup g = if g = f then some v else fs.lookup g
  | [] => by
    show List.lookup g [(f, v)] = _
    by_cases h : g = f
    · have hb : (g == f) = true := beq_iff_eq.mpr h
      simp only [List.lookup, hb, if_pos h]
    · have hb : (g == f) = false := beq_eq_false_iff_ne.mpr h
      simp only [List.lookup, hb, if_neg h]
  | (k, x) :: r => by
    have ih := lookup_putF f g v r
    rw [show putF f v ((k, x) :: r) = (if k = f then (k, v) :: r else (k, x) :: putF f v r) from rfl]
    by_cases hk : k = f
    · rw [if_pos hk]
      by_cases h : g = k
      · have hb : (g == k) = true := beq_iff_eq.mpr h
        simp only [List.lookup, hb, if_pos (h.trans hk)]
      · have hb : (g == k) = false := beq_eq_false_iff_ne.mpr h
        simp only [List.lookup, hb, if_neg (fun e : g = f => h (e.trans hk.symm))]
    · rw [if_neg hk]
      by_cases h : g = k
      · have hb : (g == k) = true := beq_iff_eq.mpr h
        simp only [List.lookup, hb, if_neg (fun e : g = f => hk (h.symm.trans e))]
      · have hb : (g == k) = false := beq_eq_false_iff_ne.mpr h
        simp only [List.lookup, hb]
        exact ih
theorem keys_putF (f : Str) (v : V) : ∀ fs : List (Str × V), f ∈ (putF f v fs).map (·.1) ∧ ∀ g, g ∈ fs.map (·.1) → g ∈ (putF f v fs).map (·.1)
  | [] => ⟨by simp [putF], fun g h => by simp at h⟩
  | (k, x) :: r => by
    obtain ⟨i1, i2⟩ := keys_putF f v r
    rw [show putF f v ((k, x) :: r) = (if k = f then (k, v) :: r else (k, x) :: putF f v r) from rfl]
    by_cases hk : k = f
    · rw [if_pos hk]
      subst hk
      exact ⟨by simp, fun g h => by simpa using h⟩
    · rw [if_neg hk]
      refine ⟨?_, fun g h => ?_⟩
      · rw [List.map_cons]
        exact List.mem_cons_of_mem _ i1
      · rw [List.map_cons] at h ⊢
        rcases List.mem_cons.mp h with e | e
        · exact List.mem_cons.mpr (.inl e)
        · exact List.mem_cons_of_mem _ (i2 g e)
theorem length_putF (f : Str) (v : V) : ∀ fs : List (Str × V), (putF f v fs).length ≤ fs.length + 1
  | [] => by simp [putF]
  | (k, x) :: r => by
    have ih := length_putF f v r
    rw [show putF f v ((k, x) :: r) = (if k = f then (k, v) :: r else (k, x) :: putF f v r) from rfl]
    by_cases hk : k = f
    · rw [if_pos hk, List.length_cons, List.length_cons]; omega
    · rw [if_neg hk, List.length_cons, List.length_cons]; omega

theorem RelO.some_of {v : V} {o : Option Value} (r : RelO (some v) o) : ∃ u, o = some u ∧ RelV v u := by
  cases o with
  | none => exact (show False from r).elim
  | some u => exact ⟨u, rfl, r⟩
theorem RelO.none_of {o : Option Value} (r : RelO none o) : o = none := by
  cases o with
  | none => rfl
  | some u => exact (show False from r).elim
theorem handed_of {v : V} {u : Value} (r : RelV v u) : PySem.W.handedIn u = true := by
  cases v with
  | non => cases (show u = Value.none from r); rfl
  | bl b => cases (show u = Value.bool b from r); rfl
  | int i => obtain ⟨t, e⟩ := (show ∃ t, u = Value.int i t from r); cases e; rfl
  | str x => obtain ⟨t, e⟩ := (show ∃ t, u = Value.str x t from r); cases e; rfl
  | byt b => obtain ⟨t, e⟩ := (show ∃ t, u = Value.bytes b t from r); cases e; rfl
  | flt b => obtain ⟨t, e⟩ := (show ∃ t, u = Value.float b t from r); cases e; rfl
  | ref a => cases (show u = Value.ref a from r); rfl
  | ty n => cases (show u = Value.type n from r); rfl

section
variable {P : Program} {w : World} {H H' : Hp} {h h' : Heap} {a C dx : Addr} {fs fs' : List (Str × V)}
theorem ins_get (hok : HOk P w H h) (e : H a = some (.ins C dx fs)) : ∃ mA, ObjM h a dx C mA ∧ (∀ f, RelO (fs.lookup f) (mA f)) ∧ PySem.Within mA (fs.map (·.1)) ∧ fs.length ≤ 1000 ∧ H dx = some (.own a) := by
  obtain ⟨d, z, ne, ob, mA, n, r, q⟩ := (show ObjOk P w H h a (.ins C dx fs) from hok a _ e)
  exact ⟨mA, ⟨ob, n, ne⟩, r, q, z, d⟩
end

/-! ### what of the text a class must have -/
structure Cls (K : PySem.W.Frag) (C : Addr) : Prop where
  pg : PySem.W.plainGet K C Str.empty = true
  hd : PySem.W.hasDictIn K C = true
  po : PySem.W.plainOver K C = true
  sa : PySem.W.findIn K (.ref C) "__setattr__" = some (some (.builtin "object.__setattr__"))
theorem Cls.get {K : PySem.W.Frag} {C : Addr} (c : Cls K C) (f : Str) : PySem.W.plainGet K C f = true := c.pg
/-- no class of it has the name -/
def NoAttr (K : PySem.W.Frag) (C : Addr) (f : Str) : Prop := PySem.W.findIn K (.ref C) f = some none
theorem NoAttr.taker {K : PySem.W.Frag} {C : Addr} {f : Str} (n : NoAttr K C f) : PySem.W.takerIn K C f = some none := by
  unfold PySem.W.takerIn
  rw [show PySem.W.findIn K (.ref C) f = some none from n]
  rfl
/-- a constant of the class -/
structure Con (K : PySem.W.Frag) (C : Addr) (f : Str) (v : V) (u : Value) : Prop where
  at_ : PySem.W.findIn K (.ref C) f = some (some u)
  rel : RelV v u
  get : PySem.W.specialIn K u "__get__" = some none
  cp : PySem.W.copiedNames.contains f = false
/-- a method: a plain def of the class or of one above it -/
structure Meth (K : PySem.W.Frag) (C : Addr) (m : Str) (f : Addr) : Prop where
  at_ : PySem.W.findIn K (.ref C) m = some (some (.ref f))
  fn : PySem.W.isFn K (.ref f) = true
  kp : PySem.W.keepIn K (.ref f) = true

section
variable {X : Cx} {pins : List (Addr × Obj)} {σ : St} {H : Hp} {s : Shared} {a C dx : Addr} {fs : List (Str × V)} {f : Str} {v : V} {A : Around} {E : Value → Shared → Prop}

theorem getattr_ok {b : Bool} {Q : Value → Shared → Prop} (I : Inv X pins σ H s) (e : H a = some (.ins C dx fs)) (c : Cls X.K C) (n : NoAttr X.K C f) (l : fs.lookup f = some v)
    (h : ∀ u s', Inv X pins σ H s' → RelV v u → Q u s') : wpAny (model X.prog X.w) A (getAttr (.ref a) f b) Q E s := by
  obtain ⟨mA, O, r, _, _, _⟩ := ins_get I.hok e
  obtain ⟨u, hu, ru⟩ := RelO.some_of (v := v) (o := mA f) (by rw [← l]; exact r f)
  exact get_map I.kIn O (c.get f) c.hd n hu (handed_of ru) (h u _ (I.tok _) ru)

theorem getcon_ok {b : Bool} {u : Value} {Q : Value → Shared → Prop} (I : Inv X pins σ H s) (e : H a = some (.ins C dx fs)) (c : Cls X.K C) (k : Con X.K C f v u) (l : fs.lookup f = none)
    (h : ∀ s', Inv X pins σ H s' → Q u s') : wpAny (model X.prog X.w) A (getAttr (.ref a) f b) Q E s := by
  obtain ⟨mA, O, r, _, _, _⟩ := ins_get I.hok e
  have hn : mA f = none := RelO.none_of (by rw [← l]; exact r f)
  exact get_const I.kIn O (c.get f) c.hd k.at_ k.get k.cp hn (handed_of k.rel) (h _ (I.tok _))

theorem getmeth_ok {m : Str} {g : Addr} {pl : Sem Bool} {Q : Value × List Value → Shared → Prop} (I : Inv X pins σ H s) (e : H a = some (.ins C dx fs)) (c : Cls X.K C) (k : Meth X.K C m g) (l : fs.lookup m = none)
    (h : Q (.ref g, [.ref a]) s) : wpAny (model X.prog X.w) A (getMethod (.ref a) m pl) Q E s := by
  obtain ⟨mA, O, r, _, _, _⟩ := ins_get I.hok e
  have hn : mA m = none := RelO.none_of (by rw [← l]; exact r m)
  exact get_meth I.kIn O (c.get m) k.at_ k.fn hn h

theorem setattr_ok {y : V} {u : Value} {Q : Unit → Shared → Prop} (I : Inv X pins σ H s) (e : H a = some (.ins C dx fs)) (c : Cls X.K C) (n : NoAttr X.K C f) (hl : fs.length < 1000) (ry : RelV y u)
    (h : ∀ s', Inv X pins σ (upd H a (.ins C dx (putF f y fs))) s' → Q () s') : wpAny (model X.prog X.w) A (setAttr (.ref a) f u) Q E s := by
  obtain ⟨mA, O, r, wi, _, ho⟩ := ins_get I.hok e
  have hz : (fs.map (·.1)).length ≤ sizeLine := by rw [List.length_map, sizeLine_eq]; omega
  refine set_map I.kIn O c.sa c.po n.taker c.hd wi hz fun h' O' sb => h _ ?_
  have hd : ∃ o, h'.get? dx = some o := let ⟨o, _, _, e', _⟩ := O'.ns; ⟨o, e'⟩
  refine I.write (x := a) (e := dx) (by rw [e]; exact True.intro) (.inr ho) (fun b q hb z => (sb.2 b hb).trans z) hd ?_
  refine ⟨by rw [upd_ne O.ne]; exact ho, ?_, O.ne, O'.obj, _, O'.ns, fun g => ?_, fun g hg => ?_⟩
  · have := length_putF f y fs; omega
  · show RelO ((putF f y fs).lookup g) (if g = f then some u else mA g)
    rw [lookup_putF]
    by_cases q : g = f
    · rw [if_pos q, if_pos q]; exact ry
    · rw [if_neg q, if_neg q]; exact r g
  · by_cases q : g = f
    · rw [q]; exact (keys_putF f y fs).1
    · refine (keys_putF f y fs).2 g (wi g fun z => hg ?_)
      show (if g = f then some u else mA g) = none
      rw [if_neg q]; exact z

/-- a new instance, tracked, without attributes -/
theorem Inv.made (I : Inv X pins σ H s) : Inv X pins σ (upd (upd H s.heap.objs.size (.own (s.heap.objs.size + 1))) (s.heap.objs.size + 1) (.ins C s.heap.objs.size []))
    { s with heap := (s.heap.push PySem.W.emptyDict).push (PySem.W.instObj C s.heap.objs.size) } := by
  have e1 : (s.heap.push PySem.W.emptyDict).get? s.heap.objs.size = some PySem.W.emptyDict := Heap.get?_push_size s.heap rfl
  have e2 : ((s.heap.push PySem.W.emptyDict).push (PySem.W.instObj C s.heap.objs.size)).get? (s.heap.objs.size + 1) = some (PySem.W.instObj C s.heap.objs.size) := by
    have := Heap.get?_push_size (s.heap.push PySem.W.emptyDict) (o := PySem.W.instObj C s.heap.objs.size) rfl
    rwa [Heap.size_push] at this
  have e3 : (s.heap.push PySem.W.emptyDict).Ns s.heap.objs.size (fun _ => none) := ⟨PySem.W.emptyDict, #[], _, e1, rfl, (fun e he => absurd he (by simp)), fun _ => rfl⟩
  have I1 := I.laid (a := s.heap.objs.size) (o := .own (s.heap.objs.size + 1)) (h' := s.heap.push PySem.W.emptyDict) (t' := s.toks) (fun b u q => Heap.get?_push_of_some _ q) (Nat.le_refl _) ⟨_, e1⟩
  refine I1.laid (a := s.heap.objs.size + 1) (o := .ins C s.heap.objs.size []) (t' := s.toks) (fun b u q => Heap.get?_push_of_some _ q) (Nat.le_of_eq (Heap.size_push _ _)) ?_
  have ne : s.heap.objs.size ≠ s.heap.objs.size + 1 := Nat.ne_of_lt (Nat.lt_succ_self _)
  refine ⟨by rw [upd_ne ne, upd_same], Nat.zero_le _, ne, e2, fun _ => none, (Heap.Ns1.of_empty e3).at fun o q => Heap.get?_push_of_some _ q, fun _ => True.intro, fun y hy => absurd rfl hy⟩

/-- e.f where nothing but the object is asked: through attributeBase (super) and the last hold -/
theorem attr_of {prog : Program} {w : World} {env : Env} {e : Expr} {f : Str} {pos : Pos} {s : Shared} {Q : Value → Shared → Prop} (hb : attributeBase e f env (eval e env) = eval e env)
    (h : wpAny (model prog w) A (eval e env) (fun o s₁ => wpAny (model prog w) A (getAttr o f true) Q E s₁) E s) : wpAny (model prog w) A (eval (.Attribute e f pos) env) Q E s :=
  Attribute_any_ h (by rw [arm_eval_Attribute, hb])
end

/-! ### readings and rules -/
/-- e.f, an attribute of the instance -/
def tFld (K : PySem.W.Frag) (ta : TE) (f : Str) : TE := fun σ H Q => ta σ H fun x H1 => ∃ a C dx fs v, x = .ref a ∧ H1 a = some (.ins C dx fs) ∧ Cls K C ∧ NoAttr K C f ∧ fs.lookup f = some v ∧ Q v H1
/-- e.f, a constant of the class -/
def tCon (K : PySem.W.Frag) (ta : TE) (f : Str) : TE := fun σ H Q => ta σ H fun x H1 => ∃ a C dx fs v u, x = .ref a ∧ H1 a = some (.ins C dx fs) ∧ Cls K C ∧ Con K C f v u ∧ fs.lookup f = none ∧ Q v H1
/-- e.f = value -/
def sFld (K : PySem.W.Frag) (ta tv : TE) (f : Str) : TS := fun D σ H => tv σ H fun y H1 => ta σ H1 fun x H2 => ∃ a C dx fs, x = .ref a ∧ H2 a = some (.ins C dx fs) ∧ Cls K C ∧ NoAttr K C f ∧ fs.length < 1000 ∧
  D.nx σ (upd H2 a (.ins C dx (putF f y fs)))
/-- an augmented operator on two values -/
def InOp (X : Cx) (op : Operator) (rd : V → V → Hp → VK → Prop) : Prop :=
  ∀ (pins : List (Addr × Obj)) (s : Shared) (σ : St) (H : Hp) (x y : V) (u v : Value) (Q : VK), Inv X pins σ H s → RelV x u → RelV y v → rd x y H Q → wpAny (model X.prog X.w) X.A (inplaceOp op u v) (EP X pins σ Q) X.xe s
/-- e.f op= value -/
def sFldAug (K : PySem.W.Frag) (ta tv : TE) (rd : V → V → Hp → VK → Prop) (f : Str) : TS := fun D σ H => ta σ H fun x H1 => ∃ a C dx fs v, x = .ref a ∧ H1 a = some (.ins C dx fs) ∧ Cls K C ∧ NoAttr K C f ∧ fs.lookup f = some v ∧
  tv σ H1 fun y H2 => rd v y H2 fun z H3 => ∃ dx' fs', H3 a = some (.ins C dx' fs') ∧ fs'.length < 1000 ∧ D.nx σ (upd H3 a (.ins C dx' (putF f z fs')))

section
variable {X : Cx} {o e value : Expr} {f : Str} {pos pos' tpos : Pos} {ta tv : TE}
theorem pe_fld (he : PE X e ta) (hb : attributeBase e f X.env (eval e X.env) = eval e X.env) : PE X (.Attribute e f pos) (tFld X.K ta f) := by
  intro pins s σ H Q I h
  refine attr_of hb (thn (he pins s σ H _ I h) fun u s1 ⟨x, H1, I1, rx, a, C, dx, fs, v, ex, ea, c, n, l, q⟩ => ?_)
  subst ex
  obtain rfl : u = Value.ref a := rx
  exact getattr_ok I1 ea c n l fun u' s2 I2 ru => ⟨v, H1, I2, ru, q⟩
theorem pe_con (he : PE X e ta) (hb : attributeBase e f X.env (eval e X.env) = eval e X.env) : PE X (.Attribute e f pos) (tCon X.K ta f) := by
  intro pins s σ H Q I h
  refine attr_of hb (thn (he pins s σ H _ I h) fun u s1 ⟨x, H1, I1, rx, a, C, dx, fs, v, u0, ex, ea, c, k, l, q⟩ => ?_)
  subst ex
  obtain rfl : u = Value.ref a := rx
  exact getcon_ok I1 ea c k l fun s2 I2 => ⟨v, H1, I2, k.rel, q⟩
theorem ps_fld (ha : PE X o ta) (hv : PE X value tv) (hs : swapsWith value (some (.Attribute o f pos')) pos.line X.env = pure false) : PS X (.Assign [.Attribute o f pos'] value pos) (sFld X.K ta tv f) := by
  intro pins s σ H D I h
  refine plainObj_wpAny_Assign_Attribute (thn (hv pins s σ H _ I h) fun u s1 ⟨y, H1, I1, ry, q⟩ => thn (ha pins s1 σ H1 _ I1 q) fun ov s2 ⟨x, H2, I2, rx, a, C, dx, fs, ex, ea, c, n, l, q2⟩ => ?_) hs
  subst ex
  obtain rfl : ov = Value.ref a := rx
  exact setattr_ok I2 ea c n l ry fun s3 I3 => ⟨σ, _, I3, q2⟩
theorem ps_fldaug {op : Operator} {rd : V → V → Hp → VK → Prop} (ha : PE X o ta) (hv : PE X value tv) (hop : InOp X op rd) : PS X (.AugAssign (.Attribute o f tpos) op value pos) (sFldAug X.K ta tv rd f) := by
  intro pins s σ H D I h
  refine wpAny_AugAssign_AttributeAny (thn (ha pins s σ H _ I h) fun ov s1 ⟨x, H1, I1, rx, a, C, dx, fs, v, ex, ea, c, n, l, q⟩ => ?_)
  subst ex
  obtain rfl : ov = Value.ref a := rx
  refine getattr_ok I1 ea c n l fun u s2 I2 ru => thn (hv pins s2 σ H1 _ I2 q) fun w3 s3 ⟨y, H2, I3, ry, q3⟩ => thn (hop pins s3 σ H2 v y u w3 _ I3 ru ry q3) fun w4 s4 ⟨z, H3, I4, rz, dx', fs', ea', l', q4⟩ => ?_
  exact setattr_ok I4 ea' c n l' rz fun s5 I5 => ⟨σ, _, I5, q4⟩
def rAdd : V → V → Hp → VK → Prop := fun x y H Q => ∃ i j, x = .int i ∧ y = .int j ∧ Q (.int (i + j)) H
def rSub : V → V → Hp → VK → Prop := fun x y H Q => ∃ i j, x = .int i ∧ y = .int j ∧ Q (.int (i - j)) H
theorem in_add : InOp X .Add rAdd := by
  rintro pins s σ H x y u v Q I rx ry ⟨i, j, rfl, rfl, q⟩
  obtain ⟨t, rfl⟩ := (show ∃ t, u = Value.int i t from rx)
  obtain ⟨t', rfl⟩ := (show ∃ t', v = Value.int j t' from ry)
  exact PyProof.Rows.iadd_int ⟨.int (i + j), H, I.tok _, ⟨_, rfl⟩, q⟩
theorem in_sub : InOp X .Sub rSub := by
  rintro pins s σ H x y u v Q I rx ry ⟨i, j, rfl, rfl, q⟩
  obtain ⟨t, rfl⟩ := (show ∃ t, u = Value.int i t from rx)
  obtain ⟨t', rfl⟩ := (show ∃ t', v = Value.int j t' from ry)
  exact PyProof.Rows.isub_int ⟨.int (i - j), H, I.tok _, ⟨_, rfl⟩, q⟩

/-- what is between an instance and its method: the tree of a method call -/
theorem methcall_of {pl : Sem Bool} {m : Str} {apos : Pos} {args : List Expr} {pins : List (Addr × Obj)} {s : Shared} {σ : St} {H : Hp} {Q : Value → Shared → Prop} {te : TE} (he : PE X e te) (I : Inv X pins σ H s)
    (h : te σ H fun x H1 => ∃ a C dx fs g, x = .ref a ∧ H1 a = some (.ins C dx fs) ∧ Cls X.K C ∧ Meth X.K C m g ∧ fs.lookup m = none ∧
      ∀ s1, Inv X pins σ H1 s1 → wpAny (model X.prog X.w) X.A (callWith pos (.ref g) [.ref a] (backTo pos (starEach args X.env)) (backToKw pos (keywordEach [] X.env))) Q X.xe s1)
    (ht : eval (.Call (.Attribute e m apos) args [] pos) X.env = (do
      let ov ← eval e X.env
      standAt apos.atName
      let (f, first) ← holding [ov] (getMethod ov m pl)
      callWith pos f first (backTo pos (starEach args X.env)) (backToKw pos (keywordEach [] X.env)))) :
    wpAny (model X.prog X.w) X.A (eval (.Call (.Attribute e m apos) args [] pos) X.env) Q X.xe s := by
  refine PySem.W.methodCall_KW (pl := pl) (thn (he pins s σ H _ I h) fun u s1 ⟨x, H1, I1, rx, a, C, dx, fs, g, ex, ea, c, k, l, q⟩ => ?_) ht
  subst ex
  obtain rfl : u = Value.ref a := rx
  exact getmeth_ok I1 ea c k l (q s1 I1)
end

/-! ### isinstance -/
section
variable {X : Cx} {pins : List (Addr × Obj)} {σ : St} {H : Hp} {s : Shared} {A : Around} {E : Value → Shared → Prop} {Q : Value → Shared → Prop} {c : Value} {b : Bool}
/-- the type of a value, as the fragment's deciders take it; for an instance its class -/
inductive TyOf (K : PySem.W.Frag) (H : Hp) : V → Value → Prop where
  | non : TyOf K H .non (.type "NoneType")
  | bl (x : Bool) : TyOf K H (.bl x) (.type "bool")
  | int (i : Int) : TyOf K H (.int i) (.type "int")
  | str (x : Str) : TyOf K H (.str x) (.type "str")
  | flt (x : UInt64) : TyOf K H (.flt x) (.type "float")
  | lst {a : Addr} {xs : List V} (e : H a = some (.lst xs)) : TyOf K H (.ref a) (.type "list")
  | frz {a : Addr} {o : Obj} {xs : List V} (e : H a = some (.frz o (.lst xs))) : TyOf K H (.ref a) (.type "list")
  | tup {a : Addr} {xs : List V} (e : H a = some (.tup xs)) : TyOf K H (.ref a) (.type "tuple")
  | dK {a : Addr} {kvs : List (Key × V)} (e : H a = some (.dK kvs)) : TyOf K H (.ref a) (.type "dict")
  | dT {a : Addr} {kvs : List (List Key × V)} (e : H a = some (.dT kvs)) : TyOf K H (.ref a) (.type "dict")
  | ins {a C dx : Addr} {fs : List (Str × V)} (e : H a = some (.ins C dx fs)) (cl : Cls K C) (ha : PySem.W.findIn K (.ref C) "__class__" = some (some (.builtin "object.__class__")))
      (hn : PySem.W.specialIn K (.builtin "object.__class__") "__get__" = some (some (.builtin "getset_descriptor.__get__"))) (htk : PySem.W.takesIn K (.builtin "object.__class__") = some true)
      (hm : PySem.W.mroIn K C (.type "object") = some true) : TyOf K H (.ref a) (.ref C)
/-- isinstance(x, c) for one class c, a built-in or an own one: kitOne's answer -/
theorem isinst_ok {x : V} {u t : Value} (I : Inv X pins σ H s) (rx : RelV x u) (ty : TyOf X.K H x t) (e : PySem.W.kitOne X.K t c = some b) (h : ∀ tk, Q (.bool b) { s with toks := tk }) :
    wpAny (model X.prog X.w) A (call (.builtin "isinstance") [u, c]) Q E s := by
  cases ty with
  | non => cases (show u = Value.none from rx); exact PySem.W.kia_one PySem.W.kitx_none I.kIn True.intro e (fun z => nomatch z) h
  | bl y => cases (show u = Value.bool y from rx); exact PySem.W.kia_one PySem.W.kitx_bool I.kIn True.intro e (fun z => nomatch z) h
  | int i => obtain ⟨t, q⟩ := (show ∃ t, u = Value.int i t from rx); cases q; exact PySem.W.kia_one PySem.W.kitx_int I.kIn True.intro e (fun z => nomatch z) h
  | str y => obtain ⟨t, q⟩ := (show ∃ t, u = Value.str y t from rx); cases q; exact PySem.W.kia_one PySem.W.kitx_str I.kIn True.intro e (fun z => nomatch z) h
  | flt y => obtain ⟨t, q⟩ := (show ∃ t, u = Value.float y t from rx); cases q; exact PySem.W.kia_one PySem.W.kitx_float I.kIn True.intro e (fun z => nomatch z) h
  | @lst a xs ea =>
    cases (show u = Value.ref a from rx)
    obtain ⟨_, _, n, _, h1⟩ := (show ObjOk X.prog X.w H s.heap a (.lst xs) from I.hok a _ ea)
    exact PySem.W.kia_one PySem.W.kitx_list I.kIn ⟨_, h1, rfl⟩ e (fun z => nomatch z) h
  | @frz a ob xs ea =>
    cases (show u = Value.ref a from rx)
    obtain ⟨_, _, _, n, _, h1⟩ := (show ObjOk X.prog X.w H s.heap a (.frz ob (.lst xs)) from I.hok a _ ea)
    exact PySem.W.kia_one PySem.W.kitx_list I.kIn ⟨_, h1, rfl⟩ e (fun z => nomatch z) h
  | @tup a xs ea =>
    cases (show u = Value.ref a from rx)
    obtain ⟨_, _, _, p⟩ := (show ObjOk X.prog X.w H s.heap a (.tup xs) from I.hok a _ ea)
    obtain ⟨o, h1, h2, _⟩ := p
    exact PySem.W.kia_one PySem.W.kitx_tuple I.kIn ⟨o, h1, h2⟩ e (fun z => nomatch z) h
  | @dK a kvs ea =>
    cases (show u = Value.ref a from rx)
    obtain ⟨_, _, vs, _, p⟩ := (show ObjOk X.prog X.w H s.heap a (.dK kvs) from I.hok a _ ea)
    obtain ⟨o, es, ep, h1, h2, _⟩ := p
    exact PySem.W.kia_one PySem.W.kitx_dict I.kIn ⟨o, h1, h2.1⟩ e (fun z => nomatch z) h
  | @dT a kvs ea =>
    cases (show u = Value.ref a from rx)
    obtain ⟨_, _, xs, _, o, es, ep, h1, h2, _⟩ := (show ObjOk X.prog X.w H s.heap a (.dT kvs) from I.hok a _ ea)
    exact PySem.W.kia_one PySem.W.kitx_dict I.kIn ⟨o, h1, h2.1⟩ e (fun z => nomatch z) h
  | @ins a C dx fs ea cl ha hn htk hm =>
    cases (show u = Value.ref a from rx)
    obtain ⟨mA, O, _⟩ := ins_get I.hok ea
    obtain ⟨od, J, _⟩ := O.look
    exact PySem.W.kia_one (PySem.W.kitx_own (cl.get _) cl.hd ha hn htk hm) I.kIn J e (fun z => nomatch z) h
end
end L2

namespace L2
open PySem PySem.Spec PyProof.Rows

/-! ### room -/
structure Room (k : Nat) (A : Around) : Prop where
  hd : A.handled = none
  dp : A.depth + 3 * k + 5 < recursionLimit
  un : A.units + 16 * k + 200 < cLine
theorem Room.mono {j k : Nat} {A : Around} (r : Room k A) (h : j ≤ k) : Room j A := ⟨r.hd, by have := r.dp; omega, by have := r.un; omega⟩
theorem Room.deeper {k : Nat} {A : Around} (r : Room (k + 1) A) (env : Env) : Room k (A.deeper env) :=
  ⟨r.hd, by have := r.dp; show A.depth + 1 + 3 * k + 5 < _; omega, by have := r.un; show A.units + 3 + 16 * k + 200 < _; omega⟩
theorem Room.in1 {k : Nat} {A : Around} (r : Room (k + 1) A) : Room k A.in1 :=
  ⟨r.hd, by have := r.dp; show A.depth + 3 * k + 5 < _; omega, by have := r.un; show A.units + 1 + 16 * k + 200 < _; omega⟩
theorem make_depth {A : Around} {C : Addr} {us : List Value} {kw : List (Str × Value)} : (A.under (.builtin "type.__call__" ⟨.ref C :: us, kw⟩)).depth = A.depth + 1 := by
  first | rfl | simp [Around.under, Code.weight, Code.isCreation, Code.isGuard, Code.isCaller, Code.frames, Code.isFrame, guardIds]
theorem make_units {A : Around} {C : Addr} {us : List Value} {kw : List (Str × Value)} : (A.under (.builtin "type.__call__" ⟨.ref C :: us, kw⟩)).units = A.units + 1 := by
  first | rfl | simp [Around.under, Code.cUnits, Code.frames, Code.isFrame]
theorem Room.make {k : Nat} {A : Around} (r : Room (k + 1) A) (C : Addr) (us : List Value) (kw : List (Str × Value)) : Room k (A.under (.builtin "type.__call__" ⟨.ref C :: us, kw⟩)) :=
  ⟨r.hd, by have := r.dp; rw [make_depth]; omega, by have := r.un; rw [make_units]; omega⟩
theorem Room.depth {k : Nat} {A : Around} (r : Room k A) : A.depth < recursionLimit := by have := r.dp; omega
theorem Room.units {k : Nat} {A : Around} (r : Room k A) : A.units + 64 < cLine := by have := r.un; omega
theorem Room.units0 {k : Nat} {A : Around} (r : Room k A) : A.units < cLine := by have := r.un; omega

/-! ### argument lists and displays -/
def tNil : TA := fun _ H Q => Q [] H
def tCons (ta : TE) (tr : TA) : TA := fun σ H Q => ta σ H fun x H1 => tr σ H1 fun xs H2 => Q (x :: xs) H2
section
variable {X : Cx} {e : Expr} {es : List Expr} {te : TE} {t : TA} {pos : Pos}
theorem pa_nil : PA X [] tNil := fun _ _ _ _ H Q I h => Calls.spliced_nil ⟨[], H, I, .nil, h⟩
theorem pa_cons (ha : PE X e te) (hr : PA X es t) (hs : starEach (e :: es) X.env = (false, eval e X.env) :: starEach es X.env := by rfl) : PA X (e :: es) (tCons te t) := by
  intro pos pins s σ H Q I h
  rw [hs]
  show wpAny _ _ (spliced ((false, eval e X.env) :: backTo pos (starEach es X.env))) _ _ s
  refine Calls.spliced_cons (thn (ha pins s σ H _ I h) fun u s1 ⟨x, H1, I1, r1, q1⟩ => ?_)
  exact thn (hr pos pins s1 σ H1 _ I1 q1) fun us s2 ⟨xs, H2, I2, r2, q2⟩ => ⟨x :: xs, H2, I2, .cons r1 r2, q2⟩

/-- a tuple, a list of written items -/
def tTup (t : TA) : TE := fun σ H Q => t σ H fun xs H1 => xs.length ≤ sizeLine ∧ ∀ p, H1 p = none → Q (.ref p) (upd H1 p (.tup xs))
def tLst (t : TA) : TE := fun σ H Q => t σ H fun xs H1 => xs.length ≤ sizeLine ∧ ∀ p, H1 p = none → Q (.ref p) (upd H1 p (.lst xs))
theorem pe_tup {x1} (h : PA X es t) : PE X (.Tuple es x1 pos) (tTup t) := by
  intro pins s σ H Q I hq
  refine wpAny_Tuple_spliced (thn (h pos pins s σ H _ I hq) fun us s1 ⟨xs, H1, I1, r, z, q⟩ => ⟨by rw [← r.length]; exact z, ?_⟩)
  have hf : H1 s1.heap.objs.size = none := I1.hok.fresh (Nat.le_refl _)
  refine ⟨.ref s1.heap.objs.size, upd H1 s1.heap.objs.size (.tup xs), I1.laid (t' := s1.toks) (fun b u e => Heap.get?_push_of_some _ e) (Nat.le_refl _) ?_, rfl, q _ hf⟩
  exact ⟨z, us, r, ⟨_, Heap.get?_push_size _ rfl, rfl, _, rfl⟩⟩
theorem pe_lst (h : PA X es t) : PE X (.List es pos) (tLst t) := by
  intro pins s σ H Q I hq
  refine wpAny_List_spliced (thn (h pos pins s σ H _ I hq) fun us s1 ⟨xs, H1, I1, r, z, q⟩ => ⟨by rw [← r.length]; exact z, ?_⟩)
  have hf : H1 s1.heap.objs.size = none := I1.hok.fresh (Nat.le_refl _)
  refine ⟨.ref s1.heap.objs.size, upd H1 s1.heap.objs.size (.lst xs), I1.laid (t' := s1.toks) (fun b u e => Heap.get?_push_of_some _ e) (Nat.le_refl _) ?_, rfl, q _ hf⟩
  exact ⟨z, us, 0, r, Heap.get?_push_size _ rfl⟩
end

/-! ### what a def promises -/
/-- a def's promise: the bound arguments in the parameters' order, the heap, the wanted end, the wanted exception -/
abbrev Sp := List V → Hp → VK → XK → Prop
/-- how an exception lies behind a call (file 08 gives it): the callers' frames, abstract heap and state ahead of the call, the wish, the exception, the state -/
abbrev CXT := List Env → Hp → Shared → XK → Value → Shared → Prop

/-- the state at a call -/
structure Env0 (P : Program) (w : World) (K : PySem.W.Frag) (mg : Str → Option Value) (base : Heap) (A : Around) (outer : List Env) (s : Shared) (H : Hp) : Prop where
  frames : A.frames = some outer
  mod : Mod K mg base
  bs : ∀ b o, base.get? b = some o → s.heap.get? b = some o ∧ H b = none
  bsz : base.objs.size ≤ s.heap.objs.size
  funs : s.heap.FunFrames base outer
  frf : ∀ b ∈ frs outer, H b = none
  hok : HOk P w H s.heap
  bare : AllBare s.gens
/-- a call's end -/
def CE (outer : List Env) (P : Program) (w : World) (H : Hp) (s : Shared) (Q : VK) (u : Value) (s' : Shared) : Prop :=
  ∃ v H', s'.os = s.os ∧ AllBare s'.gens ∧ Un (frs outer) [] H H' s.heap s'.heap ∧ HOk P w H' s'.heap ∧ RelV v u ∧ Q v H'
def CR (CX : CXT) (outer : List Env) (P : Program) (w : World) (H : Hp) (s : Shared) (Q : VK) (E : XK) (r : Result) (s' : Shared) : Prop :=
  match r with
  | .ok (.ret u) => CE outer P w H s Q u s'
  | .ok _ => False
  | .error e => CX outer H s E e s'
structure FnOk (P : Program) (w : World) (K : PySem.W.Frag) (mg : Str → Option Value) (base : Heap) (CX : CXT) (k : Nat) (f : Addr) (fd : FuncData) (ps : List Str) (sp : Sp) : Prop where
  len : ∀ vs H Q E, sp vs H Q E → vs.length = ps.length
  run : ∀ (A : Around) (outer : List Env) (s : Shared) (H : Hp) (args : Args) (us : List Value) (vs : List V) (Q : VK) (E : XK), Room k A → Env0 P w K mg base A outer s H → BindsTo s fd args (ps.zip us) → Vals vs us → sp vs H Q E →
    codeAny (model P w) A (.call (.ref f) args) (CR CX outer P w H s Q E) s
theorem FnOk.mono {P : Program} {w : World} {K : PySem.W.Frag} {mg : Str → Option Value} {base : Heap} {CX : CXT} {j k : Nat} {f : Addr} {fd : FuncData} {ps : List Str} {sp : Sp} (F : FnOk P w K mg base CX j f fd ps sp) (h : j ≤ k) :
    FnOk P w K mg base CX k f fd ps sp := ⟨F.len, fun A outer s H args us vs Q E hr => F.run A outer s H args us vs Q E (hr.mono h)⟩
/-- a weaker promise -/
theorem FnOk.imp {P : Program} {w : World} {K : PySem.W.Frag} {mg : Str → Option Value} {base : Heap} {CX : CXT} {k : Nat} {f : Addr} {fd : FuncData} {ps : List Str} {sp sp' : Sp} (F : FnOk P w K mg base CX k f fd ps sp)
    (h : ∀ vs H Q E, sp' vs H Q E → sp vs H Q E) : FnOk P w K mg base CX k f fd ps sp' :=
  ⟨fun vs H Q E q => F.len vs H Q E (h _ _ _ _ q), fun A outer s H args us vs Q E hr he hb hv hs => F.run A outer s H args us vs Q E hr he hb hv (h _ _ _ _ hs)⟩

theorem Env0.make {P : Program} {w : World} {K : PySem.W.Frag} {mg : Str → Option Value} {base : Heap} {A : Around} {outer : List Env} {s : Shared} {H : Hp} (e : Env0 P w K mg base A outer s H) (C : Addr) (us : List Value) (kw : List (Str × Value)) :
    Env0 P w K mg base (A.under (.builtin "type.__call__" ⟨.ref C :: us, kw⟩)) outer s H := ⟨by first | exact e.frames | (simpa [Around.under, Code.envs, Code.isFrame, pushEnvs] using e.frames), e.mod, e.bs, e.bsz, e.funs, e.frf, e.hok, e.bare⟩
theorem Env0.in1 {P : Program} {w : World} {K : PySem.W.Frag} {mg : Str → Option Value} {base : Heap} {A : Around} {outer : List Env} {s : Shared} {H : Hp} (e : Env0 P w K mg base A outer s H) :
    Env0 P w K mg base A.in1 outer s H := ⟨e.frames, e.mod, e.bs, e.bsz, e.funs, e.frf, e.hok, e.bare⟩

section
variable {X : Cx} {pins : List (Addr × Obj)} {σ : St} {H : Hp} {s s' : Shared}
/-- from a body: what a callee wants -/
theorem Inv.env0 (I : Inv X pins σ H s) : Env0 X.prog X.w X.K X.mg X.base X.A X.stack s H :=
  ⟨I.ok.frames, I.ok.mod, I.bs, Nat.le_trans I.ok.bsz I.sz, I.stack, I.stkFree, I.hok, I.bare⟩
/-- behind a call -/
theorem Inv.after {Q : VK} {u : Value} (I : Inv X pins σ H s) (h : CE X.stack X.prog X.w H s Q u s') : EP X pins σ Q u s' := by
  obtain ⟨v, H', os, bare, un, hok, r, q⟩ := h
  obtain ⟨hh, g, d, t, os'⟩ := s'
  obtain rfl : os' = s.os := os
  exact ⟨v, H', I.call (h' := hh) (g' := g) (d' := d) (t' := t) (ch := []) un hok bare (fun b z => absurd z (by simp)), r, q⟩
end

/-! ### calls -/
/-- f(..): the written arguments, then the defaults dvs; E: what is wanted of an exception -/
def tCall (sp : Sp) (dvs : List V) (E : XK) (t : TA) : TE := fun σ H Q => t σ H fun vs H1 => sp (vs ++ dvs) H1 Q E
/-- o.m(..) of an instance of the class at C -/
def tMeth (C : Addr) (m : Str) (sp : Sp) (dvs : List V) (E : XK) (ta : TE) (t : TA) : TE := fun σ H Q => ta σ H fun x H1 => ∃ a dx fs, x = .ref a ∧ H1 a = some (.ins C dx fs) ∧ fs.lookup m = none ∧
  t σ H1 fun vs H2 => sp (x :: (vs ++ dvs)) H2 Q E
/-- C(..): a new instance and its dict, then __init__ -/
def tMake (C : Addr) (sp : Sp) (dvs : List V) (E : XK) (t : TA) : TE := fun σ H Q => t σ H fun vs H1 => ∀ x dx, H1 x = none → H1 dx = none → dx ≠ x →
  sp (.ref x :: (vs ++ dvs)) (upd (upd H1 dx (.own x)) x (.ins C dx [])) (fun v H2 => v = .non ∧ Q (.ref x) H2) E

/-- how the parameters are bound: us the positional arguments, kw the keywords' values by name, ds the defaults that fill up -/
def Binds (K : PySem.W.Frag) (fd : FuncData) (ps : List Str) (ds : List Value) : Prop :=
  ∀ (s : Shared) (us : List Value), K.In s.heap → (us ++ ds).length = ps.length → BindsTo s fd ⟨us, []⟩ (ps.zip (us ++ ds))
/-- every parameter is given -/
theorem Binds.all {K : PySem.W.Frag} {fd : FuncData} {ps : List Str} (h : ∀ us : List Value, us.length = ps.length → bindArgs fd ⟨us, []⟩ = pure (ps.zip us)) : Binds K fd ps [] := fun s us _ hl => by
  rw [List.append_nil] at hl ⊢
  exact .of_eq (h us hl)

/-- an exception of a callee reaches what this body wants of exceptions -/
def Passes (CX : CXT) (X : Cx) (E : XK) : Prop := ∀ (pins : List (Addr × Obj)) (σ : St) (H : Hp) (s : Shared) (e : Value) (s' : Shared), Inv X pins σ H s → CX X.stack H s E e s' → X.xe e s'

section
variable {X : Cx} {CX : CXT} {k : Nat} {f C : Addr} {fd : FuncData} {ps : List Str} {sp : Sp} {dvs : List V} {ds : List Value} {E : XK} {x m : Str} {p pos apos : Pos} {e o : Expr} {es : List Expr} {ta : TE} {t : TA}

/-- the callee runs -/
theorem run_fn {pins : List (Addr × Obj)} {σ : St} {H : Hp} {s : Shared} {Q : VK} {us : List Value} {vs : List V} (F : FnOk X.prog X.w X.K X.mg X.base CX k f fd ps sp) (hr : Room k X.A) (hb : Binds X.K fd ps ds) (hd : Vals dvs ds) (hx : Passes CX X E)
    (I : Inv X pins σ H s) (r : Vals vs us) (h : sp (vs ++ dvs) H Q E) : wpAny (model X.prog X.w) X.A (call (.ref f) us) (EP X pins σ Q) X.xe s := by
  have r2 : Vals (vs ++ dvs) (us ++ ds) := r.append hd
  have hl : (us ++ ds).length = ps.length := by rw [← r2.length]; exact F.len _ _ _ _ h
  refine wpAny_call (codeAny_mono (F.run X.A X.stack s H ⟨us, []⟩ (us ++ ds) (vs ++ dvs) Q E hr I.env0 (hb s us I.kIn hl) r2 h) fun r s' hq => ?_)
  cases r with
  | error e => exact hx pins σ H s e s' I hq
  | ok fl =>
    cases fl with
    | ret u => exact I.after hq
    | next => exact False.elim hq
    | brk => exact False.elim hq
    | cont => exact False.elim hq

theorem pe_call (F : FnOk X.prog X.w X.K X.mg X.base CX k f fd ps sp) (hr : Room k X.A) (hg : Gl X x) (hm : X.mg x = some (.ref f)) (hk : PySem.W.keepIn X.K (.ref f) = true) (hb : Binds X.K fd ps ds) (hd : Vals dvs ds) (hx : Passes CX X E)
    (ha : PA X (e :: es) t) (hdb : (x == ("__debug__" : Str)) = false := by decide) (he : starEach (e :: es) X.env = (false, eval e X.env) :: starEach es X.env := by rfl) (hpl : (backTo pos (starEach es X.env)).any (·.1) = false := by rfl) :
    PE X (.Call (.Name x p) (e :: es) [] pos) (tCall sp dvs E t) := by
  intro pins s σ H Q I h
  refine wpAny_Call_Name_kw (ld_glob I hg hm ?_ hdb)
  refine PySem.W.callWith_K (h₀ := X.base) I.ok.mod.kin hk (thn (ha pos pins s σ H _ I h) fun us s1 ⟨vs, H1, I1, r, q⟩ => ⟨I1.kIn, ?_⟩) he hpl
  exact run_fn F hr hb hd hx I1 r q
theorem pe_call0 (F : FnOk X.prog X.w X.K X.mg X.base CX k f fd ps sp) (hr : Room k X.A) (hg : Gl X x) (hm : X.mg x = some (.ref f)) (hk : PySem.W.keepIn X.K (.ref f) = true) (hb : Binds X.K fd ps ds) (hd : Vals dvs ds) (hx : Passes CX X E)
    (hdb : (x == ("__debug__" : Str)) = false := by decide) : PE X (.Call (.Name x p) [] [] pos) (tCall sp dvs E tNil) := by
  intro pins s σ H Q I h
  refine wpAny_Call_Name_kw (ld_glob I hg hm ?_ hdb)
  exact PySem.W.callWith_K0 I.kIn hk (run_fn (us := []) F hr hb hd hx I .nil h)

/-- o.m(e, ..) -/
theorem pe_meth {pl : Sem Bool} (he : PE X o ta) (c : Cls X.K C) (hm : Meth X.K C m f) (F : FnOk X.prog X.w X.K X.mg X.base CX k f fd ps sp) (hr : Room k X.A) (hb : Binds X.K fd ps ds) (hd : Vals dvs ds) (hx : Passes CX X E) (ha : PA X (e :: es) t)
    (hst : starEach (e :: es) X.env = (false, eval e X.env) :: starEach es X.env := by rfl) (hpl : (backTo pos (starEach es X.env)).any (·.1) = false := by rfl)
    (ht : eval (.Call (.Attribute o m apos) (e :: es) [] pos) X.env = (do
      let ov ← eval o X.env
      standAt apos.atName
      let (f, first) ← holding [ov] (getMethod ov m pl)
      callWith pos f first (backTo pos (starEach (e :: es) X.env)) (backToKw pos (keywordEach [] X.env))) := by rfl) :
    PE X (.Call (.Attribute o m apos) (e :: es) [] pos) (tMeth C m sp dvs E ta t) := by
  intro pins s σ H Q I h
  refine PySem.W.methodCall_KW (pl := pl) (thn (he pins s σ H _ I h) fun u s1 ⟨x, H1, I1, rx, a, dx, fs, ex, ea, l, q⟩ => ?_) ht
  subst ex
  obtain rfl : u = Value.ref a := rx
  refine getmeth_ok I1 ea c hm l ?_
  refine PySem.W.callWith_K (first := [.ref a]) (h₀ := X.base) I.ok.mod.kin hm.kp (thn (ha pos pins s1 σ H1 _ I1 q) fun us s2 ⟨vs, H2, I2, r, q2⟩ => ⟨I2.kIn, ?_⟩) hst hpl
  exact run_fn (us := .ref a :: us) (vs := .ref a :: vs) F hr hb hd hx I2 (.cons rfl r) q2
/-- o.m() -/
theorem pe_meth0 {pl : Sem Bool} (he : PE X o ta) (c : Cls X.K C) (hm : Meth X.K C m f) (F : FnOk X.prog X.w X.K X.mg X.base CX k f fd ps sp) (hr : Room k X.A) (hb : Binds X.K fd ps ds) (hd : Vals dvs ds) (hx : Passes CX X E)
    (ht : eval (.Call (.Attribute o m apos) [] [] pos) X.env = (do
      let ov ← eval o X.env
      standAt apos.atName
      let (f, first) ← holding [ov] (getMethod ov m pl)
      callWith pos f first (backTo pos (starEach [] X.env)) (backToKw pos (keywordEach [] X.env))) := by rfl) :
    PE X (.Call (.Attribute o m apos) [] [] pos) (tMeth C m sp dvs E ta tNil) := by
  intro pins s σ H Q I h
  refine PySem.W.methodCall_KW (pl := pl) (thn (he pins s σ H _ I h) fun u s1 ⟨x, H1, I1, rx, a, dx, fs, ex, ea, l, q⟩ => ?_) ht
  subst ex
  obtain rfl : u = Value.ref a := rx
  refine getmeth_ok I1 ea c hm l ?_
  exact PySem.W.callWith_K0 (first := [.ref a]) I1.kIn hm.kp (run_fn (us := [.ref a]) (vs := [.ref a]) F hr hb hd hx I1 (.cons rfl .nil) q)

/-- what a class must have to be made -/
structure Mk (K : PySem.W.Frag) (C f : Addr) : Prop where
  makes : PySem.W.makesIn K C = true
  init : PySem.W.findIn K (.ref C) "__init__" = some (some (.ref f))
  fn : PySem.W.isFn K (.ref f) = true
  kp : PySem.W.keepIn K (.ref C) = true

theorem run_make {pins : List (Addr × Obj)} {σ : St} {H : Hp} {s : Shared} {Q : VK} {us : List Value} {vs : List V} (M : Mk X.K C f) (F : FnOk X.prog X.w X.K X.mg X.base CX k f fd ps sp) (hr : Room (k + 1) X.A) (hb : Binds X.K fd ps ds) (hd : Vals dvs ds)
    (hx : Passes CX X E) (I : Inv X pins σ H s) (r : Vals vs us)
    (h : ∀ x dx, H x = none → H dx = none → dx ≠ x → sp (.ref x :: (vs ++ dvs)) (upd (upd H dx (.own x)) x (.ins C dx [])) (fun v H2 => v = .non ∧ Q (.ref x) H2) E) :
    wpAny (model X.prog X.w) X.A (call (.ref C) us) (EP X pins σ Q) X.xe s := by
  have hq := h (s.heap.objs.size + 1) s.heap.objs.size (I.hok.fresh (Nat.le_succ _)) (I.hok.fresh (Nat.le_refl _)) (Nat.ne_of_lt (Nat.lt_succ_self _))
  have I2 := Inv.made (C := C) I
  have r2 : Vals (V.ref (s.heap.objs.size + 1) :: (vs ++ dvs)) (Value.ref (s.heap.objs.size + 1) :: (us ++ ds)) := .cons rfl (r.append hd)
  have hl : (Value.ref (s.heap.objs.size + 1) :: us ++ ds).length = ps.length := by
    have e := r2.length
    rw [F.len _ _ _ _ hq] at e
    exact e.symm
  refine wpAny_call (make_map (f := f) I.kIn M.makes M.init (beq_iff_eq.mp M.fn) (codeAny_mono (F.run _ X.stack _ _ ⟨Value.ref (s.heap.objs.size + 1) :: us, []⟩ (Value.ref (s.heap.objs.size + 1) :: (us ++ ds)) _ _ E (hr.make C us [])
    (I2.env0.make C us []) (hb _ (Value.ref (s.heap.objs.size + 1) :: us) I2.kIn hl) r2 hq) fun r s' hq' => ?_))
  cases r with
  | error e => exact hx pins σ _ _ e s' I2 hq'
  | ok fl =>
    cases fl with
    | ret u =>
      obtain ⟨v, H', I3, rv, ev, q3⟩ := I2.after hq'
      subst ev
      exact ⟨rv, ⟨V.ref (s.heap.objs.size + 1), H', I3, rfl, q3⟩⟩
    | next => exact False.elim hq'
    | brk => exact False.elim hq'
    | cont => exact False.elim hq'
theorem pe_make (M : Mk X.K C f) (F : FnOk X.prog X.w X.K X.mg X.base CX k f fd ps sp) (hr : Room (k + 1) X.A) (hg : Gl X x) (hm : X.mg x = some (.ref C)) (hb : Binds X.K fd ps ds) (hd : Vals dvs ds) (hx : Passes CX X E)
    (ha : PA X (e :: es) t) (hdb : (x == ("__debug__" : Str)) = false := by decide) (he : starEach (e :: es) X.env = (false, eval e X.env) :: starEach es X.env := by rfl) (hpl : (backTo pos (starEach es X.env)).any (·.1) = false := by rfl) :
    PE X (.Call (.Name x p) (e :: es) [] pos) (tMake C sp dvs E t) := by
  intro pins s σ H Q I h
  refine wpAny_Call_Name_kw (ld_glob I hg hm ?_ hdb)
  refine PySem.W.callWith_K (h₀ := X.base) I.ok.mod.kin M.kp (thn (ha pos pins s σ H _ I h) fun us s1 ⟨vs, H1, I1, r, q⟩ => ⟨I1.kIn, ?_⟩) he hpl
  exact run_make M F hr hb hd hx I1 r q
theorem pe_make0 (M : Mk X.K C f) (F : FnOk X.prog X.w X.K X.mg X.base CX k f fd ps sp) (hr : Room (k + 1) X.A) (hg : Gl X x) (hm : X.mg x = some (.ref C)) (hb : Binds X.K fd ps ds) (hd : Vals dvs ds) (hx : Passes CX X E)
    (hdb : (x == ("__debug__" : Str)) = false := by decide) : PE X (.Call (.Name x p) [] [] pos) (tMake C sp dvs E tNil) := by
  intro pins s σ H Q I h
  refine wpAny_Call_Name_kw (ld_glob I hg hm ?_ hdb)
  exact PySem.W.callWith_K0 I.kIn M.kp (run_make (us := []) M F hr hb hd hx I .nil h)
end

/-! ### keywords -/
/-- the values of the keywords, from the left -/
def PK (X : Cx) (kws : List Keyword) (t : TA) : Prop :=
  ∀ (pos : Pos) (pins : List (Addr × Obj)) (s : Shared) (σ : St) (H : Hp) (Q : List V → Hp → Prop), Inv X pins σ H s → t σ H Q → wpAny (model X.prog X.w) X.A (evalAll ((backToKw pos (keywordEach kws X.env)).map (·.2))) (AP X pins σ Q) X.xe s
section
variable {X : Cx} {CX : CXT} {k : Nat} {f C : Addr} {fd : FuncData} {ps ks : List Str} {sp : Sp} {E : XK} {x m : Str} {p pos apos kpos : Pos} {e o : Expr} {es : List Expr} {kws : List Keyword} {te ta : TE} {t tk : TA} {nm : Option Str}
theorem pk_nil : PK X [] tNil := fun _ _ _ _ H Q I h => wpAny_evalAll_nil ⟨[], H, I, .nil, h⟩
theorem pk_cons (ha : PE X e te) (hr : PK X kws t) : PK X (⟨nm, e, kpos⟩ :: kws) (tCons te t) := by
  intro pos pins s σ H Q I h
  show wpAny _ _ (evalAll ((do let v ← eval e X.env; standAt pos; pure v) :: (backToKw pos (keywordEach kws X.env)).map (·.2))) _ _ s
  refine wpAny_evalAll_cons (wpAny_bind (thn (ha pins s σ H _ I h) fun u s1 ⟨x, H1, I1, r1, q1⟩ => wpAny_bind (wpAny_standAt (wpAny_pure ?_))))
  exact thn (hr pos pins s1 σ H1 _ I1 q1) fun us s2 ⟨xs, H2, I2, r2, q2⟩ => ⟨x :: xs, H2, I2, .cons r1 r2, q2⟩

/-- how a call with keywords binds: g puts the positional values us and the keywords' values ws (names ks) in the parameters' order, defaults among them -/
structure KBinds (K : PySem.W.Frag) (fd : FuncData) (ps ks : List Str) (g : List Value → List Value → List Value) (gV : List V → List V → List V) : Prop where
  to : ∀ (s : Shared) (us ws : List Value), K.In s.heap → (g us ws).length = ps.length → BindsTo s fd ⟨us, ks.zip ws⟩ (ps.zip (g us ws))
  rel : ∀ {vs : List V} {us : List Value} {zs : List V} {ws : List Value}, Vals vs us → Vals zs ws → Vals (gV vs zs) (g us ws)
def tCallK (sp : Sp) (gV : List V → List V → List V) (E : XK) (t tk : TA) : TE := fun σ H Q => t σ H fun vs H1 => tk σ H1 fun zs H2 => sp (gV vs zs) H2 Q E
variable {g : List Value → List Value → List Value} {gV : List V → List V → List V}
theorem run_fnk {pins : List (Addr × Obj)} {σ : St} {H : Hp} {s : Shared} {Q : VK} {us ws : List Value} {vs zs : List V} (F : FnOk X.prog X.w X.K X.mg X.base CX k f fd ps sp) (hr : Room k X.A) (hb : KBinds X.K fd ps ks g gV) (hx : Passes CX X E)
    (I : Inv X pins σ H s) (r : Vals vs us) (rz : Vals zs ws) (h : sp (gV vs zs) H Q E) : wpAny (model X.prog X.w) X.A (call (.ref f) us (ks.zip ws)) (EP X pins σ Q) X.xe s := by
  have r2 := hb.rel r rz
  have hl : (g us ws).length = ps.length := by rw [← r2.length]; exact F.len _ _ _ _ h
  refine wpAny_call (codeAny_mono (F.run X.A X.stack s H ⟨us, ks.zip ws⟩ (g us ws) (gV vs zs) Q E hr I.env0 (hb.to s us ws I.kIn hl) r2 h) fun r s' hq => ?_)
  cases r with
  | error e => exact hx pins σ H s e s' I hq
  | ok fl =>
    cases fl with
    | ret u => exact I.after hq
    | next => exact False.elim hq
    | brk => exact False.elim hq
    | cont => exact False.elim hq
/-- f(e, .., k = v, ..) -/
theorem pe_callK (F : FnOk X.prog X.w X.K X.mg X.base CX k f fd ps sp) (hr : Room k X.A) (hg : Gl X x) (hm : X.mg x = some (.ref f)) (hk : PySem.W.keepIn X.K (.ref f) = true) (hb : KBinds X.K fd ps ks g gV) (hx : Passes CX X E)
    (ha : PA X (e :: es) t) (hkw : PK X kws tk) (hall : (backToKw pos (keywordEach kws X.env)).all (·.1.isSome) = true := by rfl) (hks : (backToKw pos (keywordEach kws X.env)).filterMap (·.1) = ks := by rfl)
    (hdb : (x == ("__debug__" : Str)) = false := by decide) (he : starEach (e :: es) X.env = (false, eval e X.env) :: starEach es X.env := by rfl)
    (hpl : ((backTo pos (starEach (e :: es) X.env)).any (·.1) || (backToKw pos (keywordEach kws X.env)).any (·.1.isNone)) = false := by rfl) :
    PE X (.Call (.Name x p) (e :: es) kws pos) (tCallK sp gV E t tk) := by
  intro pins s σ H Q I h
  refine wpAny_Call_Name_kw (ld_glob I hg hm ?_ hdb)
  refine PySem.W.callWith_KW (h₀ := X.base) I.ok.mod.kin hk hall (thn (ha pos pins s σ H _ I h) fun us s1 ⟨vs, H1, I1, r, q⟩ => ?_) hpl he
  refine thn (hkw pos pins s1 σ H1 _ I1 q) fun ws s2 ⟨zs, H2, I2, rz, q2⟩ => ⟨I2.kIn, ?_⟩
  rw [hks]
  exact run_fnk F hr hb hx I2 r rz q2
end

/-! ### a def's body keeps its promise -/
/-- names: the parameters first -/
structure FnScope (N P : List Str) (sc : Scope) : Prop where
  kind : sc.kind = .function
  co : sc.isCoroutine = false
  gen : sc.isGenerator = false
  nd : N.Nodup
  pre : N.take P.length = P
  par : ∀ x ∈ P, sc.names.lookup x = some .local ∨ sc.names.lookup x = some .cell
  nofree : ∀ y ∈ sc.names, y.2 ≠ .free

theorem bindL_out {kindOf : Str → Option NameKind} {x : Str} : ∀ {binds : List (Str × Value)} {m : Str → Option Value}, (∀ v, (x, v) ∉ binds) → bindL kindOf binds m x = m x
  | [], _, _ => rfl
  | (n, v) :: r, m, h => by
    unfold bindL
    rw [bindL_out fun w hw => h w (List.mem_cons_of_mem _ hw)]
    split
    · have : x ≠ n := by rintro rfl; exact h v List.mem_cons_self
      simp [this]
    · rfl
theorem bindC_out {kindOf : Str → Option NameKind} {x : Str} : ∀ {binds : List (Str × Value)} {m : Str → Option Value}, (∀ v, (x, v) ∉ binds) → bindC kindOf binds m x = m x
  | [], _, _ => rfl
  | (n, v) :: r, m, h => by
    unfold bindC
    rw [bindC_out fun w hw => h w (List.mem_cons_of_mem _ hw)]
    split
    · rfl
    · have : x ≠ n := by rintro rfl; exact h v List.mem_cons_self
      simp [this]
theorem bindL_get {kindOf : Str → Option NameKind} {x : Str} {v : Value} : ∀ {P : List Str} {vs : List Value} {i : Nat} {m : Str → Option Value}, P.Nodup → P[i]? = some x → vs[i]? = some v → kindOf x = some .local →
    bindL kindOf (P.zip vs) m x = some v
  | [], _, _, _, _, h, _, _ => by simp at h
  | _ :: _, [], _, _, _, _, h, _ => by simp at h
  | p :: P, w :: vs, 0, m, nd, h1, h2, hk => by
    simp at h1 h2; subst h1; subst h2
    show bindL kindOf ((p, w) :: P.zip vs) m p = _
    unfold bindL
    rw [bindL_out fun v hv => (List.nodup_cons.mp nd).1 (List.of_mem_zip hv).1, if_pos hk]
    simp
  | p :: P, w :: vs, i + 1, m, nd, h1, h2, hk => by
    show bindL kindOf ((p, w) :: P.zip vs) m x = _
    unfold bindL
    exact bindL_get (i := i) (List.nodup_cons.mp nd).2 (by simpa using h1) (by simpa using h2) hk
theorem bindC_get {kindOf : Str → Option NameKind} {x : Str} {v : Value} : ∀ {P : List Str} {vs : List Value} {i : Nat} {m : Str → Option Value}, P.Nodup → P[i]? = some x → vs[i]? = some v → kindOf x ≠ some .local →
    bindC kindOf (P.zip vs) m x = some v
  | [], _, _, _, _, h, _, _ => by simp at h
  | _ :: _, [], _, _, _, _, h, _ => by simp at h
  | p :: P, w :: vs, 0, m, nd, h1, h2, hk => by
    simp at h1 h2; subst h1; subst h2
    show bindC kindOf ((p, w) :: P.zip vs) m p = _
    unfold bindC
    rw [bindC_out fun v hv => (List.nodup_cons.mp nd).1 (List.of_mem_zip hv).1, if_neg hk]
    simp
  | p :: P, w :: vs, i + 1, m, nd, h1, h2, hk => by
    show bindC kindOf ((p, w) :: P.zip vs) m x = _
    unfold bindC
    exact bindC_get (i := i) (List.nodup_cons.mp nd).2 (by simpa using h1) (by simpa using h2) hk

/-- the names' values at the entry -/
def start (N : List Str) (vs : List V) : St := vs.map some ++ List.replicate (N.length - vs.length) none

/-- the context of a def's body, at its entry; an exception leaves the frame, then lies as CX says -/
def cxOf (CX : CXT) (P : Program) (w : World) (K : PySem.W.Frag) (mg : Str → Option Value) (base : Heap) (N : List Str) (qual : Str) (scope : Scope) (f : Addr) (cd : Value) (A : Around) (outer : List Env) (s : Shared) (H : Hp) (E : XK) : Cx where
  prog := P
  w := w
  K := K
  mg := mg
  base := base
  A := A.deeper (envOfC qual scope s.heap.objs.size f cd)
  N := N
  s₀ := s
  H₀ := H
  env := envOfC qual scope s.heap.objs.size f cd
  outer := outer
  stack := envOfC qual scope s.heap.objs.size f cd :: outer
  ex := []
  calm := true
  fn := fun _ => true
  pn := []
  xe := fun e s' => wpAny (model P w) (A.deeper (envOfC qual scope s.heap.objs.size f cd)) (leaving (envOfC qual scope s.heap.objs.size f cd) e) (fun _ s'' => CX outer H s E e s'') (fun e' s'' => CX outer H s E e' s'') s'

theorem cell_has {sc : Scope} {n : Nat} {x : Str} (h : sc.names.lookup x = some .cell) : ∃ c, (cellsFrom n sc.names []).lookup x = some c := by
  have q := PySem.W.cellsFrom_some sc.names n [] (.inl h)
  exact Option.isSome_iff_exists.mp q

theorem inv_start {CX : CXT} {P : Program} {w : World} {K : PySem.W.Frag} {mg : Str → Option Value} {base : Heap} {N ps : List Str} {qual : Str} {scope : Scope} {f : Addr} {cd : Value} {A : Around} {outer : List Env} {s s1 : Shared} {H : Hp} {E : XK} {us : List Value} {vs : List V}
    (S : FnScope N ps scope) (hd : A.handled = none) (e0 : Env0 P w K mg base A outer s H) (hl : vs.length = ps.length) (r : Vals vs us)
    (x : InCallC s s.heap.objs.size (bindL (envOfC qual scope s.heap.objs.size f cd).kindOf (ps.zip us) fun _ => none) (cellsFrom (s.heap.objs.size + 1) scope.names []) (bindC (envOfC qual scope s.heap.objs.size f cd).kindOf (ps.zip us) fun _ => none) s1) :
    Inv (cxOf CX P w K mg base N qual scope f cd A outer s H E) [] (start N vs) H s1 := by
  have hpl : ps.length ≤ N.length := by have := congrArg List.length S.pre; rw [List.length_take] at this; omega
  obtain ⟨h1, tk, rfl, hk⟩ := x.done
  have noA : ∀ b : Addr, b ∉ (cxOf CX P w K mg base N qual scope f cd A outer s H E).ex := fun b z => absurd (show b ∈ ([] : List Addr) from z) (by simp)
  refine ⟨⟨e0.mod, S.kind, rfl, rfl, Nat.le_refl _, fun y z c h1 h2 => ?_, fun y hy => ?_, fun y c _ h => ?_, fun _ => hd, Around.frames_deeper e0.frames, .inr ⟨rfl, rfl⟩, fun b z => absurd z (noA b), e0.bs, e0.bsz, fun b _ _ => noA b, fun b z => absurd z (noA b), e0.funs, e0.frf⟩,
    rfl, e0.bare, Un.kept hk, ⟨_, x.toInCall.ns, fun i y v h1 h2 h3 => ?_⟩, fun y c h => ⟨_, x.cell y c h⟩, e0.hok.fresh (Nat.le_refl _), fun y c h => ?_, fun p hp => absurd (show p ∈ ([] : List (Addr × Obj)) from hp) (by simp), e0.hok.kept hk, ?_⟩
  · exact name_of_addr x.apart (PySem.mem_of_lookup h1) (PySem.mem_of_lookup h2)
  · have hy : scope.names.lookup y = some .cell ∨ scope.names.lookup y = some .free := hy
    rcases hy with hy | hy
    · exact cell_has hy
    · exact absurd rfl (S.nofree _ (PySem.mem_of_lookup hy))
  · exact Nat.le_of_lt (x.above y c (PySem.mem_of_lookup h))
  · have hi : i < vs.length := by
      unfold start at h2
      by_cases hi : i < vs.length
      · exact hi
      · rw [List.getElem?_append_right (by simpa using hi)] at h2
        rw [List.getElem?_replicate] at h2
        split at h2 <;> cases h2
    have ha : vs[i]? = some v := by
      unfold start at h2
      rw [List.getElem?_append_left (by simpa using hi), List.getElem?_map] at h2
      cases e : vs[i]? with
      | none => rw [e] at h2; cases h2
      | some a => rw [e] at h2; cases h2; rfl
    obtain ⟨u, hu, rv⟩ := r.get ha
    have hp : ps[i]? = some y := by
      rw [← S.pre, List.getElem?_take_of_lt (by omega)]; exact h1
    have ndP : ps.Nodup := by rw [← S.pre]; exact S.nd.sublist (List.take_sublist _ _)
    refine ⟨u, rv, ?_⟩
    rcases S.par y (List.mem_of_getElem? hp) with k | k
    · exact .inl ⟨k, bindL_get ndP hp hu k⟩
    · obtain ⟨c, e⟩ := cell_has (n := s.heap.objs.size + 1) k
      refine .inr ⟨.inl k, c, e, ?_⟩
      have q := x.cell y c e
      rw [bindC_get ndP hp hu (by show scope.names.lookup y ≠ _; rw [k]; decide)] at q
      exact q
  · exact e0.hok.fresh (Nat.le_of_lt (x.above y c (PySem.mem_of_lookup h)))
  · unfold start
    show _ = N.length
    rw [List.length_append, List.length_map, List.length_replicate]
    omega

/-- THE RULE: a def (or a method) of the text, by its body. The body's reading t is chosen for each entry; it is run at the parameters' values -/
theorem fn_of {CX : CXT} {P : Program} {w : World} {K : PySem.W.Frag} {mg : Str → Option Value} {base : Heap} {k : Nat} {f : Addr} {name qual : Str} {params : Arguments} {body : List Stmt} {scope : Scope} {dV kV doc pm cdv ct oc : Value} {an od : Option Addr}
    {osl : Array (Option Value)} {N ps : List Str} {sp : Sp} (lk : K.lookup f = some ⟨oc, od, .func (PySem.W.fnOf name qual params body scope dV kV doc pm an cdv ct), osl⟩) (hcd : PySem.W.codeIn K cdv qual = true) (S : FnScope N ps scope)
    (len : ∀ vs H Q E, sp vs H Q E → vs.length = ps.length)
    (hbody : ∀ (A : Around) (outer : List Env) (s : Shared) (H : Hp) (vs : List V) (Q : VK) (E : XK), Room k (A.deeper (envOfC qual scope s.heap.objs.size f cdv)) → sp vs H Q E →
      ∃ t, PSs (cxOf CX P w K mg base N qual scope f cdv A outer s H E) body t ∧ t { nx := fun _ H' => Q .non H', rt := Q } (start N vs) H) :
    FnOk P w K mg base CX (k + 1) f (PySem.W.fnOf name qual params body scope dV kV doc pm an cdv ct) ps sp := by
  refine ⟨len, fun A outer s H args us vs Q E hr e0 hb r hsp => ?_⟩
  have hl := len _ _ _ _ hsp
  have KX : K.In s.heap := e0.mod.kin.keeps fun b o e => (e0.bs b o e).1
  have lim : s.heap.NoLimit := e0.mod.nolimit.keeps fun b o e => (e0.bs b o e).1
  have hkind : ∀ y ∈ ps.zip us, scope.names.lookup y.1 = some .local ∨ (scope.names.lookup y.1 = some .cell ∧ ((cellsFrom (s.heap.objs.size + 1) scope.names []).lookup y.1).isSome = true) := fun ⟨n, v⟩ hy => by
    rcases S.par n (List.of_mem_zip hy).1 with q | q
    · exact .inl q
    · exact .inr ⟨q, PySem.W.cellsFrom_some _ _ _ (.inl q)⟩
  refine codeAny_call_function hr.depth (KX _ _ lk) rfl S.co S.gen rfl (PySem.W.codeRec_of KX hcd) (hb _ _ _ _ ?_)
  refine wpAny_newFunctionEnv_cells S.kind hkind fun env he s1 x => ?_
  subst he
  refine ⟨lim.keeps x.toInCall.keep, codeAny_func ?_⟩
  obtain ⟨t, ht, hq⟩ := hbody A outer s H vs Q E (hr.deeper _) hsp
  have I : Inv (cxOf CX P w K mg base N qual scope f cdv A outer s H E) [] (start N vs) H s1 := inv_start S hr.hd e0 hl r x
  refine wpAny_mono (ht [] s1 (start N vs) H _ I hq) (fun fl s' hs => ?_) fun e s' hs => hs
  have fin : ∀ {σ' : St} {H' : Hp} {v : V} {u : Value}, Inv (cxOf CX P w K mg base N qual scope f cdv A outer s H E) [] σ' H' s' → RelV v u → Q v H' → CE outer P w H s Q u s' :=
    fun {σ' H' v u} J rv q => ⟨v, H', J.os, J.bare, J.base, J.hok, rv, q⟩
  cases fl with
  | ret u =>
    obtain ⟨v, σ', H', J, rv, q⟩ := hs
    exact fin J rv q
  | next =>
    obtain ⟨σ', H', J, q⟩ := hs
    exact fin (v := V.non) (u := Value.none) J rfl q
  | brk =>
    obtain ⟨_, _, _, q⟩ := hs
    exact False.elim q
  | cont =>
    obtain ⟨_, _, _, q⟩ := hs
    exact False.elim q
end L2

namespace L2
open PySem PySem.Spec PyProof.Rows
section
variable {X : Cx} {x : Str} {p pos : Pos} {e : Expr} {es : List Expr} {t : TA} {id T : String} {r : List V → Hp → VK → Prop}

def tCB (r : List V → Hp → VK → Prop) (t : TA) : TE := fun σ H Q => t σ H fun vs H1 => r vs H1 Q
/-- f(e, ..), f a built-in function -/
theorem pe_callB (hc : CallR X (.builtin id) r) (hg : Gl X x) (hm : X.mg x = none) (hv : bootBuiltins x = some (.builtin id)) (ha : PA X (e :: es) t) (hn : x ≠ "__name__" := by decide) (hdb : (x == ("__debug__" : Str)) = false := by decide)
    (he : starEach (e :: es) X.env = (false, eval e X.env) :: starEach es X.env := by rfl) (hpl : (backTo pos (starEach es X.env)).any (·.1) = false := by rfl) : PE X (.Call (.Name x p) (e :: es) [] pos) (tCB r t) := by
  intro pins s σ H Q I h
  refine wpAny_Call_Name_kw (ld_blt I hg hm hv ?_ hn hdb)
  exact PyProof.Rows.callWith_builtin1 (thn (ha pos pins s σ H _ I h) fun us s1 ⟨vs, H1, I1, r1, q1⟩ => hc pins s1 σ H1 vs us Q I1 r1 q1) he hpl
/-- T(e, ..), T a built-in type -/
theorem pe_callTy (hc : CallR X (.type T) r) (hg : Gl X x) (hm : X.mg x = none) (hv : bootBuiltins x = some (.type T)) (ha : PA X (e :: es) t) (hn : x ≠ "__name__" := by decide) (hdb : (x == ("__debug__" : Str)) = false := by decide)
    (he : starEach (e :: es) X.env = (false, eval e X.env) :: starEach es X.env := by rfl) (hpl : (backTo pos (starEach es X.env)).any (·.1) = false := by rfl) : PE X (.Call (.Name x p) (e :: es) [] pos) (tCB r t) := by
  intro pins s σ H Q I h
  refine wpAny_Call_Name_kw (ld_blt I hg hm hv ?_ hn hdb)
  exact PyProof.Rows.callWith_type1 (thn (ha pos pins s σ H _ I h) fun us s1 ⟨vs, H1, I1, r1, q1⟩ => hc pins s1 σ H1 vs us Q I1 r1 q1) he hpl
/-- T() -/
theorem pe_callTy0 (hc : CallR X (.type T) r) (hg : Gl X x) (hm : X.mg x = none) (hv : bootBuiltins x = some (.type T)) (hn : x ≠ "__name__" := by decide) (hdb : (x == ("__debug__" : Str)) = false := by decide) :
    PE X (.Call (.Name x p) [] [] pos) (tCB r tNil) := by
  intro pins s σ H Q I h
  refine wpAny_Call_Name_kw (ld_blt I hg hm hv ?_ hn hdb)
  exact PyProof.Rows.callWith_type0 (hc pins s σ H [] [] Q I .nil h)
end
end L2

namespace HT
open PySem PyProof.Rows

/-- t < u of tuples of ints -/
def lexLt : List Int → List Int → Bool
  | [], [] => false
  | [], _ :: _ => true
  | _ :: _, [] => false
  | x :: xs, y :: ys => if x = y then lexLt xs ys else decide (x < y)
theorem lexLt_cons (x y : Int) (xs ys : List Int) : lexLt (x :: xs) (y :: ys) = if x = y then lexLt xs ys else decide (x < y) := rfl
theorem lexLt_nil_nil : lexLt [] [] = false := rfl
theorem lexLt_nil_cons (y : Int) (ys : List Int) : lexLt [] (y :: ys) = true := rfl
theorem lexLt_cons_nil (x : Int) (xs : List Int) : lexLt (x :: xs) [] = false := rfl

theorem eqAt_int (A : Around) (s : Shared) (a : Int) (t : Tok) (c : Int) (u : Tok) : ∃ e, SeqAt.EqAt A s (.int a t) (.int c u) e ∧ (e = true ↔ a = c) :=
  ⟨(a == c), SeqAt.EqAt.int_int a t c u, by simp⟩
theorem rcLt_int (A : Around) (s : Shared) (a : Int) (t : Tok) (c : Int) (u : Tok) (prog : Program) (w : World) (E : Value → Shared → Prop) (Q : Value → Shared → Prop) (h : Q (.bool (decide (a < c))) s) :
    wpAny (model prog w) A (richCompare .Lt (.int a t) (.int c u)) Q E s :=
  (PyProof.Rows.lt_int h : wpAny (model prog w) A (compareOp .Lt (.int a t) (.int c u)) Q E s)

section
open PySem.SeqAt
open PySem.AutoSeq1 (wpAny_loadPart')
open PySem.MeetsSeq PySem.MeetsSeq2 PySem.MeetsSeq3

theorem tuple_lt_ints (l b : Addr) (items items2 : Array Value) (n n2 : Nat) (dd dd2 : Option Addr) (sl sl2 : Array (Option Value)) (ns ms : List Int) (hi : IntsAre items.toList ns) (hj : IntsAre items2.toList ms) :
    Meets (Builtin.«tuple.__lt__» ⟨[.ref l, .ref b], []⟩)
      (fun _ R s => s.heap.get? l = some { cls := .type "tuple", dict := dd, data := .seq items n, slots := sl } ∧ s.heap.get? b = some { cls := .type "tuple", dict := dd2, data := .seq items2 n2, slots := sl2 } ∧
        R (.ok (.ret (.bool (lexLt ns ms)))) s) :=
  .of_wp fun prog w A R s h => by
    obtain ⟨hp, g, d, tk, os⟩ := s; obtain ⟨hl, hb, h⟩ := h
    have f2 := AutoSeq1.sub_tuple_tuple
    have z1 : items.size = ns.length := by rw [← hi.length]; simp
    have z2 : items2.size = ms.length := by rw [← hj.length]; simp
    wp_walk using wpAny_loadPart' hl, wpAny_loadPart' hb, wpAny_forIn_list _ (fun rest b s' => b.1 = none ∧ s' = ⟨hp, g, d, tk, os⟩ ∧ ∃ (vs ws : List Value) (ns' ms' : List Int), rest = vs.zip ws ∧
      IntsAre vs ns' ∧ IntsAre ws ms' ∧ ns'.length + items2.size = ms'.length + items.size ∧ R (.ok (.ret (.bool (lexLt ns' ms')))) ⟨hp, g, d, tk, os⟩) _
    case turn =>
      rintro ⟨y, x⟩ rest b s' ⟨hb', rfl, vs, ws, ns', ms', hz, hvi, hwi, hlen, hR⟩
      cases hvi with
      | nil => rw [List.zip_nil_left] at hz; cases hz
      | cons a t hvi' =>
        cases hwi with
        | nil => rw [List.zip_nil_right] at hz; cases hz
        | cons c u hwi' =>
          rw [List.zip_cons_cons] at hz
          injection hz with hyx hrest
          injection hyx with hy hx
          subst hy hx
          rw [lexLt_cons] at hR
          simp only [List.length_cons] at hlen
          obtain ⟨e, he, hiff⟩ := eqAt_int A.in1 ⟨hp, g, d, tk, os⟩ a t c u
          refine wpAny_bind (he prog w _ _ ?_)
          cases e with
          | true =>
            rw [if_pos (hiff.mp rfl)] at hR
            wp_walk
            exact ⟨rfl, rfl, _, _, _, _, hrest, hvi', hwi', by omega, hR⟩
          | false =>
            rw [if_neg (fun q => absurd (hiff.mpr q) Bool.false_ne_true)] at hR
            have hri := rcLt_int A.in1 ⟨hp, g, d, tk, os⟩ a t c u prog w
            wp_walk using hri
            exact ⟨_, rfl, by simpa using hR⟩
    case fin =>
      rintro ⟨b1, b2⟩ s' ⟨hb', rfl, vs, ws, ns', ms', hz, hvi, hwi, hlen, hR⟩
      simp only at hb'
      subst hb'
      have hv : lexLt ns' ms' = decide (items.size < items2.size) := by
        cases hvi with
        | nil =>
          cases hwi with
          | nil =>
            simp only [List.length_nil] at hlen
            rw [lexLt_nil_nil]
            exact (decide_eq_false (by omega)).symm
          | cons c u hw =>
            simp only [List.length_nil, List.length_cons] at hlen
            rw [lexLt_nil_cons]
            exact (decide_eq_true (by omega)).symm
        | cons a t hv =>
          cases hwi with
          | nil =>
            simp only [List.length_nil, List.length_cons] at hlen
            rw [lexLt_cons_nil]
            exact (decide_eq_false (by omega)).symm
          | cons c u hw =>
            rw [List.zip_cons_cons] at hz
            cases hz
      rw [hv] at hR
      wp_walk
      exact ⟨_, rfl, by simpa [Builtin.Tuple.tupleCompareSizes] using hR⟩
    case h =>
      exact ⟨rfl, rfl, items.toList, items2.toList, ns, ms, rfl, hi, hj, by omega, h⟩
end

section
variable {prog : Program} {w : World} {A : Around} {E : Value → Shared → Prop} {s : Shared}

theorem lt_tupInts {l b : Addr} {items items2 : Array Value} {ns ms : List Int} {Q : Value → Shared → Prop} (hl : IsTup s.heap l items) (hb : IsTup s.heap b items2) (hi : IntsAre items.toList ns) (hj : IntsAre items2.toList ms)
    (hu : A.units < cLine) (h : Q (.bool (lexLt ns ms)) s) : wpAny (model prog w) A (compareOp .Lt (.ref l) (.ref b)) Q E s := by
  obtain ⟨⟨cls, dd, data, sl⟩, ho, hc, n, hd⟩ := id hl
  obtain ⟨⟨cls2, dd2, data2, sl2⟩, ho2, hc2, n2, hd2⟩ := id hb
  simp only at hc hd hc2 hd2
  subst hc hd hc2 hd2
  exact richCompare_meets_room (op := .Lt) ⟨_, ho, rfl⟩ ⟨_, ho2, rfl⟩ PySem.F.slot_tuple_lt PySem.F.entry_tuple_lt (PySem.F.args_tuple_lt_2 _ _) (tuple_lt_ints l b items items2 n n2 dd dd2 sl sl2 ns ms hi hj)
    ⟨ho, ho2, show Value.bool (lexLt ns ms) ≠ Value.notImplemented ∧ Q (.bool (lexLt ns ms)) s from ⟨(fun x => nomatch x), h⟩⟩ hu

/-- t + u, t not empty -/
theorem cat_tup {t b : Addr} {vs ws : List Value} {Q : Value → Shared → Prop} (ht : IsTup s.heap t vs.toArray) (hb : IsTup s.heap b ws.toArray) (hv : vs ≠ [])
    (h1 : ws = [] → Q (.ref t) s) (h2 : ws ≠ [] → Q (.ref s.heap.objs.size) { s with heap := s.heap.push { cls := .type "tuple", data := .seq (vs ++ ws).toArray } })
    (hsz : vs.length + ws.length ≤ sizeLine) : wpAny (model prog w) A (binaryOp .Add (.ref t) (.ref b)) Q E s := by
  obtain ⟨⟨cls, dd, data, sl⟩, ho, hc, n, hd⟩ := id ht
  obtain ⟨⟨cls2, dd2, data2, sl2⟩, ho2, hc2, n2, hd2⟩ := id hb
  simp only at hc hd hc2 hd2
  subst hc hd hc2 hd2
  have e : vs.toArray ++ ws.toArray = (vs ++ ws).toArray := by simp
  by_cases hw : ws = []
  · exact concat_meets ⟨_, ho, rfl⟩ ⟨_, ho2, rfl⟩ noFill_tuple_add seq_tuple_add PySem.F.slot_tuple_add PySem.F.entry_tuple_add (PySem.F.args_tuple_add_2 _ _)
      (tuple_addW1 t b vs.toArray ws.toArray n n2 dd dd2 sl sl2 (by simpa using hv) (by simp [hw])) ⟨ho, ho2, h1 hw⟩
  · refine concat_meets ⟨_, ho, rfl⟩ ⟨_, ho2, rfl⟩ noFill_tuple_add seq_tuple_add PySem.F.slot_tuple_add PySem.F.entry_tuple_add (PySem.F.args_tuple_add_2 _ _)
      (tuple_addW2 t b vs.toArray ws.toArray n n2 dd dd2 sl sl2 (by simpa using hv) (by simpa using hw) (by rw [List.size_toArray, List.size_toArray]; exact hsz)) ⟨ho, ho2, ?_⟩
    rw [e]
    exact h2 hw

/-! ### t[a:b], not the whole -/
/-- a slice's bound as a place among n (d where it is left out) -/
def sIx (n d : Nat) : Option Int → Nat
  | none => d
  | some v => if v < 0 then (v + (n : Int)).toNat else min v.toNat n
theorem sIx_none (n d : Nat) : sIx n d none = d := rfl
theorem sIx_nat (n d k : Nat) : sIx n d (some (k : Int)) = min k n := by
  show (if (k : Int) < 0 then ((k : Int) + (n : Int)).toNat else min (k : Int).toNat n) = min k n
  rw [if_neg (by omega), Int.toNat_natCast]
theorem sIx_le (n d : Nat) (hd : d ≤ n) (o : Option Int) : sIx n d o ≤ n := by
  cases o with
  | none => exact hd
  | some v =>
    show (if v < 0 then (v + (n : Int)).toNat else min v.toNat n) ≤ n
    by_cases hv : v < 0
    · rw [if_pos hv]; omega
    · rw [if_neg hv]; exact Nat.min_le_right _ _
theorem clip_eq (v : Int) (n d : Nat) : (if v < 0 then max (v + (n : Int)) 0 else min v (n : Int)) = ((sIx n d (some v) : Nat) : Int) := by
  show (if v < 0 then max (v + (n : Int)) 0 else min v (n : Int)) = (((if v < 0 then (v + (n : Int)).toNat else min v.toNat n) : Nat) : Int)
  by_cases hv : v < 0
  · simp only [if_pos hv]; omega
  · simp only [if_neg hv]; omega
theorem adjust_gen (lo hi : Option Int) (n : Nat) : Builtin.Slice.sliceAdjust lo hi 1 (n : Int) = (((sIx n 0 lo : Nat) : Int), ((sIx n n hi : Nat) : Int)) := by
  have h1 : ¬ ((1 : Int) < 0) := by omega
  unfold Builtin.Slice.sliceAdjust
  simp only [h1, if_false]
  refine Prod.ext ?_ ?_
  · cases lo with
    | none => rfl
    | some v => exact clip_eq v n 0
  · cases hi with
    | none => rfl
    | some v => exact clip_eq v n n
theorem places_gen (i j : Nat) : Builtin.Slice.slicePlaces (i : Int) (j : Int) 1 = j - i := by
  unfold Builtin.Slice.slicePlaces
  have h1 : (1 : Int) > 0 := by omega
  simp only [h1, if_true, Int.ediv_one]
  split <;> omega
theorem slicePart_ {v : Value} {o : Option Int} {Q : Option Int → Shared → Prop} (p : IsPart v o) (h : Q o s) : wpAny (model prog w) A (Builtin.Slice.slicePartIndex v) Q E s := by
  cases p with
  | none => exact slicePart_none h
  | int i t => exact slicePart_int h
theorem sliceApplied_gen {sl : Addr} {vl vu : Value} {lo hi : Option Int} {n : Nat} {Q : Int × Int × Nat → Shared → Prop} (hs : s.heap.IsSliceOf sl vl vu .none) (pl : IsPart vl lo) (pu : IsPart vu hi)
    (h : Q (((sIx n 0 lo : Nat) : Int), 1, sIx n n hi - sIx n 0 lo) s) : wpAny (model prog w) A (Builtin.Slice.sliceApplied (.ref sl) (pure (n : Int))) Q E s := by
  obtain ⟨os, hos, hcs, hds⟩ := id hs
  unfold Builtin.Slice.sliceApplied Builtin.Slice.sliceFields
  refine wpAny_bind (wpAny_bind (wpAny_field hos hds (x := vl) rfl (wpAny_bind (wpAny_field hos hds (x := vu) rfl (wpAny_bind (wpAny_field hos hds (x := .none) rfl (wpAny_pure ?_)))))))
  refine wpAny_bind (slicePart_none ?_)
  show wpAny _ _ (if ((1 : Int) == 0) = true then _ else _) _ _ s
  rw [if_neg (by decide)]
  refine wpAny_bind (slicePart_ pl (wpAny_bind (slicePart_ pu (wpAny_bind (wpAny_pure ?_)))))
  show wpAny _ _ (match Builtin.Slice.sliceAdjust lo hi 1 (n : Int) with | (lo, hi) => pure (lo, (1 : Int), Builtin.Slice.slicePlaces lo hi 1)) _ _ s
  rw [adjust_gen lo hi n]
  show wpAny _ _ (pure (((sIx n 0 lo : Nat) : Int), (1 : Int), Builtin.Slice.slicePlaces ((sIx n 0 lo : Nat) : Int) ((sIx n n hi : Nat) : Int) 1)) _ _ s
  rw [places_gen]
  exact wpAny_pure h
theorem pick_gen (xs : Array Value) (i k : Nat) : ((List.range k).filterMap fun (m : Nat) => xs[((i : Int) + (m : Int) * 1).toNat]?).toArray = ((xs.toList.drop i).take k).toArray := by
  have e : (fun (m : Nat) => xs[((i : Int) + (m : Int) * 1).toNat]?) = fun m => xs[i + m]? := by
    funext m
    have : ((i : Int) + (m : Int) * 1).toNat = i + m := by omega
    rw [this]
  rw [e]
  have := pick_run xs i k
  rw [List.filterMap_map] at this
  have e2 : ((fun x => xs[x]?) ∘ fun x => i + x) = fun m => xs[i + m]? := rfl
  rw [e2] at this
  rw [this]

theorem getItem_tuple_cut {t sl : Addr} {items : Array Value} {vl vu : Value} {lo hi : Option Int} {Q : Value → Shared → Prop} (ht : IsTup s.heap t items) (hs : s.heap.IsSliceOf sl vl vu .none) (pl : IsPart vl lo) (pu : IsPart vu hi)
    (hw : ¬ (sIx items.size 0 lo = 0 ∧ sIx items.size items.size hi = items.size))
    (h : Q (.ref s.heap.objs.size) { s with heap := s.heap.push { cls := .type "tuple", data := .seq ((items.toList.drop (sIx items.size 0 lo)).take (sIx items.size items.size hi - sIx items.size 0 lo)).toArray } })
    (hsz : items.size ≤ sizeLine) : wpAny (model prog w) A (getItem (.ref t) (.ref sl)) Q E s := by
  have htake : sizeOk (.seq ((items.toList.drop (sIx items.size 0 lo)).take (sIx items.size items.size hi - sIx items.size 0 lo)).toArray) := by
    show ((items.toList.drop (sIx items.size 0 lo)).take (sIx items.size items.size hi - sIx items.size 0 lo)).toArray.size ≤ sizeLine
    rw [List.size_toArray, List.length_take, List.length_drop, Array.length_toList]
    omega
  have hj : sIx items.size items.size hi ≤ items.size := sIx_le _ _ (Nat.le_refl _) hi
  obtain ⟨os, hos, hcs, hds⟩ := id hs
  have hTs : s.TypeIs (.ref sl) "slice" := ⟨os, hos, hcs⟩
  unfold getItem
  try with_reducible refine wpAny_holding ?_
  first | refine wpAny_bind (wpAny_pure ?_) | skip
  refine wpAny_bind (wpAny_sequenceKey ht.typeIs (by decide) ?_)
  refine wpAny_bind (wpAny_callSpecial?_slot (name := Str.ofString "__getitem__") ht.typeIs PyProof.Rows.slot_tuple_getitem
    (wpAny_call_entry PyProof.Rows.slot_tuple_getitem ht.typeIs entry_tuple_getitem ?_ (args_tuple_getitem _ _)))
  show wpAny _ _ (Builtin.Tuple.tupleItemsOf (.ref t) >>= _) _ _ s
  refine wpAny_bind (tupleItemsOf_ ht ?_)
  refine wpAny_bind (wpAny_typeOf hTs ?_)
  rw [if_pos (by decide)]
  refine wpAny_bind (sliceApplied_gen hs pl pu ?_)
  have hno : ¬ ((((sIx items.size 0 lo : Nat) : Int) == 0 && (1 : Int) == 1 && (sIx items.size items.size hi - sIx items.size 0 lo) == items.size) = true) := by
    intro q
    rw [Bool.and_eq_true, Bool.and_eq_true] at q
    have q1 : ((sIx items.size 0 lo : Nat) : Int) = 0 := eq_of_beq q.1.1
    have q2 : sIx items.size items.size hi - sIx items.size 0 lo = items.size := eq_of_beq q.2
    exact hw ⟨by omega, by omega⟩
  show wpAny _ _ (if (((sIx items.size 0 lo : Nat) : Int) == 0 && (1 : Int) == 1 && (sIx items.size items.size hi - sIx items.size 0 lo) == items.size) = true then _ else _) _ _ s
  rw [if_neg hno, pick_gen]
  first
    | exact wpAny_bind (m := Builtin.Tuple.tupleExact _) (wpAny_newObj_type (wpAny_pure ⟨_, rfl, wpAny_pure h⟩) htake)
    | exact wpAny_bind (m := Builtin.Tuple.tupleExact _) (wpAny_newObj_type (wpAny_bind (wpAny_pure (wpAny_pure ⟨_, rfl, wpAny_pure h⟩))) htake)
    | exact wpAny_bind (wpAny_bind (m := Builtin.Tuple.tupleExact _) (wpAny_newObj_type (wpAny_pure (wpAny_pure ⟨_, rfl, wpAny_pure h⟩)) htake))
    | exact wpAny_bind (wpAny_bind (m := Builtin.Tuple.tupleExact _) (wpAny_newObj_type (wpAny_pure ⟨_, rfl, wpAny_pure h⟩) htake))
end
end HT

namespace L2
open PySem PySem.Spec PyProof.Rows

/-! ### the parts of a slice -/
abbrev TO := St → Hp → (Option Int → Hp → Prop) → Prop
/-- a slice's part (left out, or an int) -/
def PO (X : Cx) (e : Option Expr) (t : TO) : Prop :=
  ∀ (pins : List (Addr × Obj)) (s : Shared) (σ : St) (H : Hp) (Q : Option Int → Hp → Prop), Inv X pins σ H s → t σ H Q →
    wpAny (model X.prog X.w) X.A (evalPart e X.env) (fun u s' => ∃ o H', Inv X pins σ H' s' ∧ IsPart u o ∧ Q o H') X.xe s
def tNoPart : TO := fun _ H Q => Q none H
def tPart (t : TE) : TO := fun σ H Q => t σ H fun x H1 => ∃ i, x = .int i ∧ Q (some i) H1

theorem intsAre_of {ns : List Int} : ∀ {us : List Value}, Vals (ns.map V.int) us → IntsAre us ns := by
  induction ns with
  | nil => intro us r; rw [List.map_nil] at r; cases r; exact .nil
  | cons n ns ih =>
    intro us r
    rw [List.map_cons] at r
    cases r with
    | cons r1 r2 =>
      obtain ⟨t, e⟩ := r1
      subst e
      exact .cons n t (ih r2)

section
variable {X : Cx} {e : Expr} {te : TE} {lo hi : Option Expr} {tl th : TO} {pos p2 : Pos}

theorem po_none : PO X none tNoPart := by
  intro pins s σ H Q I h
  rw [evalPart_none]
  exact wpAny_pure ⟨none, H, I, .none, h⟩
theorem po_some (h : PE X e te) : PO X (some e) (tPart te) := by
  intro pins s σ H Q I hw
  rw [evalPart_some]
  refine thn (h pins s σ H _ I hw) fun u s1 ⟨x, H1, I1, r1, q1⟩ => ?_
  obtain ⟨i, rfl, q⟩ := q1
  obtain ⟨t, rfl⟩ := r1
  exact ⟨some i, H1, I1, .int i t, q⟩

/-- what a slice of a value is, by values: the slice object stands at sl -/
def SlR (X : Cx) (r : V → Option Int → Option Int → Hp → VK → Prop) : Prop :=
  ∀ (pins : List (Addr × Obj)) (s : Shared) (σ : St) (H : Hp) (x : V) (v vl vu : Value) (lo hi : Option Int) (sl : Addr) (Q : VK), Inv X pins σ H s → RelV x v → s.heap.IsSliceOf sl vl vu .none → IsPart vl lo → IsPart vu hi → r x lo hi H Q →
    ∃ T id, typeLookup (.type T) "__getitem__" = pure (some (.builtin id)) ∧ s.TypeIs v T ∧ wpAny (model X.prog X.w) X.A (getItem v (.ref sl)) (EP X pins σ Q) X.xe s
theorem SlR.or {r r' : V → Option Int → Option Int → Hp → VK → Prop} (h : SlR X r) (h' : SlR X r') : SlR X (fun x lo hi H Q => r x lo hi H Q ∨ r' x lo hi H Q) := by
  intro pins s σ H x v vl vu lo hi sl Q I rx hs pl pu q
  rcases q with q | q
  · exact h pins s σ H x v vl vu lo hi sl Q I rx hs pl pu q
  · exact h' pins s σ H x v vl vu lo hi sl Q I rx hs pl pu q
def tSl (r : V → Option Int → Option Int → Hp → VK → Prop) (te : TE) (tl th : TO) : TE := fun σ H Q => te σ H fun x H1 => tl σ H1 fun l H2 => th σ H2 fun u H3 => r x l u H3 Q
/-- a[lo:hi], any a -/
theorem pe_slice {r : V → Option Int → Option Int → Hp → VK → Prop} (hr : SlR X r) (he : PE X e te) (hl : PO X lo tl) (hu : PO X hi th) : PE X (.Subscript e (.Slice lo hi none p2) pos) (tSl r te tl th) := by
  intro pins s σ H Q I h
  refine Subscript_ (thn (he pins s σ H _ I h) fun v s1 ⟨x, H1, I1, r1, q1⟩ => ?_)
  refine wpAny_Slice (thn (hl pins s1 σ H1 _ I1 q1) fun vl s2 ⟨l, H2, I2, pl, q2⟩ => thn (hu pins s2 σ H2 _ I2 q2) fun vu s3 ⟨u, H3, I3, pu, q3⟩ => ?_)
  rw [evalPart_none]
  refine wpAny_pure ?_
  have I4 : Inv X pins σ H3 { s3 with heap := s3.heap.push { cls := .type "slice", data := .fields #[vl, vu, .none] } } := I3.kept (t' := s3.toks) fun b ob q => Heap.get?_push_of_some _ q
  obtain ⟨T, id, hT, ht, hg⟩ := hr pins { s3 with heap := s3.heap.push { cls := .type "slice", data := .fields #[vl, vu, .none] } } σ H3 x v vl vu l u s3.heap.objs.size Q I4 r1 (Heap.IsSliceOf.new ..) pl pu q3
  show wpAny (model X.prog X.w) X.A (subscriptTail e (.Slice lo hi none p2) v (.ref s3.heap.objs.size)) (EP X pins σ Q) X.xe { s3 with heap := s3.heap.push { cls := .type "slice", data := .fields #[vl, vu, .none] } }
  exact tail_any (ops := [.ref s3.heap.objs.size, v]) ht hT hg (by with_unfolding_all rfl)

/-- the items of xs[lo:hi] -/
def cutV (xs : List V) (lo hi : Option Int) : List V := (xs.drop (HT.sIx xs.length 0 lo)).take (HT.sIx xs.length xs.length hi - HT.sIx xs.length 0 lo)
theorem cutV_length (xs : List V) (lo hi : Option Int) : (cutV xs lo hi).length ≤ xs.length := by
  unfold cutV
  rw [List.length_take, List.length_drop]
  omega
/-- t[lo:hi], not the whole of it (the whole would be t itself) -/
def rSlT (K : PySem.W.Frag) : V → Option Int → Option Int → Hp → VK → Prop := fun x lo hi H Q => ∃ a xs, x = .ref a ∧ SqT K H a xs ∧
  ¬ (HT.sIx xs.length 0 lo = 0 ∧ HT.sIx xs.length xs.length hi = xs.length) ∧ ∀ p, H p = none → Q (.ref p) (upd H p (.tup (cutV xs lo hi)))
theorem sl_tup : SlR X (rSlT X.K) := by
  intro pins s σ H x v vl vu lo hi sl Q I rx hs pl pu h
  obtain ⟨a, xs, rfl, hx, hw, q⟩ := h
  cases rx
  obtain ⟨its, r, ht, hz⟩ := I.tuple hx
  have hlen : its.toArray.size = xs.length := by rw [List.size_toArray]; exact r.length.symm
  refine ⟨"tuple", _, PyProof.Rows.slot_tuple_getitem.lookup, ht.typeIs, ?_⟩
  refine HT.getItem_tuple_cut ht hs pl pu (by rw [hlen]; exact hw) ?_ (by rw [hlen]; exact hz)
  rw [hlen]
  refine ⟨.ref s.heap.objs.size, _, I.laid (t' := s.toks) (o := .tup (cutV xs lo hi)) (fun b ob q => Heap.get?_push_of_some _ q) (Nat.le_refl _) ?_, rfl, q _ (I.hok.fresh (Nat.le_refl _))⟩
  exact ⟨Nat.le_trans (cutV_length xs lo hi) hz, _, (r.drop (HT.sIx xs.length 0 lo)).take (HT.sIx xs.length xs.length hi - HT.sIx xs.length 0 lo), IsTup.new _ _⟩

/-! ### t < u, t + u -/
def rLtT (K : PySem.W.Frag) : R2 := fun x y H Q => ∃ a b ns ms, x = .ref a ∧ y = .ref b ∧ SqT K H a (ns.map V.int) ∧ SqT K H b (ms.map V.int) ∧ Q (.bl (HT.lexLt ns ms)) H
theorem op_ltT (hu : X.A.units < cLine) : OpR X (compareOp .Lt) (rLtT X.K) := by
  intro pins s σ H x y v u Q I rx ry h
  obtain ⟨a, b, ns, ms, rfl, rfl, ha, hb, q⟩ := h
  cases rx
  cases ry
  obtain ⟨its, r1, p1, _⟩ := I.tuple ha
  obtain ⟨its2, r2, p2, _⟩ := I.tuple hb
  have i1 : IntsAre its.toArray.toList ns := intsAre_of r1
  have i2 : IntsAre its2.toArray.toList ms := intsAre_of r2
  exact HT.lt_tupInts p1 p2 i1 i2 hu ⟨.bl (HT.lexLt ns ms), H, I, rfl, q⟩
/-- t + u, t not empty: u empty gives t itself -/
def rCatT (K : PySem.W.Frag) : R2 := fun x y H Q => ∃ a b xs ys, x = .ref a ∧ y = .ref b ∧ SqT K H a xs ∧ SqT K H b ys ∧ xs ≠ [] ∧ xs.length + ys.length ≤ sizeLine ∧
  (ys = [] → Q (.ref a) H) ∧ (ys ≠ [] → ∀ p, H p = none → Q (.ref p) (upd H p (.tup (xs ++ ys))))
theorem Vals.nil_iff {xs : List V} {us : List Value} (r : Vals xs us) : us = [] ↔ xs = [] := by
  cases r with
  | nil => simp
  | cons _ _ => simp
theorem op_catT : OpR X (binaryOp .Add) (rCatT X.K) := by
  intro pins s σ H x y v u Q I rx ry h
  obtain ⟨a, b, xs, ys, rfl, rfl, ha, hb, hx, hz, q1, q2⟩ := h
  cases rx
  cases ry
  obtain ⟨its, r1, p1, _⟩ := I.tuple ha
  obtain ⟨its2, r2, p2, _⟩ := I.tuple hb
  refine HT.cat_tup p1 p2 (fun z => hx (r1.nil_iff.mp z)) (fun z => ⟨.ref a, H, I, rfl, q1 (r2.nil_iff.mp z)⟩) (fun z => ?_) (by rw [← r1.length, ← r2.length]; exact hz)
  refine ⟨.ref s.heap.objs.size, _, I.laid (t' := s.toks) (o := .tup (xs ++ ys)) (fun b ob q => Heap.get?_push_of_some _ q) (Nat.le_refl _) ?_, rfl, q2 (fun w => z (r2.nil_iff.mpr w)) _ (I.hok.fresh (Nat.le_refl _))⟩
  exact ⟨by rw [List.length_append]; exact hz, _, r1.append r2, IsTup.new _ _⟩
/-- tuple(t) -/
theorem call_tupleT : CallR X (.type "tuple") (fun xs H Q => ∃ a ys, xs = [.ref a] ∧ SqT X.K H a ys ∧ Q (.ref a) H) := by
  intro pins s σ H xs us Q I r h
  obtain ⟨a, ys, rfl, ha, q⟩ := h
  obtain ⟨u, rfl, ru⟩ := vals1 r
  cases ru
  obtain ⟨its, _, p1, _⟩ := I.tuple ha
  exact call_tuple_same (items := its.toArray) p1 ⟨.ref a, H, I, rfl, q⟩
end
end L2

namespace L2
open PySem PySem.Spec PyProof.Rows

/-! ### places -/
/-- the place that an index of any sign means -/
def ixN (n : Nat) (i : Int) : Option Nat := if 0 ≤ i then (if i < n then some i.toNat else none) else if -(n : Int) ≤ i then some (i + n).toNat else none
def atI {α : Type} (xs : List α) (i : Int) : Option α := (ixN xs.length i).bind fun j => xs[j]?
theorem ixN_seq {n : Nat} {i : Int} {j : Nat} (h : ixN n i = some j) : seqIndex? i n = some j ∧ j < n ∧ -(n : Int) ≤ i ∧ i < n := by
  unfold ixN at h
  by_cases h0 : 0 ≤ i
  · rw [if_pos h0] at h
    by_cases h1 : i < n
    · rw [if_pos h1] at h
      have e : i.toNat = j := Option.some.inj h
      exact ⟨by rw [seqIndex_of h0 h1, e], by omega, by omega, h1⟩
    · rw [if_neg h1] at h; cases h
  · rw [if_neg h0] at h
    by_cases h1 : -(n : Int) ≤ i
    · rw [if_pos h1] at h
      have e : (i + n).toNat = j := Option.some.inj h
      exact ⟨by rw [seqIndex_neg (by omega) h1, e], by omega, h1, by omega⟩
    · rw [if_neg h1] at h; cases h
theorem atI_get {α : Type} {xs : List α} {i : Int} {v : α} (h : atI xs i = some v) : ∃ j, seqIndex? i xs.length = some j ∧ xs[j]? = some v ∧ j < xs.length ∧ -(xs.length : Int) ≤ i ∧ i < xs.length := by
  unfold atI at h
  cases e : ixN xs.length i with
  | none => rw [e] at h; cases h
  | some j =>
    rw [e] at h
    obtain ⟨h1, h2, h3, h4⟩ := ixN_seq e
    exact ⟨j, h1, h, h2, h3, h4⟩
theorem atI_nat {α : Type} {xs : List α} {j : Nat} {v : α} (h : xs[j]? = some v) : atI xs (j : Int) = some v := by
  have hj : j < xs.length := (List.getElem?_eq_some_iff.mp h).1
  have e : ixN xs.length (j : Int) = some j := by
    unfold ixN
    rw [if_pos (by omega), if_pos (by omega)]; simp
  unfold atI; rw [e]; exact h
theorem atI_last {α : Type} (xs : List α) (v : α) : atI (xs ++ [v]) (-1) = some v := by
  have hl : (xs ++ [v]).length = xs.length + 1 := by simp
  have e : ixN (xs ++ [v]).length (-1) = some xs.length := by
    unfold ixN
    rw [hl, if_neg (by decide), if_pos (by omega)]
    congr 1
    omega
  unfold atI
  rw [e]
  show (xs ++ [v])[xs.length]? = some v
  simp

/-! ### what may be subscripted -/
/-- what stands as an index of a plain subscript -/
def PlainIx (b : Expr) : Prop := ∀ o i, subscripted b false o i = operate [o, i] (getItem o i)
/-- a subscript by values -/
def IxR (X : Cx) (r : R2) : Prop :=
  ∀ (value slice : Expr) (pins : List (Addr × Obj)) (s : Shared) (σ : St) (H : Hp) (x y : V) (v u : Value) (Q : VK), Inv X pins σ H s → RelV x v → RelV y u → r x y H Q →
    subscripted slice false v u = operate [v, u] (getItem v u) → wpAny (model X.prog X.w) X.A (subscriptTail value slice v u) (EP X pins σ Q) X.xe s
/-- a call of a builtin's method by values: the receiver, the arguments -/
def MtR (X : Cx) (id : String) (r : V → List V → Hp → VK → Prop) : Prop :=
  ∀ (pins : List (Addr × Obj)) (s : Shared) (σ : St) (H : Hp) (x : V) (xs : List V) (v : Value) (us : List Value) (Q : VK), Inv X pins σ H s → RelV x v → Vals xs us → r x xs H Q →
    wpAny (model X.prog X.w) X.A (call (.builtin id) (v :: us)) (EP X pins σ Q) X.xe s
section
variable {X : Cx} {a b : Expr} {ta tb : TE} {pos : Pos}
theorem IxR.or {r r' : R2} (h : IxR X r) (h' : IxR X r') : IxR X (fun x y H Q => r x y H Q ∨ r' x y H Q) := by
  intro value slice pins s σ H x y v u Q I rx ry q hs
  rcases q with q | q
  · exact h value slice pins s σ H x y v u Q I rx ry q hs
  · exact h' value slice pins s σ H x y v u Q I rx ry q hs
theorem MtR.or {id : String} {r r' : V → List V → Hp → VK → Prop} (h : MtR X id r) (h' : MtR X id r') : MtR X id (fun x xs H Q => r x xs H Q ∨ r' x xs H Q) := by
  intro pins s σ H x xs v us Q I rx rs q
  rcases q with q | q
  · exact h pins s σ H x xs v us Q I rx rs q
  · exact h' pins s σ H x xs v us Q I rx rs q
/-- a[b] -/
theorem pe_ix {r : R2} (hr : IxR X r) (ha : PE X a ta) (hb : PE X b tb) (hs : PlainIx b) : PE X (.Subscript a b pos) (tOp r ta tb) := by
  intro pins s σ H Q I h
  exact Subscript_ (binT ha hb I h fun v u s2 x y H2 I2 rx ry q => hr a b pins s2 σ H2 x y v u Q I2 rx ry q (hs _ _))

def rIxL (K : PySem.W.Frag) : R2 := fun x y H Q => ∃ p xs i v, x = .ref p ∧ y = .int i ∧ SqL K H p xs ∧ atI xs i = some v ∧ Q v H
def rIxT (K : PySem.W.Frag) : R2 := fun x y H Q => ∃ p xs i v, x = .ref p ∧ y = .int i ∧ SqT K H p xs ∧ atI xs i = some v ∧ Q v H
def rIxS : R2 := fun x y H Q => ∃ z i c, x = .str z ∧ y = .int i ∧ z.length ≤ sizeLine ∧ atI z.cps.toList i = some c ∧ Q (.str ⟨#[c]⟩) H
theorem ix_list : IxR X (rIxL X.K) := by
  intro value slice pins s σ H x y v u Q I rx ry h hs
  obtain ⟨p, xs, i, z, rfl, rfl, hq, he, q⟩ := h
  cases rx
  obtain ⟨t, rfl⟩ := ry
  obtain ⟨its, r, pl, hz⟩ := I.list hq
  obtain ⟨j, h1, h2, h3, h4, h5⟩ := atI_get he
  obtain ⟨w, ew, rw'⟩ := r.get h2
  have hl := r.length
  have hn := line63
  have fin : EP X pins σ Q w s := ⟨z, H, I, rw', q⟩
  by_cases h0 : 0 ≤ i
  · have hj : i.toNat = j := by
      rw [seqIndex_of h0 h5] at h1
      exact Option.some.inj h1
    exact item_listR pl.isList h0 (by omega) (by rw [hj]; simpa using ew) fin hs
  · have hj : (i + (its.toArray.size : Int)).toNat = j := by
      rw [seqIndex_neg (by omega) h4] at h1
      rw [List.size_toArray, ← hl]
      exact Option.some.inj h1
    exact subscriptTail_builtinR (x := w) pl.isList.typeIs slot_list_getitem.lookup
      (wpAny_getItem_list_neg (Q := fun r s' => r = w ∧ EP X pins σ Q r s') pl.isList (by omega) (by rw [List.size_toArray] <;> omega) (by omega) (by rw [hj]; simpa using ew) ⟨rfl, fin⟩) hs
theorem ix_tup : IxR X (rIxT X.K) := by
  intro value slice pins s σ H x y v u Q I rx ry h hs
  obtain ⟨p, xs, i, z, rfl, rfl, hq, he, q⟩ := h
  cases rx
  obtain ⟨t, rfl⟩ := ry
  obtain ⟨its, r, pl, hz⟩ := I.tuple hq
  obtain ⟨j, h1, h2, h3, h4, h5⟩ := atI_get he
  obtain ⟨w, ew, rw'⟩ := r.get h2
  have hl := r.length
  have hn := line63
  have fin : EP X pins σ Q w s := ⟨z, H, I, rw', q⟩
  exact subscriptTail_builtinR (x := w) pl.typeIs slot_tuple_getitem.lookup
    (getItem_tuple (j := j) (Q := fun r s' => r = w ∧ EP X pins σ Q r s') pl (by omega) (by omega) (by rw [List.size_toArray, ← hl]; exact h1) (by simpa using ew) ⟨rfl, fin⟩) hs
theorem ix_str : IxR X rIxS := by
  intro value slice pins s σ H x y v u Q I rx ry h hs
  obtain ⟨z, i, c, rfl, rfl, hz, he, q⟩ := h
  obtain ⟨t, rfl⟩ := rx
  obtain ⟨t', rfl⟩ := ry
  obtain ⟨j, h1, h2, h3, h4, h5⟩ := atI_get he
  have hl : z.cps.toList.length = z.length := by simp [Str.length]
  rw [hl] at h1 h4 h5
  have hn := line63
  exact tail_any (typeIs_str s z t) slot_str_getitem.lookup (getItem_str (c := c) (by
    have e1 : decide (i < -(2 ^ 63 : Int)) = false := decide_eq_false (by omega)
    have e2 : decide (i ≥ 2 ^ 63) = false := decide_eq_false (by omega)
    rw [e1, e2, Bool.or_false]) (by rw [h1]; simpa using h2) ⟨.str ⟨#[c]⟩, H, I.tok _, ⟨_, rfl⟩, q⟩) hs
/-- list, tuple or str -/
def rIx (K : PySem.W.Frag) : R2 := fun x y H Q => rIxL K x y H Q ∨ rIxT K x y H Q ∨ rIxS x y H Q
theorem ix_seq : IxR X (rIx X.K) := ix_list.or (ix_tup.or ix_str)

/-! ### xs[i] = v, any sign -/
/-- the list's object behind a store -/
theorem mapSeq_set (its : List Value) (n j : Nat) (u : Value) : Obj.mapSeq (·.setIfInBounds j u) { cls := .type "list", data := .seq its.toArray n } = { cls := .type "list", data := .seq (its.set j u).toArray n } := by
  simp [Obj.mapSeq]
theorem Inv.lst {pins : List (Addr × Obj)} {σ : St} {H : Hp} {s : Shared} {p : Addr} {xs : List V} (I : Inv X pins σ H s) (h : H p = some (.lst xs)) :
    ∃ (its : List Value) (n : Nat), Vals xs its ∧ s.heap.get? p = some { cls := .type "list", data := .seq its.toArray n } ∧ xs.length ≤ sizeLine := by
  obtain ⟨z, its, n, r, e⟩ := I.hok p _ h
  exact ⟨its, n, r, e, z⟩
/-- the list at p is written by an update of its object -/
theorem Inv.lstUpd {pins : List (Addr × Obj)} {σ : St} {H : Hp} {s : Shared} {p : Addr} {xs ys : List V} {its its' : List Value} {n n' : Nat} {f : Obj → Obj} (I : Inv X pins σ H s) (h : H p = some (.lst xs))
    (ho : s.heap.get? p = some { cls := .type "list", data := .seq its.toArray n }) (hf : f { cls := .type "list", data := .seq its.toArray n } = { cls := .type "list", data := .seq its'.toArray n' }) (r : Vals ys its') (hz : ys.length ≤ sizeLine) (t : Nat) :
    Inv X pins σ (upd H p (.lst ys)) { s with heap := s.heap.update p f, toks := t } := by
  have e : (s.heap.update p f).get? p = some { cls := .type "list", data := .seq its'.toArray n' } := by
    rw [Heap.get?_update_self f ho (by rw [hf] <;> rfl), hf]
  refine I.write (x := p) (e := p) (by rw [h]; trivial) (.inl rfl) (fun b u hb q => (Heap.get?_update_other _ _ (Ne.symm hb)).trans q) ⟨_, e⟩ ?_
  exact ⟨hz, its', n', r, e⟩
def rSetL : V → V → V → Hp → (Hp → Prop) → Prop := fun o i v H Q => ∃ p xs k j, o = .ref p ∧ i = .int k ∧ H p = some (.lst xs) ∧ ixN xs.length k = some j ∧ Q (upd H p (.lst (xs.set j v)))
theorem set_list : PSet X rSetL := by
  intro pins s σ H o i v ov iv u Q I ro ri rv h
  obtain ⟨p, xs, k, j, rfl, rfl, hp, hj, q⟩ := h
  cases ro
  obtain ⟨t, rfl⟩ := ri
  obtain ⟨its, n, r, ho, hz⟩ := I.lst hp
  obtain ⟨h1, h2, h3, h4⟩ := ixN_seq hj
  have hl := r.length
  have hn := line63
  have I' : Inv X pins σ (upd H p (.lst (xs.set j v))) { s with heap := s.heap.update p (Obj.mapSeq (·.setIfInBounds j u)) } :=
    I.lstUpd hp ho (mapSeq_set its n j u) (r.set rv j) (by rw [List.length_set]; exact hz) s.toks
  by_cases h0 : 0 ≤ k
  · have hk : k.toNat = j := by
      rw [seqIndex_of h0 h4] at h1
      exact Option.some.inj h1
    exact PySem.W.ki_setAt ho h0 (by omega) (by rw [List.size_toArray, ← hl]; exact h4) (by rw [hk]; exact ⟨_, I', q⟩)
  · have hk : (k + (its.toArray.size : Int)).toNat = j := by
      rw [seqIndex_neg (by omega) h3] at h1
      rw [List.size_toArray, ← hl]
      exact Option.some.inj h1
    exact PySem.W.ki_setBack ho (by omega) (by rw [List.size_toArray, ← hl]; exact h3) (by omega) (by rw [hk]; exact ⟨_, I', q⟩)

/-! ### slices -/
theorem slice_bounds (lo hi : Option Int) (n : Nat) : (sliceBounds lo hi none n).1 = ((HT.sIx n 0 lo : Nat) : Int) ∧ (sliceBounds lo hi none n).2.1 = ((HT.sIx n n hi : Nat) : Int) ∧ (sliceBounds lo hi none n).2.2 = 1 := by
  refine ⟨?_, ?_, rfl⟩
  · cases lo with
    | none => simp [sliceBounds, HT.sIx]
    | some i =>
      simp only [sliceBounds, HT.sIx, Option.getD_none, show (1 : Int) > 0 by decide, if_true]
      by_cases h : i < 0
      · simp only [h, if_true] <;> omega
      · simp only [h, if_false] <;> omega
  · cases hi with
    | none => simp [sliceBounds, HT.sIx]
    | some i =>
      simp only [sliceBounds, HT.sIx, Option.getD_none, show (1 : Int) > 0 by decide, if_true]
      by_cases h : i < 0
      · simp only [h, if_true] <;> omega
      · simp only [h, if_false] <;> omega
theorem slicePick_cut (its : List Value) (lo hi : Option Int) : slicePick its.toArray lo hi none = ((its.drop (HT.sIx its.length 0 lo)).take (HT.sIx its.length its.length hi - HT.sIx its.length 0 lo)).toArray := by
  obtain ⟨h1, h2, h3⟩ := slice_bounds lo hi its.toArray.size
  unfold slicePick
  rw [h1, h2, h3]
  simp only [sliceRange_one, pick_run, List.size_toArray] <;> rfl
/-- xs[lo:hi] of a list: a new list -/
def rSlL (K : PySem.W.Frag) : V → Option Int → Option Int → Hp → VK → Prop := fun x lo hi H Q => ∃ a xs, x = .ref a ∧ SqL K H a xs ∧ ∀ p, H p = none → Q (.ref p) (upd H p (.lst (cutV xs lo hi)))
theorem sl_list : SlR X (rSlL X.K) := by
  intro pins s σ H x v vl vu lo hi sl Q I rx hs pl pu h
  obtain ⟨a, xs, rfl, hx, q⟩ := h
  cases rx
  obtain ⟨its, r, ht, hz⟩ := I.list hx
  have hlen := r.length
  refine ⟨"list", _, slot_list_getitem.lookup, ht.isList.typeIs, ?_⟩
  refine wpAny_getItem_list_slice ht.isList hs pl pu .none (by simp) ?_ (by rw [List.size_toArray] <;> omega)
  rw [slicePick_cut, ← hlen]
  refine ⟨.ref s.heap.objs.size, _, I.laid (t' := s.toks) (o := .lst (cutV xs lo hi)) (fun b ob q => Heap.get?_push_of_some _ q) (Nat.le_refl _) ?_, rfl, q _ (I.hok.fresh (Nat.le_refl _))⟩
  exact ⟨Nat.le_trans (cutV_length xs lo hi) hz, _, 0, (r.drop (HT.sIx xs.length 0 lo)).take (HT.sIx xs.length xs.length hi - HT.sIx xs.length 0 lo), Heap.get?_push_size _ rfl⟩

/-! ### in, not in: flat items -/
def flatV : V → Bool
  | .non => true
  | .bl _ => true
  | .int _ => true
  | .str _ => true
  | _ => false
/-- == of flat values -/
def eqV : V → V → Bool
  | .non, .non => true
  | .bl a, .bl b => a == b
  | .bl a, .int b => (if a then 1 else 0) == b
  | .int a, .bl b => a == (if b then 1 else 0)
  | .int a, .int b => a == b
  | .str a, .str b => a == b
  | _, _ => false
theorem eqAt_V {A : Around} {s : Shared} {y x : V} {u v : Value} (ry : RelV y u) (rx : RelV x v) (fy : flatV y = true) (fx : flatV x = true) : SeqAt.EqAt A s u v (eqV y x) := by
  cases y with
  | non =>
    cases ry
    cases x with
    | non => cases rx; exact SeqAt.EqAt.same _
    | bl b => cases rx; exact SeqAt.EqAt.none_bool b
    | int b => obtain ⟨t, rfl⟩ := rx; exact SeqAt.EqAt.none_int b t
    | str b => obtain ⟨t, rfl⟩ := rx; exact SeqAt.EqAt.none_str b t
    | _ => exact absurd (show false = true from fx) Bool.false_ne_true
  | bl a =>
    cases ry
    cases x with
    | non => cases rx; exact SeqAt.EqAt.bool_none a
    | bl b => cases rx; exact SeqAt.EqAt.bool_bool a b
    | int b => obtain ⟨t, rfl⟩ := rx; exact SeqAt.EqAt.bool_int a b t
    | str b => obtain ⟨t, rfl⟩ := rx; exact SeqAt.EqAt.bool_str a b t
    | _ => exact absurd (show false = true from fx) Bool.false_ne_true
  | int a =>
    obtain ⟨t', rfl⟩ := ry
    cases x with
    | non => cases rx; exact SeqAt.EqAt.int_none a t'
    | bl b => cases rx; exact SeqAt.EqAt.int_bool a t' b
    | int b => obtain ⟨t, rfl⟩ := rx; exact SeqAt.EqAt.int_int a t' b t
    | str b => obtain ⟨t, rfl⟩ := rx; exact SeqAt.EqAt.int_str a t' b t
    | _ => exact absurd (show false = true from fx) Bool.false_ne_true
  | str a =>
    obtain ⟨t', rfl⟩ := ry
    cases x with
    | non => cases rx; exact SeqAt.EqAt.str_none a t'
    | bl b => cases rx; exact SeqAt.EqAt.str_bool a t' b
    | int b => obtain ⟨t, rfl⟩ := rx; exact SeqAt.EqAt.str_int a t' b t
    | str b => obtain ⟨t, rfl⟩ := rx; exact SeqAt.EqAt.str_str a t' b t
    | _ => exact absurd (show false = true from fx) Bool.false_ne_true
  | _ => exact absurd (show false = true from fy) Bool.false_ne_true
/-- the items' answers, read off the values (a value's own answer does not lean on its token) -/
def eqU (x : V) (u : Value) : Bool := match u with
  | .none => eqV .non x
  | .bool b => eqV (.bl b) x
  | .int i _ => eqV (.int i) x
  | .str z _ => eqV (.str z) x
  | _ => false
theorem eqU_of {x y : V} {u : Value} (r : RelV y u) (f : flatV y = true) : eqU x u = eqV y x := by
  cases y with
  | non => cases r; rfl
  | bl b => cases r; rfl
  | int i => obtain ⟨t, rfl⟩ := r; rfl
  | str z => obtain ⟨t, rfl⟩ := r; rfl
  | _ => exact absurd (show false = true from f) Bool.false_ne_true
theorem any_eqU {x : V} : ∀ {xs : List V} {us : List Value}, Vals xs us → xs.all flatV = true → us.any (eqU x) = xs.any fun y => eqV y x
  | _, _, .nil, _ => rfl
  | y :: xs, u :: us, .cons r t, f => by
    rw [List.all_cons, Bool.and_eq_true] at f
    rw [List.any_cons, List.any_cons, eqU_of r f.1, any_eqU t f.2]
theorem mem_eqAt {A : Around} {s : Shared} {x : V} {v : Value} (rx : RelV x v) (fx : flatV x = true) : ∀ {xs : List V} {us : List Value}, Vals xs us → xs.all flatV = true → ∀ u ∈ us, SeqAt.EqAt A s u v (eqU x u)
  | _, _, .nil, _ => fun u hu => by cases hu
  | y :: xs, u :: us, .cons r t, f => fun u' hu => by
    rw [List.all_cons, Bool.and_eq_true] at f
    rcases List.mem_cons.mp hu with rfl | hu
    · rw [eqU_of r f.1]; exact eqAt_V r rx f.1 fx
    · exact mem_eqAt rx fx t f.2 u' hu
def inV (x : V) (xs : List V) : Bool := xs.any fun y => eqV y x
/-- x in a list or tuple of flat items -/
def rIn (K : PySem.W.Frag) (neg : Bool) : R2 := fun x y H Q => ∃ p xs, y = .ref p ∧ (SqL K H p xs ∨ SqT K H p xs) ∧ flatV x = true ∧ xs.all flatV = true ∧ Q (.bl (if neg then !inV x xs else inV x xs)) H
theorem op_in_seq : OpR X (compareOp .In) (rIn X.K false) := by
  intro pins s σ H x y v u Q I rx ry h
  obtain ⟨p, xs, rfl, hq, fx, fs, q⟩ := h
  cases ry
  rcases hq with hq | hq
  · obtain ⟨its, r, pl, hz⟩ := I.list hq
    refine SeqAt.in_listAt (eqU x) pl.isList (fun w hw => mem_eqAt rx fx r fs w (by simpa using hw)) ⟨.bl _, H, I, rfl, ?_⟩
    rw [show its.toArray.any (eqU x) = its.any (eqU x) by simp, any_eqU r fs]
    exact q
  · obtain ⟨its, r, pl, hz⟩ := I.tuple hq
    refine SeqAt.in_tupleAt (eqU x) pl (fun w hw => mem_eqAt rx fx r fs w (by simpa using hw)) ⟨.bl _, H, I, rfl, ?_⟩
    rw [show its.toArray.any (eqU x) = its.any (eqU x) by simp, any_eqU r fs]
    exact q
theorem op_notIn_seq : OpR X (compareOp .NotIn) (rIn X.K true) := by
  intro pins s σ H x y v u Q I rx ry h
  obtain ⟨p, xs, rfl, hq, fx, fs, q⟩ := h
  cases ry
  rcases hq with hq | hq
  · obtain ⟨its, r, pl, hz⟩ := I.list hq
    refine SeqAt.notIn_listAt (eqU x) pl.isList (fun w hw => mem_eqAt rx fx r fs w (by simpa using hw)) ⟨.bl _, H, I, rfl, ?_⟩
    rw [show its.toArray.any (eqU x) = its.any (eqU x) by simp, any_eqU r fs]
    exact q
  · obtain ⟨its, r, pl, hz⟩ := I.tuple hq
    refine SeqAt.notIn_tupleAt (eqU x) pl (fun w hw => mem_eqAt rx fx r fs w (by simpa using hw)) ⟨.bl _, H, I, rfl, ?_⟩
    rw [show its.toArray.any (eqU x) = its.any (eqU x) by simp, any_eqU r fs]
    exact q
theorem op_notIn_str : OpR X (compareOp .NotIn) (fun x y H Q => ∃ i j, x = .str i ∧ y = .str j ∧ Q (.bl (!(!(Builtin.Str.occurrences j i 0 j.length 1).isEmpty))) H) := by
  intro pins s σ H x y v u Q I rx ry h
  obtain ⟨i, j, rfl, rfl, q⟩ := h
  obtain ⟨t, rfl⟩ := rx
  obtain ⟨t', rfl⟩ := ry
  exact notIn_str ⟨.bl _, H, I, rfl, q⟩

/-! ### len, list(x), tuple(x) of any list or tuple that is read -/
theorem call_len_seq : CallR X (.builtin "len") (fun xs H Q => ∃ p ys, xs = [.ref p] ∧ (SqL X.K H p ys ∨ SqT X.K H p ys) ∧ Q (.int ys.length) H) := by
  intro pins s σ H xs us Q I r h
  obtain ⟨p, ys, rfl, hq, q⟩ := h
  obtain ⟨u, rfl, rx⟩ := vals1 r
  cases rx
  have hn := line63
  rcases hq with hq | hq
  · obtain ⟨its, r', pl, hz⟩ := I.list hq
    have hlen := r'.length
    exact Calls.call_len_list pl.isList (by simp only [List.size_toArray] <;> omega) ⟨.int ys.length, H, I.tok _, ⟨s.toks + 1, by rw [List.size_toArray, hlen]⟩, q⟩
  · obtain ⟨its, r', pl, hz⟩ := I.tuple hq
    have hlen := r'.length
    exact len_tuple pl (by simp only [List.size_toArray] <;> omega) ⟨.int ys.length, H, I.tok _, ⟨s.toks + 1, by rw [List.size_toArray, hlen]⟩, q⟩
theorem call_len_str : CallR X (.builtin "len") (fun xs H Q => ∃ z, xs = [.str z] ∧ z.length ≤ sizeLine ∧ Q (.int z.length) H) := by
  intro pins s σ H xs us Q I r h
  obtain ⟨z, rfl, hz, q⟩ := h
  obtain ⟨u, rfl, t, rfl⟩ := vals1 r
  have hn := line63
  exact len_str (by omega) ⟨.int z.length, H, I.tok _, ⟨_, rfl⟩, q⟩
theorem CallR.or {f : Value} {r r' : List V → Hp → VK → Prop} (h : CallR X f r) (h' : CallR X f r') : CallR X f (fun xs H Q => r xs H Q ∨ r' xs H Q) := by
  intro pins s σ H xs us Q I rs q
  rcases q with q | q
  · exact h pins s σ H xs us Q I rs q
  · exact h' pins s σ H xs us Q I rs q
theorem call_list_of : CallR X (.type "list") (fun xs H Q => ∃ p ys, xs = [.ref p] ∧ (SqL X.K H p ys ∨ SqT X.K H p ys) ∧ ∀ l, H l = none → Q (.ref l) (upd H l (.lst ys))) := by
  intro pins s σ H xs us Q I r h
  obtain ⟨p, ys, rfl, hq, q⟩ := h
  obtain ⟨u, rfl, rx⟩ := vals1 r
  cases rx
  have fin : ∀ (its : List Value), Vals ys its → ys.length ≤ sizeLine → ∀ (h' : Heap) (c' : Nat), (∀ b o', s.heap.get? b = some o' → h'.get? b = some o') →
      h'.get? s.heap.objs.size = some { cls := .type "list", dict := none, data := .seq its.toArray c', slots := #[] } → EP X pins σ Q (.ref s.heap.objs.size) { s with heap := h' } := fun its r' hz h' c' kp e =>
    ⟨.ref s.heap.objs.size, _, I.laid (t' := s.toks) kp (Nat.le_refl _) (show ObjOk X.prog X.w _ h' _ (.lst ys) from ⟨hz, its, c', r', e⟩), rfl, q _ (I.hok.fresh (Nat.le_refl _))⟩
  rcases hq with hq | hq
  · obtain ⟨its, r', pl, hz⟩ := I.list hq
    have hlen := r'.length
    obtain ⟨o, ho, hc, n, hd⟩ := pl.isList
    exact call_list_seq p (.inl rfl) ho hc hd (fun h' c' kp e => fin its r' hz h' c' kp e) (by simp only [List.size_toArray] <;> omega)
  · obtain ⟨its, r', pl, hz⟩ := I.tuple hq
    have hlen := r'.length
    obtain ⟨o, ho, hc, n, hd⟩ := pl
    exact call_list_seq p (.inr rfl) ho hc hd (fun h' c' kp e => fin its r' hz h' c' kp e) (by simp only [List.size_toArray] <;> omega)
theorem call_tuple_of : CallR X (.type "tuple") (fun xs H Q => ∃ p ys, xs = [.ref p] ∧ ((SqL X.K H p ys ∧ ∀ l, H l = none → Q (.ref l) (upd H l (.tup ys))) ∨ (SqT X.K H p ys ∧ Q (.ref p) H))) := by
  intro pins s σ H xs us Q I r h
  obtain ⟨p, ys, rfl, h⟩ := h
  obtain ⟨u, rfl, rx⟩ := vals1 r
  cases rx
  rcases h with ⟨hq, q⟩ | ⟨hq, q⟩
  · obtain ⟨its, r', pl, hz⟩ := I.list hq
    have hlen := r'.length
    refine call_tuple_list pl.isList (fun h' kp => ?_) (by simp only [List.size_toArray] <;> omega)
    have I1 : Inv X pins σ H { s with heap := h' } := I.kept (t' := s.toks) kp
    have I2 : Inv X pins σ (upd H h'.objs.size (.tup ys)) { s with heap := h'.push { cls := .type "tuple", data := .seq its.toArray } } :=
      I1.laid (t' := s.toks) (fun b o e => Heap.get?_push_of_some _ e) (Nat.le_refl _) (show ObjOk X.prog X.w _ _ _ (.tup ys) from ⟨hz, its, r', IsTup.new _ _⟩)
    exact ⟨.ref h'.objs.size, _, I2, rfl, q _ (I1.hok.fresh (Nat.le_refl _))⟩
  · obtain ⟨its, r', pl, hz⟩ := I.tuple hq
    exact call_tuple_same pl ⟨.ref p, H, I, rfl, q⟩

/-! ### the call of a builtin's method: o.m(..) -/
/-- the value is of that builtin type -/
def tyV (K : PySem.W.Frag) (T : String) (x : V) (H : Hp) : Prop := match x with
  | .str _ => T = "str"
  | .int _ => T = "int"
  | .ref p => (T = "list" ∧ ∃ xs, SqL K H p xs) ∨ (T = "tuple" ∧ ∃ o, K.lookup p = some o ∧ o.cls = .type "tuple" ∧ o.dict = none) ∨
      (T = "dict" ∧ ((∃ kvs, H p = some (.dK kvs)) ∨ ∃ kvs, H p = some (.dT kvs))) ∨ (T = "set" ∧ ∃ S n, H p = some (.set S n))
  | _ => False
theorem tyV_is {pins : List (Addr × Obj)} {σ : St} {H : Hp} {s : Shared} {T : String} {x : V} {v : Value} (I : Inv X pins σ H s) (r : RelV x v) (ty : tyV X.K T x H) :
    s.TypeIs v T ∧ ∀ a, v = .ref a → ∃ ob, s.heap.get? a = some ob ∧ ob.dict = none := by
  cases x with
  | str z =>
    obtain ⟨t, rfl⟩ := r
    cases (show T = "str" from ty)
    exact ⟨typeIs_str s z t, fun _ e => nomatch e⟩
  | int i =>
    obtain ⟨t, rfl⟩ := r
    cases (show T = "int" from ty)
    exact ⟨typeIs_int s i t, fun _ e => nomatch e⟩
  | ref p =>
    cases r
    rcases ty with ⟨rfl, xs, hq⟩ | ⟨rfl, o, hk, hc, hd⟩ | ⟨rfl, hk⟩ | ⟨rfl, S, n, hk⟩
    · obtain ⟨its, _, pl, _⟩ := I.list hq
      refine ⟨pl.isList.typeIs, fun a e => ?_⟩
      cases e
      obtain ⟨o, n, e, c, hd, _⟩ := pl
      exact ⟨o, e, hd⟩
    · refine ⟨⟨o, I.kIn p o hk, hc⟩, fun a e => ?_⟩
      cases e
      exact ⟨o, I.kIn _ o hk, hd⟩
    · have z : ∃ o, s.heap.get? p = some o ∧ o.ExactDict := by
        rcases hk with ⟨kvs, hk⟩ | ⟨kvs, hk⟩
        · obtain ⟨_, _, _, _, o, _, _, e, ex, _⟩ := I.hok p _ hk
          exact ⟨o, e, ex⟩
        · obtain ⟨_, _, _, _, o, _, _, e, ex, _⟩ := I.hok p _ hk
          exact ⟨o, e, ex⟩
      obtain ⟨o, e, ex⟩ := z
      refine ⟨⟨o, e, ex.1⟩, fun a e2 => ?_⟩
      cases e2
      exact ⟨o, e, ex.2.1⟩
    · obtain ⟨o, _, _, _, e, ex, _⟩ := I.hok p _ hk
      refine ⟨⟨o, e, ex.1⟩, fun a e2 => ?_⟩
      cases e2
      exact ⟨o, e, ex.2.1⟩
  | _ => exact False.elim ty
def tBM0 (K : PySem.W.Frag) (T : String) (r : V → List V → Hp → VK → Prop) (to : TE) : TE := fun σ H Q => to σ H fun x H1 => tyV K T x H1 ∧ r x [] H1 Q
def tBM (K : PySem.W.Frag) (T : String) (r : V → List V → Hp → VK → Prop) (to : TE) (t : TA) : TE := fun σ H Q => to σ H fun x H1 => tyV K T x H1 ∧ t σ H1 fun xs H2 => r x xs H2 Q
variable {o e : Expr} {es : List Expr} {to : TE} {t : TA} {name : Str} {apos cpos : Pos} {T id : String} {r : V → List V → Hp → VK → Prop}
theorem pe_bm0 (pa : PlainAttrs T) (slot : Slot T name id) (hty : typeOf (.builtin id) = pure (.type "method_descriptor")) (hm : MtR X id r) (ho : PE X o to)
    (hbase : attributeBase o name X.env (eval o X.env) = eval o X.env := by rfl) (hline : (apos.endLine == cpos.line) = true := by rfl) : PE X (.Call (.Attribute o name apos) [] [] cpos) (tBM0 X.K T r to) := by
  intro pins s σ H Q I h
  refine wpAny_Call_method0_late hbase hline (thn (ho pins s σ H _ I h) fun v s1 ⟨x, H1, I1, r1, ty, q1⟩ => ?_)
  obtain ⟨h1, h2⟩ := tyV_is I1 r1 ty
  exact ⟨T, id, pa, slot, hty, h1, h2, Calls.callWith_builtin rfl (PySem.evalArgs_none (hm pins s1 σ H1 x [] v [] Q I1 r1 .nil q1))⟩
theorem pe_bm (pa : PlainAttrs T) (slot : Slot T name id) (hty : typeOf (.builtin id) = pure (.type "method_descriptor")) (hm : MtR X id r) (ho : PE X o to) (ha : PA X (e :: es) t)
    (hbase : attributeBase o name X.env (eval o X.env) = eval o X.env := by rfl)
    (hfew : ((backTo cpos (starEach (e :: es) X.env)).all (fun x => !x.1) && (backToKw cpos (keywordEach [] X.env)).all (fun x => x.1.isSome)
      && decide ((e :: es).length + ([] : List Keyword).length + (if ([] : List Keyword).isEmpty then 0 else 1) < 30)) = true := by rfl)
    (hline : (apos.endLine == cpos.line) = true := by rfl) (hs : starEach (e :: es) X.env = (false, eval e X.env) :: starEach es X.env := by rfl) (hplain : (backTo cpos (starEach es X.env)).any (·.1) = false := by rfl) :
    PE X (.Call (.Attribute o name apos) (e :: es) [] cpos) (tBM X.K T r to t) := by
  intro pins s σ H Q I h
  refine wpAny_Call_method_late hbase hfew hline rfl (thn (ho pins s σ H _ I h) fun v s1 ⟨x, H1, I1, r1, ty, q1⟩ => ?_)
  obtain ⟨h1, h2⟩ := tyV_is I1 r1 ty
  refine ⟨T, id, pa, slot, hty, h1, h2, ?_⟩
  have hA := ha cpos pins s1 σ H1 _ I1 q1
  rw [hs] at hA ⊢
  refine Calls.callWith_builtin (by show (false || (backTo cpos (starEach es X.env)).any (·.1)) = false; rw [hplain] <;> rfl) (Calls.evalArgs_plain ?_)
  exact thn hA fun us s2 ⟨vs, H2, I2, r2, q2⟩ => hm pins s2 σ H2 x vs v us Q I2 r1 r2 q2
/- xs.append(e), list.index on a module's tuple .. are MtR facts of 06m -/
end
end L2

namespace L2
open PySem PySem.Spec PyProof.Rows

def MtM (X : Cx) (id : String) (r : V → List V → Hp → VK → Prop) : Prop :=
  ∀ (pins : List (Addr × Obj)) (s : Shared) (σ : St) (H : Hp) (x : V) (xs : List V) (v : Value) (us : List Value) (Q : VK), Inv X pins σ H s → RelV x v → Vals xs us → r x xs H Q →
    wpAny (model X.prog X.w) X.A (call (.builtin id) (v :: us)) (EP X pins σ Q) X.xe s

/-! ### lists of values -/
theorem Vals.one : ∀ {x : V} {us : List Value}, Vals [x] us → ∃ u, us = [u] ∧ RelV x u
  | _, _, .cons r .nil => ⟨_, rfl, r⟩
theorem Vals.two : ∀ {x y : V} {us : List Value}, Vals [x, y] us → ∃ u v, us = [u, v] ∧ RelV x u ∧ RelV y v
  | _, _, _, .cons r (.cons q .nil) => ⟨_, _, rfl, r, q⟩
theorem Vals.zero : ∀ {us : List Value}, Vals [] us → us = []
  | _, .nil => rfl
theorem Vals.dropLast {xs : List V} {us : List Value} (h : Vals xs us) : Vals xs.dropLast us.dropLast := by
  induction h with
  | nil => exact .nil
  | cons r t ih =>
    cases t with
    | nil => exact .nil
    | cons q t' => exact .cons r ih
theorem Vals.eraseIdx : ∀ {xs : List V} {us : List Value} (i : Nat), Vals xs us → Vals (xs.eraseIdx i) (us.eraseIdx i)
  | _, _, _, .nil => .nil
  | _, _, 0, .cons _ t => t
  | _, _, i + 1, .cons r t => .cons r (Vals.eraseIdx i t)
theorem Vals.reverse {xs : List V} {us : List Value} (h : Vals xs us) : Vals xs.reverse us.reverse := by
  induction h with
  | nil => exact .nil
  | cons r t ih => rw [List.reverse_cons, List.reverse_cons]; exact Vals.append ih (.cons r .nil)
theorem Vals.rep {xs : List V} {us : List Value} (h : Vals xs us) : ∀ k : Nat, Vals (List.replicate k xs).flatten (List.replicate k us).flatten
  | 0 => .nil
  | k + 1 => by
    rw [List.replicate_succ, List.replicate_succ, List.flatten_cons, List.flatten_cons]
    exact Vals.append h (Vals.rep h k)
theorem erase_last {α : Type} (l : List α) : l.eraseIdx (l.length - 1) = l.dropLast := by
  induction l with
  | nil => rfl
  | cons a r ih =>
    cases r with
    | nil => rfl
    | cons b r =>
      have e : (a :: b :: r).length - 1 = ((b :: r).length - 1) + 1 := by
        have h1 : (a :: b :: r).length = r.length + 2 := rfl
        have h2 : (b :: r).length = r.length + 1 := rfl
        omega
      rw [e, List.eraseIdx_cons_succ, ih]
      all_goals rfl
theorem len_erase {α : Type} : ∀ (l : List α) (i : Nat), (l.eraseIdx i).length ≤ l.length
  | [], _ => Nat.le_refl _
  | _ :: _, 0 => Nat.le_succ _
  | _ :: r, i + 1 => Nat.succ_le_succ (len_erase r i)
theorem foldl_rep (its : List Value) : ∀ (k : Nat) (acc : List Value),
    List.foldl (fun x1 x2 => x1 ++ x2) acc.toArray (List.replicate k its.toArray) = (acc ++ (List.replicate k its).flatten).toArray
  | 0, acc => by simp
  | k + 1, acc => by
    have e : acc.toArray ++ its.toArray = (acc ++ its).toArray := by simp
    have e2 : (acc ++ its) ++ (List.replicate k its).flatten = acc ++ (List.replicate (k + 1) its).flatten := by
      rw [List.replicate_succ, List.flatten_cons, List.append_assoc]
    rw [← e2, ← foldl_rep its k (acc ++ its), ← e, List.replicate_succ, List.foldl_cons]

section
variable {X : Cx} {pins : List (Addr × Obj)} {σ : St} {H : Hp} {s : Shared} {l b : Addr} {xs ys zs : List V}

/-! ### the two steps: a tracked list is rewritten, a new list is laid -/
theorem Inv.lset {its its' : List Value} {n : Nat} {f : Array Value → Array Value} {t' : Nat} (I : Inv X pins σ H s) (hH : H l = some (.lst xs))
    (e : s.heap.get? l = some { cls := .type "list", data := .seq its.toArray n }) (hf : f its.toArray = its'.toArray) (hv : Vals ys its') (hz : ys.length ≤ sizeLine) :
    Inv X pins σ (upd H l (.lst ys)) { s with heap := s.heap.update l (Obj.mapSeq f), toks := t' } := by
  have q := PySem.IsL.update e f
  rw [hf] at q
  refine I.write (x := l) (e := l) (by rw [hH]; exact trivial) (.inl rfl) (fun b' u hb hu => (Heap.get?_update_other s.heap (Obj.mapSeq f) (Ne.symm hb)).trans hu) ⟨_, q⟩ ?_
  exact ⟨hz, its', _, hv, q⟩
theorem Inv.lnew {its : List Value} {t' : Nat} (I : Inv X pins σ H s) (hv : Vals ys its) (hz : ys.length ≤ sizeLine) :
    Inv X pins σ (upd H s.heap.objs.size (.lst ys)) { s with heap := s.heap.push { cls := .type "list", data := .seq its.toArray }, toks := t' } :=
  I.laid (fun _ _ q => Heap.get?_push_of_some _ q) (Nat.le_refl _) ⟨hz, its, 0, hv, Heap.get?_push_size _ rfl⟩
theorem Inv.fresh (I : Inv X pins σ H s) : H s.heap.objs.size = none := I.hok.fresh (Nat.le_refl _)
theorem Inv.lstM (I : Inv X pins σ H s) (hH : H l = some (.lst xs)) : xs.length ≤ sizeLine ∧ ∃ (its : List Value) (n : Nat), Vals xs its ∧ xs.length = its.length ∧ s.heap.get? l = some { cls := .type "list", data := .seq its.toArray n } := by
  obtain ⟨z, its, n, r, e⟩ := I.hok l _ hH
  exact ⟨z, its, n, r, r.length, e⟩

theorem notLongL {n : Nat} (h : n ≤ sizeLine) : Builtin.List.listTooLong n = false := by
  unfold Builtin.List.listTooLong
  exact decide_eq_false (by omega)
end

section
variable {X : Cx}

/-! ### methods -/
def rAppend : V → List V → Hp → VK → Prop := fun x vs H Q => ∃ l xs y, x = .ref l ∧ vs = [y] ∧ H l = some (.lst xs) ∧ xs.length < sizeLine ∧ Q .non (upd H l (.lst (xs ++ [y])))
theorem mt_append : MtM X "list.append" rAppend := by
  intro pins s σ H x vs v us Q I rx rv h
  obtain ⟨l, xs, y, rfl, rfl, hH, hz, q⟩ := h
  cases rx
  obtain ⟨u, rfl, ru⟩ := rv.one
  obtain ⟨z, its, n, r, hl, e⟩ := I.lstM hH
  refine call_meets F.slot_list_append ⟨_, e, rfl⟩ F.entry_list_append (F.args_list_append_2 _ _) (PySem.list_append l its.toArray n u (by rw [List.size_toArray]; omega)) ⟨e, ?_⟩
  refine ⟨.non, _, I.lset (its' := its ++ [u]) hH e (by simp) (r.append (.cons ru .nil)) ?_, rfl, q⟩
  rw [List.length_append, List.length_singleton]
  omega

def rExtend : V → List V → Hp → VK → Prop := fun x vs H Q => ∃ l b xs zs, x = .ref l ∧ vs = [.ref b] ∧ H l = some (.lst xs) ∧ H b = some (.lst zs) ∧ xs.length + zs.length ≤ sizeLine ∧ Q .non (upd H l (.lst (xs ++ zs)))
theorem mt_extend : MtM X "list.extend" rExtend := by
  intro pins s σ H x vs v us Q I rx rv h
  obtain ⟨l, b, xs, zs, rfl, rfl, hH, hB, hz, q⟩ := h
  cases rx
  obtain ⟨u, rfl, ru⟩ := rv.one
  cases ru
  obtain ⟨z, its, n, r, hl, e⟩ := I.lstM hH
  obtain ⟨z2, its2, n2, r2, hl2, e2⟩ := I.lstM hB
  have hsz : its.toArray.size + its2.toArray.size ≤ sizeLine := by rw [List.size_toArray, List.size_toArray]; omega
  have hlong : ¬ (!its.toArray.isEmpty && Builtin.List.listTooLong (its.toArray.size + its2.toArray.size)) = true := by
    rw [notLongL hsz, Bool.and_false]
    exact Bool.false_ne_true
  refine call_meets F.slot_list_extend ⟨_, e, rfl⟩ F.entry_list_extend (F.args_list_extend_2 _ _)
    (AutoSeq1.list_extend_list_list_0 l its.toArray n b its2.toArray n2 hlong (by rw [List.size_toArray]; omega) (by omega)) ⟨e, e2, ?_⟩
  refine ⟨.non, _, I.lset (its' := its ++ its2) hH e (by simp) (r.append r2) ?_, rfl, q⟩
  rw [List.length_append]
  omega

def rPop : V → List V → Hp → VK → Prop := fun x vs H Q => ∃ l xs y, x = .ref l ∧ vs = [] ∧ H l = some (.lst xs) ∧ xs[xs.length - 1]? = some y ∧ Q y (upd H l (.lst xs.dropLast))
theorem mt_pop : MtM X "list.pop" rPop := by
  intro pins s σ H x vs v us Q I rx rv h
  obtain ⟨l, xs, y, rfl, rfl, hH, hy, q⟩ := h
  cases rx
  have hus := rv.zero
  subst hus
  obtain ⟨z, its, n, r, hl, e⟩ := I.lstM hH
  obtain ⟨u, hu, ru⟩ := r.get hy
  have hy' : its.toArray[its.toArray.size - 1]? = some u := by
    show its.toArray[its.length - 1]? = some u
    rw [← Array.getElem?_toList, ← hl]
    exact hu
  refine call_meets F.slot_list_pop ⟨_, e, rfl⟩ F.entry_list_pop (F.args_list_pop_1 _) (MeetsSeq.list_pop_last l its.toArray n u hy' (by rw [List.size_toArray]; omega)) ⟨e, ?_⟩
  refine ⟨y, _, I.lset (its' := its.dropLast) hH e ?_ r.dropLast ?_, ru, q⟩
  · show its.toArray.eraseIdxIfInBounds (its.toArray.size - 1) = its.dropLast.toArray
    rw [List.size_toArray, List.eraseIdxIfInBounds_toArray, erase_last]
  · rw [List.length_dropLast]
    omega

def rPopAt : V → List V → Hp → VK → Prop := fun x vs H Q => ∃ l xs i k y, x = .ref l ∧ vs = [.int i] ∧ H l = some (.lst xs) ∧ -(2 ^ 63) ≤ i ∧ i < 2 ^ 63 ∧ seqIndex? i xs.length = some k ∧ xs[k]? = some y ∧ Q y (upd H l (.lst (xs.eraseIdx k)))
theorem mt_popAt : MtM X "list.pop" rPopAt := by
  intro pins s σ H x vs v us Q I rx rv h
  obtain ⟨l, xs, i, k, y, rfl, rfl, hH, h1, h2, hk, hy, q⟩ := h
  cases rx
  obtain ⟨u, rfl, ru⟩ := rv.one
  obtain ⟨t, rfl⟩ := ru
  obtain ⟨z, its, n, r, hl, e⟩ := I.lstM hH
  obtain ⟨w, hw, rw'⟩ := r.get hy
  refine call_meets F.slot_list_pop ⟨_, e, rfl⟩ F.entry_list_pop (F.args_list_pop_2 _ _)
    (MeetsSeq.list_pop_at l its.toArray n i t k w (fitsIndex_both h1 h2) (by rw [List.size_toArray, ← hl]; exact hk) (by rw [← Array.getElem?_toList]; exact hw) (by rw [List.size_toArray]; omega)) ⟨e, ?_⟩
  refine ⟨y, _, I.lset (its' := its.eraseIdx k) hH e ?_ (r.eraseIdx k) ?_, rw', q⟩
  · show its.toArray.eraseIdxIfInBounds k = (its.eraseIdx k).toArray
    rw [List.eraseIdxIfInBounds_toArray]
  · have := len_erase xs k
    omega

def rReverse : V → List V → Hp → VK → Prop := fun x vs H Q => ∃ l xs, x = .ref l ∧ vs = [] ∧ H l = some (.lst xs) ∧ Q .non (upd H l (.lst xs.reverse))
theorem mt_reverse : MtM X "list.reverse" rReverse := by
  intro pins s σ H x vs v us Q I rx rv h
  obtain ⟨l, xs, rfl, rfl, hH, q⟩ := h
  cases rx
  have hus := rv.zero
  subst hus
  obtain ⟨z, its, n, r, hl, e⟩ := I.lstM hH
  refine call_meets F.slot_list_reverse ⟨_, e, rfl⟩ F.entry_list_reverse (F.args_list_reverse_1 _) (AutoSeq1.list_reverse_list_0 l its.toArray n (by rw [List.size_toArray]; omega)) ⟨e, ?_⟩
  refine ⟨.non, _, I.lset (its' := its.reverse) hH e (by simp) r.reverse ?_, rfl, q⟩
  rw [List.length_reverse]
  omega

def rClear : V → List V → Hp → VK → Prop := fun x vs H Q => ∃ l xs, x = .ref l ∧ vs = [] ∧ H l = some (.lst xs) ∧ Q .non (upd H l (.lst []))
theorem mt_clear : MtM X "list.clear" rClear := by
  intro pins s σ H x vs v us Q I rx rv h
  obtain ⟨l, xs, rfl, rfl, hH, q⟩ := h
  cases rx
  have hus := rv.zero
  subst hus
  obtain ⟨z, its, n, r, hl, e⟩ := I.lstM hH
  refine call_meets F.slot_list_clear ⟨_, e, rfl⟩ F.entry_list_clear (F.args_list_clear_1 _) (AutoSeq1.list_clear_list_0 l its.toArray n (by rw [List.size_toArray]; omega)) ⟨e, ?_⟩
  exact ⟨.non, _, I.lset (its' := []) (ys := []) hH e rfl .nil (Nat.zero_le _), rfl, q⟩

/-! ### list + list, list += list, list * int -/
def rCat : R2 := fun x y H Q => ∃ l b xs zs, x = .ref l ∧ y = .ref b ∧ H l = some (.lst xs) ∧ H b = some (.lst zs) ∧ xs.length + zs.length ≤ sizeLine ∧ ∀ p, H p = none → Q (.ref p) (upd H p (.lst (xs ++ zs)))
theorem op_cat : OpR X (binaryOp .Add) rCat := by
  intro pins s σ H x y v u Q I rx ry h
  obtain ⟨l, b, xs, zs, rfl, rfl, hH, hB, hz, q⟩ := h
  cases rx
  cases ry
  obtain ⟨z, its, n, r, hl, e⟩ := I.lstM hH
  obtain ⟨z2, its2, n2, r2, hl2, e2⟩ := I.lstM hB
  refine PySem.P.add_list e e2 ?_ (by rw [List.size_toArray, List.size_toArray]; omega)
  have ea : its.toArray ++ its2.toArray = (its ++ its2).toArray := by simp
  rw [ea]
  exact ⟨.ref _, _, I.lnew (t' := s.toks) (r.append r2) (by rw [List.length_append]; omega), rfl, q _ I.fresh⟩
/-- a list times an int (a negative one is nothing) -/
def rRep : R2 := fun x y H Q => ∃ l k xs, x = .ref l ∧ y = .int k ∧ H l = some (.lst xs) ∧ -(2 ^ 63) ≤ k ∧ k < 2 ^ 63 ∧ xs.length * k.toNat ≤ sizeLine ∧
  ∀ p, H p = none → Q (.ref p) (upd H p (.lst (List.replicate k.toNat xs).flatten))
theorem len_rep {α : Type} (xs : List α) (k : Nat) : (List.replicate k xs).flatten.length = k * xs.length := by
  induction k with
  | zero => simp
  | succ k ih => rw [List.replicate_succ, List.flatten_cons, List.length_append, ih, Nat.succ_mul, Nat.add_comm]
theorem op_rep : OpR X (binaryOp .Mult) rRep := by
  intro pins s σ H x y v u Q I rx ry h
  obtain ⟨l, k, xs, rfl, rfl, hH, h1, h2, hz, q⟩ := h
  cases rx
  obtain ⟨t, rfl⟩ := ry
  obtain ⟨z, its, n, r, hl, e⟩ := I.lstM hH
  have hlen : its.toArray.size * k.toNat ≤ sizeLine := by rw [List.size_toArray, ← hl]; exact hz
  have hcap : ¬ its.toArray.size * k.toNat > (2 ^ 63 - 1) / 8 := by
    have : (sizeLine : Nat) ≤ (2 ^ 63 - 1) / 8 := by decide
    omega
  have hfit : ¬ (!Builtin.List.listFitsIndex k) = true := by
    rw [fitsIndex_both h1 h2]
    exact Bool.false_ne_true
  have hlong : ¬ Builtin.List.listTooLong (its.toArray.size * k.toNat) = true := by
    rw [notLongL hlen]
    exact Bool.false_ne_true
  have hnew : List.foldl (fun x1 x2 => x1 ++ x2) #[] (List.replicate (if its.toArray.isEmpty = true then 0 else k.toNat) its.toArray) = (List.replicate k.toNat its).flatten.toArray := by
    have f0 : ∀ m : Nat, List.foldl (fun x1 x2 => x1 ++ x2) #[] (List.replicate m its.toArray) = (List.replicate m its).flatten.toArray := fun m => by
      have := foldl_rep its m []
      rw [List.nil_append] at this
      exact this
    rw [f0]
    cases its with
    | nil => simp
    | cons a r' => rw [if_neg (by simp)]
  refine wpAny_binaryOp_repeat_ref (T := "list") (U := "int") (by decide) ⟨_, e, rfl⟩ (fun s' => typeIs_int s' k t) noFill_list_mul F.fills_int_mul F.slot_int_rmul repeat_list F.slot_int_index.lookup
    (call_meets F.slot_int_rmul (typeIs_int s k t) F.entry_int_rmul (F.args_int_rmul_2 _ _) (int___rmul___int_list k t l its.toArray n)
      ⟨e, rfl, ⟨_, e, rfl⟩, call_meets F.slot_list_mul ⟨_, e, rfl⟩ F.entry_list_mul (F.args_list_mul_2 _ _) (AutoListH.list___mul___list_int_3 l its.toArray n k t hfit hcap hlong) ⟨e, ?_⟩⟩)
  rw [hnew]
  exact ⟨.ref _, _, I.lnew (t' := s.toks) (r.rep k.toNat) (by rw [len_rep, Nat.mul_comm]; exact hz), rfl, q _ I.fresh⟩

/-! ### del xs[i] -/
theorem del_list {pins : List (Addr × Obj)} {s : Shared} {σ : St} {H : Hp} {l : Addr} {xs : List V} {i : Int} {t : Tok} {k : Nat} {Q : Unit → Shared → Prop} (I : Inv X pins σ H s) (hH : H l = some (.lst xs))
    (h1 : -(2 ^ 63) ≤ i) (h2 : i < 2 ^ 63) (hk : seqIndex? i xs.length = some k) (h : ∀ s', Inv X pins σ (upd H l (.lst (xs.eraseIdx k))) s' → Q () s') :
    wpAny (model X.prog X.w) X.A (delItem (.ref l) (.int i t)) Q X.xe s := by
  obtain ⟨z, its, n, r, hl, e⟩ := I.lstM hH
  refine PySem.P.delItem_list (k := k) e (fitsIndex_both h1 h2) (by rw [List.size_toArray, ← hl]; exact hk) (h _ ?_) (by rw [List.size_toArray]; omega)
  refine I.lset (its' := its.eraseIdx k) (t' := s.toks) hH e ?_ (r.eraseIdx k) ?_
  · show its.toArray.eraseIdxIfInBounds k = (its.eraseIdx k).toArray
    rw [List.eraseIdxIfInBounds_toArray]
  · have := len_erase xs k
    omega
end

/-! ### xs[a:b] = ys -/
section
variable {prog : Program} {w : World} {A : Around} {E : Value → Shared → Prop} {s : Shared}
theorem splice_eq (its its2 : List Value) (a c : Nat) : its.toArray.extract 0 a ++ its2.toArray ++ its.toArray.extract c its.toArray.size = (its.take a ++ its2 ++ its.drop c).toArray := by
  apply Array.toList_inj.mp
  first
    | (simp
       exact List.take_of_length_le (by simp))
    | simp [List.take_of_length_le]
    | simp
theorem bounds_run {a c n : Nat} (hac : a ≤ c) (hc : c ≤ n) : sliceBounds (some (a : Int)) (some (c : Int)) none n = ((a : Int), (c : Int), 1) := by
  simp only [sliceBounds, Option.getD_none]
  have h1 : ¬ ((a : Int) < 0) := by omega
  have h2 : ¬ ((c : Int) < 0) := by omega
  simp only [h1, h2, if_false, show (1 : Int) > 0 by decide, if_true]
  congr 1
  · omega
  · congr 1; omega
set_option maxRecDepth 100000 in
/-- list.__setitem__ with a slice of step one and another list -/
theorem setItem_slice {l b sl : Addr} {items new : Array Value} {n n2 : Nat} {vl vu : Value} {a c : Nat} {Q : Unit → Shared → Prop}
    (e : s.heap.get? l = some { cls := .type "list", data := .seq items n }) (e2 : s.heap.get? b = some { cls := .type "list", data := .seq new n2 }) (hne : l ≠ b)
    (hs : s.heap.IsSliceOf sl vl vu .none) (pl : IsPart vl (some (a : Int))) (pu : IsPart vu (some (c : Int))) (hac : a ≤ c) (hc : c ≤ items.size)
    (hsz : items.size + new.size ≤ sizeLine) (h : Q () { s with heap := s.heap.update l (Obj.mapSeq fun xs => xs.extract 0 a ++ new ++ xs.extract c xs.size) }) :
    wpAny (model prog w) A (setItem (.ref l) (.ref sl) (.ref b)) Q E s := by
  have hl : s.heap.IsList l items := PySem.IsL.isList e
  have hb : s.heap.IsList b new := PySem.IsL.isList e2
  obtain ⟨os, hos, hcs, hds⟩ := id hs
  have hTs : s.TypeIs (.ref sl) "slice" := ⟨os, hos, hcs⟩
  have hstep : ¬ ((rawPart none == rawInt 0) = true) := Bool.false_ne_true
  have hsame : Builtin.List.listSameRef (.ref l) (.ref b) = false := by
    unfold Builtin.List.listSameRef
    exact beq_eq_false_iff_ne.mpr hne
  have hmax : (max (a : Int) (c : Int)).toNat = c := by omega
  have hz' : ((fun xs : Array Value => xs.extract 0 a ++ new ++ xs.extract c xs.size) items).size ≤ sizeLine + 1 := by
    simp only [Array.size_append, Array.size_extract]
    omega
  unfold setItem
  try with_reducible refine wpAny_holding ?_
  first | refine wpAny_bind (wpAny_pure ?_) | skip
  refine wpAny_bind (wpAny_sequenceKey hl.typeIs (by decide) ?_)
  refine wpAny_bind (wpAny_callSpecial?_slot (name := Str.ofString "__setitem__") hl.typeIs slot_list_setitem
    (wpAny_call_entry slot_list_setitem hl.typeIs entry_list_setitem ?_ (args_list_setitem _ _ _)))
  show wpAny _ _ (Builtin.List.listSubscript? (.ref sl) >>= _) _ _ s
  refine wpAny_bind ?_
  unfold Builtin.List.listSubscript?
  refine wpAny_bind (wpAny_specialOf hTs slice_no_index ?_)
  simp only [Option.isNone_none, if_true]
  refine wpAny_pure ?_
  show wpAny _ _ (typeOf (.ref sl) >>= _) _ _ s
  refine wpAny_bind (wpAny_typeOf hTs ?_)
  first
    | rw [if_neg (by decide)]
    | refine PySem.W.KFB.if_not (by decide) ?_
  rw [listSliceParts_eq]
  refine wpAny_bind (wpAny_bind (wpAny_field hos hds (x := .none) rfl (wpAny_bind (wpAny_listPart .none ?_))))
  rw [if_neg hstep]
  refine wpAny_bind (wpAny_field hos hds (x := vl) rfl (wpAny_bind (wpAny_listPart pl ?_)))
  refine wpAny_bind (wpAny_field hos hds (x := vu) rfl (wpAny_bind (wpAny_listPart pu (wpAny_pure ?_))))
  first
    | simp only [hsame, Bool.false_eq_true, if_false]
    | refine PySem.W.KFB.if_not hsame ?_
    | (dsimp only
       rw [if_neg (by rw [hsame]; exact Bool.false_ne_true)])
  refine wpAny_bind (m := Builtin.List.listAllItems (.ref b) "must assign iterable to extended slice") ?_
  unfold Builtin.List.listAllItems
  refine wpAny_bind (wpAny_typeOf hb.typeIs ?_)
  first
    | refine PySem.W.KFB.if_so (by decide) ?_
    | rw [if_pos (by decide)]
    | simp only [beq_self_eq_true, Bool.true_or, if_true]
  unfold Builtin.List.listItems
  refine wpAny_bind (wpAny_seqItems e2 rfl (wpAny_pure ?_))
  refine wpAny_bind (wpAny_bind (wpAny_seqItems e rfl (wpAny_pure ?_)))
  refine wpAny_bind (wpAny_of_eq ((sliceIndices_raw (some (a : Int)) (some (c : Int)) none items.size (by simp)).trans (congrArg (pure : Int × Int × Int → Sem (Int × Int × Int)) (bounds_run hac hc))) ?_)
  show wpAny _ _ (if ((1 : Int) == 1) = true then _ else _) _ _ s
  rw [if_pos (by decide)]
  refine wpAny_bind (wpAny_rule ?_)
  first
    | simp only [notLongL hsz, Bool.false_eq_true, if_false]
    | refine PySem.W.KFB.if_not (notLongL hsz) ?_
  first | refine wpAny_bind (wpAny_pure ?_) | skip
  show wpAny _ _ (updateSeq l (fun xs => xs.extract 0 ((a : Int)).toNat ++ new ++ xs.extract (max (a : Int) (c : Int)).toNat xs.size) >>= _) _ _ s
  rw [hmax, Int.toNat_natCast]
  refine wpAny_bind (wpAny_updateSeq (hz := Nat.le_trans (Nat.le_add_right _ _) hsz) (_hz' := hz') e rfl ?_)
  refine wpAny_bind (wpAny_letGo ?_)
  first
    | exact wpAny_bind (wpAny_pure (wpAny_pure ⟨.none, rfl, wpAny_pure h⟩))
    | exact wpAny_pure ⟨.none, rfl, wpAny_pure h⟩
end

section
variable {X : Cx}
/-- xs[a:c] = ys of another list, at the value level: sl is the slice object that was just made -/
theorem set_slice {pins : List (Addr × Obj)} {s : Shared} {σ : St} {H : Hp} {l b sl : Addr} {xs ys : List V} {a c : Int} {vl vu : Value} {Q : Unit → Shared → Prop} (I : Inv X pins σ H s)
    (hH : H l = some (.lst xs)) (hB : H b = some (.lst ys)) (hne : l ≠ b) (hs : s.heap.IsSliceOf sl vl vu .none) (ra : RelV (.int a) vl) (rc : RelV (.int c) vu) (h0 : 0 ≤ a) (hac : a ≤ c) (hc : c ≤ xs.length)
    (hz : xs.length + ys.length ≤ sizeLine) (h : ∀ s', Inv X pins σ (upd H l (.lst (xs.take a.toNat ++ ys ++ xs.drop c.toNat))) s' → Q () s') :
    wpAny (model X.prog X.w) X.A (setItem (.ref l) (.ref sl) (.ref b)) Q X.xe s := by
  obtain ⟨ta, rfl⟩ := ra
  obtain ⟨tc, rfl⟩ := rc
  obtain ⟨z, its, n, r, hl, e⟩ := I.lstM hH
  obtain ⟨z2, its2, n2, r2, hl2, e2⟩ := I.lstM hB
  obtain ⟨a', rfl⟩ := Int.eq_ofNat_of_zero_le h0
  obtain ⟨c', rfl⟩ := Int.eq_ofNat_of_zero_le (Int.le_trans h0 hac)
  simp only [Int.toNat_natCast] at h
  refine setItem_slice (a := a') (c := c') e e2 hne hs (.int _ _) (.int _ _) (by omega) (by rw [List.size_toArray]; omega) (by rw [List.size_toArray, List.size_toArray]; omega) (h _ ?_)
  refine I.lset (its' := its.take a' ++ its2 ++ its.drop c') (t' := s.toks) hH e ?_ (Vals.append (Vals.append (r.take _) r2) (r.drop _)) ?_
  · exact splice_eq its its2 a' c'
  · rw [List.length_append, List.length_append, List.length_take, List.length_drop]
    omega
end
end L2
namespace L2
open PySem PySem.Spec PyProof.Rows

/-! ### lists of pairs as tables -/
section
variable {κ : Type} [DecidableEq κ]
def valV (kvs : List (κ × V)) (k : κ) : Option V := (kvs.find? fun kv => decide (kv.1 = k)).map (·.2)
/-- in its place, or at the end -/
def putK (kvs : List (κ × V)) (k : κ) (v : V) : List (κ × V) :=
  if (kvs.any fun kv => decide (kv.1 = k)) = true then kvs.map (fun kv => if kv.1 = k then (kv.1, v) else kv) else kvs ++ [(k, v)]
def dropK (kvs : List (κ × V)) (k : κ) : List (κ × V) := kvs.filter fun kv => decide (kv.1 ≠ k)

theorem valV_nil {k : κ} : valV ([] : List (κ × V)) k = none := rfl
theorem valV_pos {p : κ × V} {r : List (κ × V)} {k : κ} (e : p.1 = k) : valV (p :: r) k = some p.2 := by simp [valV, List.find?_cons, e]
theorem valV_neg {p : κ × V} {r : List (κ × V)} {k : κ} (e : ¬ p.1 = k) : valV (p :: r) k = valV r k := by simp [valV, List.find?_cons, e]
theorem valV_any (k : κ) : ∀ kvs : List (κ × V), (kvs.any fun kv => decide (kv.1 = k)) = (valV kvs k).isSome
  | [] => rfl
  | p :: r => by
    rw [List.any_cons]
    by_cases e : p.1 = k
    · simp only [valV_pos e, decide_eq_true e, Bool.true_or, Option.isSome_some]
    · rw [valV_neg e, decide_eq_false e, Bool.false_or]; exact valV_any k r
theorem valV_map (k j : κ) (y : V) : ∀ kvs : List (κ × V), valV (kvs.map fun kv => if kv.1 = k then (kv.1, y) else kv) j = (valV kvs j).map fun x => if j = k then y else x
  | [] => rfl
  | p :: r => by
    have ih := valV_map k j y r
    rw [List.map_cons]
    by_cases h : p.1 = k
    · rw [if_pos h]
      by_cases e : p.1 = j
      · rw [valV_pos (p := (p.1, y)) e, valV_pos e, Option.map_some, if_pos (e.symm.trans h)]
      · rw [valV_neg (p := (p.1, y)) e, valV_neg e, ih]
    · rw [if_neg h]
      by_cases e : p.1 = j
      · rw [valV_pos (p := p) e, valV_pos e, Option.map_some, if_neg (fun z => h (e.trans z))]
      · rw [valV_neg (p := p) e, valV_neg e, ih]
theorem valV_snoc (k j : κ) (y : V) : ∀ kvs : List (κ × V), valV kvs k = none → valV (kvs ++ [(k, y)]) j = if j = k then some y else valV kvs j
  | [], _ => by
    by_cases e : k = j
    · rw [if_pos e.symm]; exact valV_pos (p := (k, y)) e
    · rw [if_neg (fun z => e z.symm)]; exact valV_neg (p := (k, y)) e
  | p :: r, hn => by
    rw [List.cons_append]
    have hk : ¬ p.1 = k := fun z => by rw [valV_pos z] at hn; cases hn
    rw [valV_neg hk] at hn
    have ih := valV_snoc k j y r hn
    by_cases e : p.1 = j
    · rw [valV_pos e, valV_pos e, if_neg (fun z => hk (e.trans z))]
    · rw [valV_neg e, valV_neg e, ih]
theorem valV_put (kvs : List (κ × V)) (k j : κ) (y : V) : valV (putK kvs k y) j = if j = k then some y else valV kvs j := by
  unfold putK
  by_cases a : (kvs.any fun kv => decide (kv.1 = k)) = true
  · rw [if_pos a, valV_map]
    rw [valV_any] at a
    by_cases e : j = k
    · obtain ⟨x, hx⟩ := Option.isSome_iff_exists.mp a
      rw [if_pos e, e, hx, Option.map_some, if_pos rfl]
    · rw [if_neg e]
      cases valV kvs j with
      | none => rfl
      | some x => rw [Option.map_some, if_neg e]
  · rw [if_neg a]
    refine valV_snoc k j y kvs ?_
    rw [valV_any] at a
    cases q : valV kvs k with
    | none => rfl
    | some x => rw [q] at a; exact (a rfl).elim
theorem length_putK (kvs : List (κ × V)) (k : κ) (v : V) : (putK kvs k v).length ≤ kvs.length + 1 := by
  unfold putK
  split
  · rw [List.length_map]; omega
  · rw [List.length_append, List.length_cons, List.length_nil]; omega
theorem putK_new {kvs : List (κ × V)} {k : κ} (v : V) (h : valV kvs k = none) : putK kvs k v = kvs ++ [(k, v)] := by
  unfold putK
  rw [valV_any, h]
  exact if_neg (by decide)

theorem RelO.isSome_eq {o : Option V} {u : Option Value} (r : RelO o u) : o.isSome = u.isSome := by
  cases o with
  | none => cases u with
    | none => rfl
    | some _ => exact (show False from r).elim
  | some _ => cases u with
    | none => exact (show False from r).elim
    | some _ => rfl
theorem RelO.getD {o : Option V} {u : Option Value} {d : V} {d' : Value} (r : RelO o u) (rd : RelV d d') : RelV (o.getD d) (u.getD d') := by
  cases o with
  | none => cases u with
    | none => exact rd
    | some _ => exact (show False from r).elim
  | some _ => cases u with
    | none => exact (show False from r).elim
    | some _ => exact r

/-- raw tables of the same keys -/
theorem KV.val {kvs : List (κ × V)} {vs : List (κ × Value)} (r : KV kvs vs) (k : κ) : RelO (valV kvs k) (valueAt vs k) := by
  unfold KV at r
  induction r with
  | nil => exact True.intro
  | @cons p q ps qs h t ih =>
    obtain ⟨h1, h2⟩ := h
    by_cases e : p.1 = k
    · have e' : q.1 = k := h1.symm.trans e
      have b : valueAt (q :: qs) k = some q.2 := by simp [valueAt, List.find?_cons, e']
      rw [valV_pos e, b]; exact h2
    · have e' : ¬ q.1 = k := fun z => e (h1.trans z)
      have b : valueAt (q :: qs) k = valueAt qs k := by simp [valueAt, List.find?_cons, e']
      rw [valV_neg e, b]; exact ih
theorem KV.any {kvs : List (κ × V)} {vs : List (κ × Value)} (r : KV kvs vs) (k : κ) : (kvs.any fun kv => decide (kv.1 = k)) = vs.any fun kv => decide (kv.1 = k) := by
  unfold KV at r
  induction r with
  | nil => rfl
  | cons h t ih => rw [List.any_cons, List.any_cons, ih, h.1]
theorem KV.repl {kvs : List (κ × V)} {vs : List (κ × Value)} (r : KV kvs vs) (k : κ) {y : V} {u : Value} (ry : RelV y u) :
    KV (kvs.map fun kv => if kv.1 = k then (kv.1, y) else kv) (vs.map fun kv => if kv.1 = k then (kv.1, u) else kv) := by
  unfold KV at r ⊢
  induction r with
  | nil => exact .nil
  | @cons p q ps qs h t ih =>
    rw [List.map_cons, List.map_cons]
    refine .cons ?_ ih
    obtain ⟨h1, h2⟩ := h
    by_cases e : p.1 = k
    · rw [if_pos e, if_pos (h1.symm.trans e)]; exact ⟨h1, ry⟩
    · rw [if_neg e, if_neg (fun z => e (h1.trans z))]; exact ⟨h1, h2⟩
theorem KV.put {kvs : List (κ × V)} {vs : List (κ × Value)} (r : KV kvs vs) (k : κ) {y : V} {u : Value} (ry : RelV y u) : KV (putK kvs k y) (stored vs k u) := by
  unfold putK stored
  rw [r.any k]
  by_cases e : (vs.any fun kv => decide (kv.1 = k)) = true
  · rw [if_pos e, if_pos e]; exact r.repl k ry
  · rw [if_neg e, if_neg e]; exact Paired.snoc r ⟨rfl, ry⟩
theorem KV.drop {kvs : List (κ × V)} {vs : List (κ × Value)} (r : KV kvs vs) (k : κ) : KV (dropK kvs k) (without vs k) := by
  unfold KV at r ⊢
  unfold dropK without
  induction r with
  | nil => exact .nil
  | @cons p q ps qs h t ih =>
    obtain ⟨h1, h2⟩ := h
    rw [List.filter_cons, List.filter_cons]
    by_cases e : p.1 = k
    · have a : ¬ decide (p.1 ≠ k) = true := by simp [e]
      have b : ¬ decide (q.1 ≠ k) = true := by simp [h1.symm.trans e]
      rw [if_neg a, if_neg b]; exact ih
    · have e' : ¬ q.1 = k := fun z => e (h1.trans z)
      have a : decide (p.1 ≠ k) = true := by simp [e]
      have b : decide (q.1 ≠ k) = true := by simp [e']
      rw [if_pos a, if_pos b]; exact .cons ⟨h1, h2⟩ ih
theorem KV.keys {kvs : List (κ × V)} {vs : List (κ × Value)} (r : KV kvs vs) : kvs.map (·.1) = vs.map (·.1) := by
  unfold KV at r
  induction r with
  | nil => rfl
  | cons h t ih => rw [List.map_cons, List.map_cons, ih, h.1]
theorem KV.length {kvs : List (κ × V)} {vs : List (κ × Value)} (r : KV kvs vs) : kvs.length = vs.length := Paired.length r
theorem dropK_le (kvs : List (κ × V)) (k : κ) : (dropK kvs k).length ≤ kvs.length := List.length_filter_le _ _
end


/-! ### a tracked dict, its keys ints and texts or tuples of these -/
theorem kV_is {P : Program} {w : World} {k : Key} {u : Value} (r : RelV (kV k) u) : (mixKind P w).is k u = true := by
  cases k with
  | inl i => obtain ⟨t, e⟩ := (show ∃ t, u = Value.int i t from r); subst e; exact mixKind_int P w i t
  | inr x => obtain ⟨t, e⟩ := (show ∃ t, u = Value.str x t from r); subst e; exact mixKind_str P w x t
theorem kV_inj {a b : Key} (e : kV a = kV b) : a = b := by
  cases a with
  | inl i => cases b with
    | inl j => have e' : V.int i = V.int j := e; injection e' with e'; rw [e']
    | inr y => exact nomatch (show V.int i = V.str y from e)
  | inr x => cases b with
    | inl j => exact nomatch (show V.str x = V.int j from e)
    | inr y => have e' : V.str x = V.str y := e; injection e' with e'; rw [e']
theorem kVs_inj : ∀ {a b : List Key}, a.map kV = b.map kV → a = b
  | [], [], _ => rfl
  | [], _ :: _, e => by simp at e
  | _ :: _, [], e => by simp at e
  | x :: xs, y :: ys, e => by
    rw [List.map_cons, List.map_cons] at e
    injection e with e1 e2
    rw [kV_inj e1, kVs_inj e2]
theorem items_are {P : Program} {w : World} : ∀ {ks : List Key} {us : List Value}, Vals (ks.map kV) us → ItemsAre (mixKind P w) ks us
  | [], _, r => by rw [List.map_nil] at r; cases r; exact .nil
  | k :: ks, _, r => by
    rw [List.map_cons] at r
    cases r with
    | cons h t => exact .cons (kV_is h) (items_are t)

/-- raw entries of a dict with tuple keys -/
abbrev KT (H : Hp) : List (List Key × V) → List (List Key × Addr × Value) → Prop := Paired fun p q => p.1 = q.1 ∧ H q.2.1 = some (.tup (p.1.map kV)) ∧ RelV p.2 q.2.2
theorem KT.val {H : Hp} {kvs : List (List Key × V)} {xs : List (List Key × Addr × Value)} (r : KT H kvs xs) (k : List Key) : RelO (valV kvs k) ((atKey xs k).map (·.2)) := by
  induction r with
  | nil => exact True.intro
  | @cons p q ps qs h t ih =>
    obtain ⟨h1, _, h2⟩ := h
    by_cases e : p.1 = k
    · have e' : q.1 = k := h1.symm.trans e
      have b : atKey (q :: qs) k = some q.2 := by simp [atKey, List.find?_cons, e']
      rw [valV_pos e, b]; exact h2
    · have e' : ¬ q.1 = k := fun z => e (h1.trans z)
      have b : atKey (q :: qs) k = atKey qs k := by simp [atKey, List.find?_cons, e']
      rw [valV_neg e, b]; exact ih
theorem KT.repl {H : Hp} {kvs : List (List Key × V)} {xs : List (List Key × Addr × Value)} (r : KT H kvs xs) (k : List Key) {y : V} {u : Value} (ry : RelV y u) :
    KT H (kvs.map fun kv => if kv.1 = k then (kv.1, y) else kv) (xs.map (putAt k u)) := by
  induction r with
  | nil => exact .nil
  | @cons p q ps qs h t ih =>
    rw [List.map_cons, List.map_cons]
    refine .cons ?_ ih
    obtain ⟨h1, h2, h3⟩ := h
    unfold putAt
    by_cases e : p.1 = k
    · rw [if_pos e, if_pos (h1.symm.trans e)]; exact ⟨h1, h2, ry⟩
    · rw [if_neg e, if_neg (fun z => e (h1.trans z))]; exact ⟨h1, h2, h3⟩
theorem KT.put {H : Hp} {kvs : List (List Key × V)} {xs : List (List Key × Addr × Value)} (r : KT H kvs xs) (k : List Key) {b : Addr} {y : V} {u : Value} (hb : H b = some (.tup (k.map kV))) (ry : RelV y u) :
    KT H (putK kvs k y) (storedH xs k b u) := by
  have e : (kvs.any fun kv => decide (kv.1 = k)) = (atKey xs k).isSome := by
    rw [valV_any, (r.val k).isSome_eq, Option.isSome_map]
  unfold putK storedH
  rw [e]
  by_cases q : (atKey xs k).isSome = true
  · rw [if_pos q, if_pos q]; exact r.repl k ry
  · rw [if_neg q, if_neg q]; exact Paired.snoc r ⟨rfl, hb, ry⟩
theorem KT.keeps {H H' : Hp} {kvs : List (List Key × V)} {xs : List (List Key × Addr × Value)} (r : KT H kvs xs) (ht : ∀ b ys, H b = some (.tup ys) → H' b = some (.tup ys)) : KT H' kvs xs :=
  Paired.mapP r fun _ _ z => ⟨z.1, ht _ _ z.2.1, z.2.2⟩

section
variable {P : Program} {w : World} {H : Hp} {h : Heap} {a : Addr}
theorem rd_of {u : HO} (ok : HOk P w H h) (e : Rd H a u) : ObjOk P w H h a u := e.ok ok
theorem dk_rd {kvs : List (Key × V)} (ok : HOk P w H h) (e : Rd H a (.dK kvs)) : kvs.length ≤ sizeLine ∧ (a == sysModules) = false ∧ ∃ vs, KV kvs vs ∧ h.DictOf (mixKind P w) a vs :=
  show ObjOk P w H h a (.dK kvs) from rd_of ok e
theorem dk_of {kvs : List (Key × V)} (ok : HOk P w H h) (e : H a = some (.dK kvs)) : kvs.length ≤ sizeLine ∧ (a == sysModules) = false ∧ ∃ vs, KV kvs vs ∧ h.DictOf (mixKind P w) a vs := dk_rd ok (.inl e)
/-- a tracked tuple of ints and texts is a key -/
theorem key_of {ks : List Key} (ok : HOk P w H h) (e : H a = some (.tup (ks.map kV))) : (tupleKind (mixKind P w)).is h ks a := by
  obtain ⟨_, its, r, o, h1, h2, n, h3⟩ := (show ObjOk P w H h a (.tup (ks.map kV)) from ok a _ e)
  exact ⟨o, its.toArray, n, h1, h2, h3, by simpa using items_are r⟩
theorem dt_rd {kvs : List (List Key × V)} (ok : HOk P w H h) (e : Rd H a (.dT kvs)) : kvs.length ≤ sizeLine ∧ (a == sysModules) = false ∧
    ∃ xs, KT H kvs xs ∧ h.DictOfH (tupleKind (mixKind P w)) a xs := by
  obtain ⟨z, y, xs, r, o, es, ep, h1, h2, h3, h4, h5⟩ := (show ObjOk P w H h a (.dT kvs) from rd_of ok e)
  refine ⟨z, y, xs, r, o, es, ep, h1, h2, h3, h4, fun x hx => ?_, h5⟩
  have all : ∀ {l : List (List Key × V)} {m : List (List Key × Addr × Value)}, KT H l m → ∀ x ∈ m, (tupleKind (mixKind P w)).is h x.1 x.2.1 := by
    intro l m q
    induction q with
    | nil => intro x hx; exact nomatch hx
    | @cons p q ps qs hq t ih =>
      intro x hx
      rcases List.mem_cons.mp hx with e | hx
      · subst e
        exact key_of ok (by rw [← hq.1]; exact hq.2.1)
      · exact ih x hx
  exact all r x hx
theorem dt_of {kvs : List (List Key × V)} (ok : HOk P w H h) (e : H a = some (.dT kvs)) : kvs.length ≤ sizeLine ∧ (a == sysModules) = false ∧
    ∃ xs, KT H kvs xs ∧ h.DictOfH (tupleKind (mixKind P w)) a xs := dt_rd ok (.inl e)
end

/-- what the dict at a holds at the key y -/
def DGet (H : Hp) (a : Addr) (y : V) (r : Option V) : Prop :=
  (∃ kvs k, Rd H a (.dK kvs) ∧ y = kV k ∧ r = valV kvs k) ∨ ∃ kvs k b, Rd H a (.dT kvs) ∧ y = .ref b ∧ H b = some (.tup (k.map kV)) ∧ r = valV kvs k
/-- the heap behind a[y] = v -/
def DPut (H : Hp) (a : Addr) (y v : V) (H' : Hp) : Prop :=
  (∃ kvs k, H a = some (.dK kvs) ∧ y = kV k ∧ kvs.length < sizeLine ∧ H' = upd H a (.dK (putK kvs k v))) ∨
  ∃ kvs k b, H a = some (.dT kvs) ∧ y = .ref b ∧ H b = some (.tup (k.map kV)) ∧ kvs.length < sizeLine ∧ H' = upd H a (.dT (putK kvs k v))
theorem DGet.k {H : Hp} {a : Addr} {kvs : List (Key × V)} {k : Key} (e : H a = some (.dK kvs)) : DGet H a (kV k) (valV kvs k) := .inl ⟨kvs, k, .inl e, rfl, rfl⟩
theorem DGet.t {H : Hp} {a b : Addr} {kvs : List (List Key × V)} {k : List Key} (e : H a = some (.dT kvs)) (eb : H b = some (.tup (k.map kV))) : DGet H a (.ref b) (valV kvs k) := .inr ⟨kvs, k, b, .inl e, rfl, eb, rfl⟩
theorem DPut.k {H : Hp} {a : Addr} {kvs : List (Key × V)} {k : Key} {v : V} (e : H a = some (.dK kvs)) (hl : kvs.length < sizeLine) : DPut H a (kV k) v (upd H a (.dK (putK kvs k v))) := .inl ⟨kvs, k, e, rfl, hl, rfl⟩
theorem DPut.t {H : Hp} {a b : Addr} {kvs : List (List Key × V)} {k : List Key} {v : V} (e : H a = some (.dT kvs)) (eb : H b = some (.tup (k.map kV))) (hl : kvs.length < sizeLine) :
    DPut H a (.ref b) v (upd H a (.dT (putK kvs k v))) := .inr ⟨kvs, k, b, e, rfl, eb, hl, rfl⟩


section
variable {X : Cx} {pins : List (Addr × Obj)} {σ : St} {H : Hp} {s : Shared} {a : Addr} {y v : V} {u r : Value} {o : Option V} {A : Around} {E : Value → Shared → Prop}

theorem Inv.big (I : Inv X pins σ H s) : sysModules < s.heap.objs.size := by
  have h : mainGlobals < s.heap.objs.size := (I.mod.glob.keeps I.bk).lt
  exact Nat.lt_trans (by decide) h

/-- d[y], there -/
theorem d_getItem {Q : Value → Shared → Prop} (hu : A.units + 1 < cLine) (I : Inv X pins σ H s) (g : DGet H a y (some v)) (ry : RelV y u) (h : ∀ w' s', Inv X pins σ H s' → RelV v w' → Q w' s') :
    wpAny (model X.prog X.w) A (getItem (.ref a) u) Q E s := by
  rcases g with ⟨kvs, k, e, ey, l⟩ | ⟨kvs, k, b, e, ey, eb, l⟩
  · subst ey
    obtain ⟨z, hd, vs, rel, dd⟩ := dk_rd I.hok e
    obtain ⟨w', hw, rw'⟩ := RelO.some_of (v := v) (o := valueAt vs k) (by rw [l]; exact rel.val k)
    exact wpAny_getItem_of (kV_is ry) dd.mapOf hw (h w' _ (I.tok _) rw')
  · subst ey
    cases (show u = Value.ref b from ry)
    obtain ⟨z, hd, xs, rel, dd⟩ := dt_rd I.hok e
    obtain ⟨w', hw, rw'⟩ := RelO.some_of (v := v) (o := (atKey xs k).map (·.2)) (by rw [l]; exact rel.val k)
    obtain ⟨p, hp, hp2⟩ := Option.map_eq_some_iff.mp hw
    refine wpAny_getItem_heap (tupleKind_room_in1 hu) (key_of I.hok eb) dd hp ?_
    rw [hp2]
    exact h w' _ (I.tok _) rw'
/-- y in d -/
theorem d_in {Q : Value → Shared → Prop} (hu : A.units + 1 < cLine) (I : Inv X pins σ H s) (g : DGet H a y o) (ry : RelV y u) (h : ∀ s', Inv X pins σ H s' → Q (.bool o.isSome) s') :
    wpAny (model X.prog X.w) A (compareOp .In u (.ref a)) Q E s := by
  rcases g with ⟨kvs, k, e, ey, l⟩ | ⟨kvs, k, b, e, ey, eb, l⟩
  · subst ey
    obtain ⟨z, hd, vs, rel, dd⟩ := dk_rd I.hok e
    refine wpAny_in_of (kV_is ry) hd dd.mapOf ?_
    rw [← (rel.val k).isSome_eq, ← l]
    exact h _ (I.tok _)
  · subst ey
    cases (show u = Value.ref b from ry)
    obtain ⟨z, hd, xs, rel, dd⟩ := dt_rd I.hok e
    refine wpAny_in_heap (tupleKind_room_in1 hu) (key_of I.hok eb) hd dd ?_
    have q := (rel.val k).isSome_eq
    rw [Option.isSome_map] at q
    rw [← q, ← l]
    exact h _ (I.tok _)
theorem d_notIn {Q : Value → Shared → Prop} (hu : A.units + 1 < cLine) (I : Inv X pins σ H s) (g : DGet H a y o) (ry : RelV y u) (h : ∀ s', Inv X pins σ H s' → Q (.bool (!o.isSome)) s') :
    wpAny (model X.prog X.w) A (compareOp .NotIn u (.ref a)) Q E s := by
  rcases g with ⟨kvs, k, e, ey, l⟩ | ⟨kvs, k, b, e, ey, eb, l⟩
  · subst ey
    obtain ⟨z, hd, vs, rel, dd⟩ := dk_rd I.hok e
    refine wpAny_notIn_of (kV_is ry) hd dd.mapOf ?_
    rw [← (rel.val k).isSome_eq, ← l]
    exact h _ (I.tok _)
  · subst ey
    cases (show u = Value.ref b from ry)
    obtain ⟨z, hd, xs, rel, dd⟩ := dt_rd I.hok e
    refine wpAny_notIn_heap (tupleKind_room_in1 hu) (key_of I.hok eb) hd dd ?_
    have q := (rel.val k).isSome_eq
    rw [Option.isSome_map] at q
    rw [← q, ← l]
    exact h _ (I.tok _)
/-- a dict's object is replaced -/
theorem d_write {h' : Heap} {t' : Nat} {ob : HO} (I : Inv X pins σ H s) (mu : Mut (H a)) (hs : Heap.SameBut a s.heap h') (he : ∃ q, h'.get? a = some q) (new : ObjOk X.prog X.w (upd H a ob) h' a ob) :
    Inv X pins σ (upd H a ob) { s with heap := h', toks := t' } :=
  I.write (x := a) (e := a) mu (.inl rfl) (fun b q hb z => (hs.2 b hb).trans z) he new
theorem dk_new {P : Program} {w : World} {H' : Hp} {h' : Heap} {kvs : List (Key × V)} {vs : List (Key × Value)} (z : kvs.length ≤ sizeLine) (hd : (a == sysModules) = false) (rel : KV kvs vs) (dd : h'.DictOf (mixKind P w) a vs) :
    ObjOk P w H' h' a (.dK kvs) := ⟨z, hd, vs, rel, dd⟩
/-- d[y] = v -/
theorem d_setItem {H' : Hp} {Q : Unit → Shared → Prop} (hu : A.units + 1 < cLine) (I : Inv X pins σ H s) (g : DPut H a y v H') (ry : RelV y u) (rv : RelV v r) (h : ∀ s', Inv X pins σ H' s' → Q () s') :
    wpAny (model X.prog X.w) A (setItem (.ref a) u r) Q E s := by
  rcases g with ⟨kvs, k, e, ey, l, eH⟩ | ⟨kvs, k, b, e, ey, eb, l, eH⟩
  · subst ey eH
    obtain ⟨z, hd, vs, rel, dd⟩ := dk_of I.hok e
    have hz : vs.length ≤ sizeLine := by rw [← rel.length]; exact z
    have hl : (putK kvs k v).length ≤ sizeLine := by have := length_putK kvs k v; omega
    refine wpAny_setItem_pairs (hsz := hz) (kV_is ry) dd fun h' dd' hs => h _ ?_
    have he : ∃ q, h'.get? a = some q := let ⟨q, _, _, hq, _⟩ := dd'; ⟨q, hq⟩
    exact d_write I (by rw [e]; exact True.intro) hs he (dk_new hl hd (rel.put k rv) dd')
  · subst ey eH
    cases (show u = Value.ref b from ry)
    obtain ⟨z, hd, xs, rel, dd⟩ := dt_of I.hok e
    have hz : xs.length ≤ sizeLine := by rw [← Paired.length rel]; exact z
    have hl : (putK kvs k v).length ≤ sizeLine := by have := length_putK kvs k v; omega
    refine wpAny_setItem_heap (hsz := hz) (tupleKind_room_in1 hu) (key_of I.hok eb) dd fun h' dd' hs => h _ ?_
    obtain ⟨q, es, ep, hq, h2, h3, h4, _, h5⟩ := dd'
    refine d_write I (by rw [e]; exact True.intro) hs ⟨q, hq⟩ ⟨hl, hd, _, (rel.put k eb rv).keeps fun c ys ec => ?_, q, es, ep, hq, h2, h3, h4, h5⟩
    rw [upd_ne (ne_of ec e (fun z => nomatch z))]
    exact ec
end

section
variable {X : Cx} {pins : List (Addr × Obj)} {σ : St} {H : Hp} {s : Shared} {a : Addr} {kvs : List (Key × V)} {k : Key} {u : Value} {A : Around} {E : Value → Shared → Prop}
/-- del d[k] -/
theorem d_delItem {Q : Unit → Shared → Prop} (I : Inv X pins σ H s) (e : H a = some (.dK kvs)) (ry : RelV (kV k) u) (l : (valV kvs k).isSome = true) (h : ∀ s', Inv X pins σ (upd H a (.dK (dropK kvs k))) s' → Q () s') :
    wpAny (model X.prog X.w) A (delItem (.ref a) u) Q E s := by
  obtain ⟨z, hd, vs, rel, dd⟩ := dk_of I.hok e
  refine wpAny_delItem_slot dd.typeIs (by decide) PySem.F.slot_dict_delitem
    (call_meetsIn PySem.F.slot_dict_delitem dd.typeIs PySem.F.entry_dict_delitem (PySem.F.args_dict_delitem_2 _ _) (meets_dict_delitem_pairs (mixKind X.prog X.w) a (kV_is ry)) ⟨vs, dd, by rw [← rel.length]; exact z, by rw [← (rel.val k).isSome_eq]; exact l, fun h' dd' hs => h _ ?_⟩)
  have he : ∃ q, h'.get? a = some q := let ⟨q, _, _, hq, _⟩ := dd'; ⟨q, hq⟩
  exact d_write I (by rw [e]; exact True.intro) hs he (dk_new (Nat.le_trans (dropK_le kvs k) z) hd (rel.drop k) dd')
/-- d.pop(k[, x]), there -/
theorem d_pop {v : V} {more : List Value} {Q : Value → Shared → Prop} (I : Inv X pins σ H s) (e : H a = some (.dK kvs)) (ry : RelV (kV k) u) (l : valV kvs k = some v) (hm : more = [] ∨ ∃ x, more = [x])
    (h : ∀ w' s', Inv X pins σ (upd H a (.dK (dropK kvs k))) s' → RelV v w' → Q w' s') : wpAny (model X.prog X.w) A (call (.builtin "dict.pop") (.ref a :: u :: more)) Q E s := by
  obtain ⟨z, hd, vs, rel, dd⟩ := dk_of I.hok e
  obtain ⟨w', hw, rw'⟩ := RelO.some_of (v := v) (o := valueAt vs k) (by rw [← l]; exact rel.val k)
  have hp : (keyPart u).isSome = true := by
    cases k with
    | inl i => obtain ⟨t, q⟩ := (show ∃ t, u = Value.int i t from ry); subst q; rfl
    | inr x => obtain ⟨t, q⟩ := (show ∃ t, u = Value.str x t from ry); subst q; rfl
  have ha : argsOk "dict.pop" ⟨.ref a :: u :: more, []⟩ := by
    rcases hm with q | ⟨x, q⟩
    · subst q; exact PySem.F.args_dict_pop_2 _ _
    · subst q; exact PySem.F.args_dict_pop_3 _ _ _
  refine call_meetsIn PySem.F.slot_dict_pop dd.typeIs PySem.F.entry_dict_pop ha (meets_dict_pop_there (mixKind X.prog X.w) a (kV_is ry) more hm hp)
    ⟨vs, w', dd, by rw [← rel.length]; exact z, hw, fun h' dd' hs => h w' _ ?_ rw'⟩
  have he : ∃ q, h'.get? a = some q := let ⟨q, _, _, hq, _⟩ := dd'; ⟨q, hq⟩
  exact d_write I (by rw [e]; exact True.intro) hs he (dk_new (Nat.le_trans (dropK_le kvs k) z) hd (rel.drop k) dd')
/-- d.pop(k, x), not there -/
theorem d_popD {r : Value} {Q : Value → Shared → Prop} (I : Inv X pins σ H s) (e : H a = some (.dK kvs)) (ry : RelV (kV k) u) (l : valV kvs k = none) (h : ∀ s', Inv X pins σ H s' → Q r s') :
    wpAny (model X.prog X.w) A (call (.builtin "dict.pop") [.ref a, u, r]) Q E s := by
  obtain ⟨z, hd, vs, rel, dd⟩ := dk_of I.hok e
  have hn : valueAt vs k = none := RelO.none_of (by rw [← l]; exact rel.val k)
  have hp : (keyPart u).isSome = true := by
    cases k with
    | inl i => obtain ⟨t, q⟩ := (show ∃ t, u = Value.int i t from ry); subst q; rfl
    | inr x => obtain ⟨t, q⟩ := (show ∃ t, u = Value.str x t from ry); subst q; rfl
  exact call_meetsIn PySem.F.slot_dict_pop dd.typeIs PySem.F.entry_dict_pop (PySem.F.args_dict_pop_3 _ _ _) (meets_dict_pop_default (mixKind X.prog X.w) a (kV_is ry) hd hp r) ⟨vs, dd, hn, h _ (I.tok _)⟩
/-- d.clear() -/
theorem d_clear {Q : Value → Shared → Prop} (I : Inv X pins σ H s) (e : H a = some (.dK kvs)) (h : ∀ s', Inv X pins σ (upd H a (.dK [])) s' → Q .none s') : wpAny (model X.prog X.w) A (call (.builtin "dict.clear") [.ref a]) Q E s := by
  obtain ⟨z, hd, vs, rel, dd⟩ := dk_of I.hok e
  refine call_meetsIn PySem.F.slot_dict_clear dd.typeIs PySem.F.entry_dict_clear (PySem.F.args_dict_clear_1 _) (meets_dict_clear (mixKind X.prog X.w) a) ⟨vs, dd, by rw [← rel.length]; exact z, fun h' dd' hs => h _ ?_⟩
  have he : ∃ q, h'.get? a = some q := let ⟨q, _, _, hq, _⟩ := dd'; ⟨q, hq⟩
  exact d_write (t' := s.toks) I (by rw [e]; exact True.intro) hs he (dk_new (Nat.zero_le _) hd .nil dd')
/-- len(d) -/
theorem d_len {Q : Value → Shared → Prop} (I : Inv X pins σ H s) (e : Rd H a (.dK kvs)) (h : ∀ t s', Inv X pins σ H s' → Q (.int kvs.length t) s') : wpAny (model X.prog X.w) A (call (.builtin "len") [.ref a]) Q E s := by
  obtain ⟨z, hd, vs, rel, dd⟩ := dk_rd I.hok e
  refine call_len_dict hd dd (by rw [← rel.length]; rw [sizeLine_eq] at z; omega) ?_
  rw [← rel.length]
  exact h _ _ (I.tok _)
/-- if d -/
theorem d_truth {Q : Bool → Shared → Prop} (I : Inv X pins σ H s) (e : Rd H a (.dK kvs)) (h : ∀ s', Inv X pins σ H s' → Q (!kvs.isEmpty) s') : wpAny (model X.prog X.w) A (truthy (.ref a)) Q E s := by
  obtain ⟨z, hd, vs, rel, dd⟩ := dk_rd I.hok e
  refine wpAny_truthy_dict hd dd (by rw [← rel.length]; rw [sizeLine_eq] at z; omega) ?_
  have q : kvs.isEmpty = vs.isEmpty := by cases rel <;> rfl
  rw [← q]
  exact h _ (I.tok _)
end


/-! ### readings and rules -/
/-- the element of a subscription, not a slice -/
def NoSl (i : Expr) : Prop := ∀ ov iv, subscripted i false ov iv = operate [ov, iv] (getItem ov iv)
theorem subD_of {prog : Program} {w : World} {A : Around} {E : Value → Shared → Prop} {s : Shared} {env : Env} {value slice : Expr} {pos : Pos} {T id : String} {Q : Value → Shared → Prop}
    (hl : typeLookup (.type T) "__getitem__" = pure (some (.builtin id))) (hs : NoSl slice)
    (h : wpAny (model prog w) A (eval value env) (fun o s₁ => wpAny (model prog w) A (eval slice env) (fun i s₂ => s₂.TypeIs o T ∧ wpAny (model prog w) A (getItem o i) Q E s₂) E s₁) E s) :
    wpAny (model prog w) A (eval (.Subscript value slice pos) env) Q E s := by
  refine Subscript_ (wpAny_mono h (fun o s₁ h₁ => wpAny_mono h₁ (fun i s₂ h₂ => ?_) fun _ _ x => x) fun _ _ x => x)
  obtain ⟨hT, h₂⟩ := h₂
  unfold subscriptTail
  refine wpAny_bind ?_
  rw [getitemInPython_of_ne hT.not_modules]
  refine wpAny_bind (wpAny_specialOf hT hl ?_)
  have fin : wpAny (model prog w) A (subscripted slice false o i) (fun r s₃ => wpAny (model prog w) A (letTemporaryGo value o r >>= fun _ => pure r) Q E s₃) E s₂ := by
    rw [hs o i]
    exact wpAny_operating (wpAny_mono h₂ (fun r s₃ h₃ => wpAny_bind (wpAny_letTemporaryGo (wpAny_pure h₃))) fun _ _ x => x)
  first
    | exact wpAny_pure (wpAny_bind fin)
    | exact wpAny_bind (wpAny_pure (wpAny_bind fin))
    | exact wpAny_bind fin

theorem dict_typeIs {X : Cx} {pins : List (Addr × Obj)} {σ : St} {H : Hp} {s : Shared} {a : Addr} {y : V} {o : Option V} (I : Inv X pins σ H s) (g : DGet H a y o) : s.TypeIs (.ref a) "dict" := by
  rcases g with ⟨kvs, k, e, _, _⟩ | ⟨kvs, k, b, e, _, _, _⟩
  · obtain ⟨_, _, vs, _, dd⟩ := dk_rd I.hok e
    exact dd.typeIs
  · obtain ⟨_, _, xs, _, dd⟩ := dt_rd I.hok e
    exact dd.typeIs
theorem dict_noDict {X : Cx} {pins : List (Addr × Obj)} {σ : St} {H : Hp} {s : Shared} {a : Addr} {y : V} {o : Option V} (I : Inv X pins σ H s) (g : DGet H a y o) :
    ∀ b, Value.ref a = .ref b → ∃ ob, s.heap.get? b = some ob ∧ ob.dict = none := fun b q => by
  cases q
  rcases g with ⟨kvs, k, e, _, _⟩ | ⟨kvs, k, b, e, _, _, _⟩
  · obtain ⟨_, _, vs, _, ob, _, _, h1, h2, _⟩ := dk_rd I.hok e
    exact ⟨ob, h1, h2.2.1⟩
  · obtain ⟨_, _, xs, _, ob, _, _, h1, h2, _⟩ := dt_rd I.hok e
    exact ⟨ob, h1, h2.2.1⟩

/-- d[y] -/
def tDGet (td ty : TE) : TE := fun σ H Q => td σ H fun x H1 => ty σ H1 fun y H2 => ∃ a v, x = .ref a ∧ DGet H2 a y (some v) ∧ Q v H2
/-- y in d, y not in d -/
def tDIn (ty td : TE) : TE := fun σ H Q => ty σ H fun y H1 => td σ H1 fun x H2 => ∃ a o, x = .ref a ∧ DGet H2 a y o ∧ Q (.bl o.isSome) H2
def tDNotIn (ty td : TE) : TE := fun σ H Q => ty σ H fun y H1 => td σ H1 fun x H2 => ∃ a o, x = .ref a ∧ DGet H2 a y o ∧ Q (.bl (!o.isSome)) H2
/-- d[y] = v -/
def sDPut (td ty tv : TE) : TS := fun D σ H => tv σ H fun v H1 => td σ H1 fun x H2 => ty σ H2 fun y H3 => ∃ a H4, x = .ref a ∧ DPut H3 a y v H4 ∧ D.nx σ H4
/-- d[y] op= v -/
def sDAug (td ty tv : TE) (rd : V → V → Hp → VK → Prop) : TS := fun D σ H => td σ H fun x H1 => ty σ H1 fun y H2 => ∃ a v, x = .ref a ∧ DGet H2 a y (some v) ∧
  tv σ H2 fun y2 H3 => rd v y2 H3 fun z H4 => ∃ H5, DPut H4 a y z H5 ∧ D.nx σ H5
/-- del d[y] -/
def sDDel (td ty : TE) : TS := fun D σ H => td σ H fun x H1 => ty σ H1 fun y H2 => ∃ a kvs k, x = .ref a ∧ H2 a = some (.dK kvs) ∧ y = kV k ∧ (valV kvs k).isSome = true ∧ D.nx σ (upd H2 a (.dK (dropK kvs k)))

section
variable {X : Cx} {o i e value : Expr} {pos pos' tpos : Pos} {td ty tv : TE}
theorem pe_dget (hu : X.A.units + 1 < cLine) (ho : PE X o td) (hi : PE X i ty) (hs : NoSl i) : PE X (.Subscript o i pos) (tDGet td ty) := by
  intro pins s σ H Q I h
  refine subD_of PySem.F.slot_dict_getitem.lookup hs (thn (ho pins s σ H _ I h) fun u s1 ⟨x, H1, I1, rx, q1⟩ => thn (hi pins s1 σ H1 _ I1 q1) fun iv s2 ⟨y, H2, I2, ry, a, v, ex, g, q2⟩ => ?_)
  subst ex
  obtain rfl : u = Value.ref a := rx
  exact ⟨dict_typeIs I2 g, d_getItem hu I2 g ry fun w' s3 I3 rw' => ⟨v, H2, I3, rw', q2⟩⟩
theorem pc_din (hu : X.A.units + 1 < cLine) (hi : PE X i ty) (ho : PE X o td) : PC X .In i o (tDIn ty td) := by
  intro pins s σ H Q I h
  refine thn (hi pins s σ H _ I h) fun iv s1 ⟨y, H1, I1, ry, q1⟩ => thn (ho pins s1 σ H1 _ I1 q1) fun u s2 ⟨x, H2, I2, rx, a, ov, ex, g, q2⟩ => ?_
  subst ex
  obtain rfl : u = Value.ref a := rx
  exact d_in hu I2 g ry fun s3 I3 => ⟨.bl ov.isSome, H2, I3, rfl, q2⟩
theorem pc_dnotin (hu : X.A.units + 1 < cLine) (hi : PE X i ty) (ho : PE X o td) : PC X .NotIn i o (tDNotIn ty td) := by
  intro pins s σ H Q I h
  refine thn (hi pins s σ H _ I h) fun iv s1 ⟨y, H1, I1, ry, q1⟩ => thn (ho pins s1 σ H1 _ I1 q1) fun u s2 ⟨x, H2, I2, rx, a, ov, ex, g, q2⟩ => ?_
  subst ex
  obtain rfl : u = Value.ref a := rx
  exact d_notIn hu I2 g ry fun s3 I3 => ⟨.bl (!ov.isSome), H2, I3, rfl, q2⟩
theorem ps_dput (hu : X.A.units + 1 < cLine) (ho : PE X o td) (hi : PE X i ty) (hv : PE X value tv) (hs : swapsWith value (some (.Subscript o i pos')) pos.line X.env = pure false) :
    PS X (.Assign [.Subscript o i pos'] value pos) (sDPut td ty tv) := by
  intro pins s σ H D I h
  refine wpAny_Assign_Subscript (thn (hv pins s σ H _ I h) fun r s1 ⟨v, H1, I1, rv, q1⟩ => thn (ho pins s1 σ H1 _ I1 q1) fun u s2 ⟨x, H2, I2, rx, q2⟩ => thn (hi pins s2 σ H2 _ I2 q2) fun iv s3 ⟨y, H3, I3, ry, a, H4, ex, g, q3⟩ => ?_) hs
  subst ex
  obtain rfl : u = Value.ref a := rx
  exact d_setItem hu I3 g ry rv fun s4 I4 => ⟨σ, H4, I4, q3⟩
theorem ps_daug {op : Operator} {rd : V → V → Hp → VK → Prop} (hu : X.A.units + 1 < cLine) (ho : PE X o td) (hi : PE X i ty) (hv : PE X value tv) (hop : InOp X op rd)
    (ha : ∀ ov iv new, augStore i ov iv new = (do holding [new, ov, iv] (setItem ov iv new); release [new, ov, iv] []; pure .next)) : PS X (.AugAssign (.Subscript o i tpos) op value pos) (sDAug td ty tv rd) := by
  intro pins s σ H D I h
  refine wpAny_AugAssign_SubscriptAny (thn (ho pins s σ H _ I h) fun u s1 ⟨x, H1, I1, rx, q1⟩ => thn (hi pins s1 σ H1 _ I1 q1) fun iv s2 ⟨y, H2, I2, ry, a, v, ex, g, q2⟩ => ?_) ha
  subst ex
  obtain rfl : u = Value.ref a := rx
  refine d_getItem hu I2 g ry fun w' s3 I3 rw' => thn (hv pins s3 σ H2 _ I3 q2) fun w2 s4 ⟨y2, H3, I4, ry2, q3⟩ => thn (hop pins s4 σ H3 v y2 w' w2 _ I4 rw' ry2 q3) fun w3 s5 ⟨z, H4, I5, rz, H5, g5, q4⟩ => ?_
  exact d_setItem hu I5 g5 ry rz fun s6 I6 => ⟨σ, H5, I6, q4⟩
theorem ps_ddel (ho : PE X o td) (hi : PE X i ty) : PS X (.Delete [.Subscript o i tpos] pos) (sDDel td ty) := by
  intro pins s σ H D I h
  refine wpAny_Delete (wpAny_deleteEach_cons (wpAny_delete_Subscript (thn (ho pins s σ H _ I h) fun u s1 ⟨x, H1, I1, rx, q1⟩ => thn (hi pins s1 σ H1 _ I1 q1) fun iv s2 ⟨y, H2, I2, ry, a, kvs, k, ex, e, ey, l, q2⟩ => ?_)))
  subst ex ey
  obtain rfl : u = Value.ref a := rx
  exact d_delItem I2 e ry l fun s3 I3 => wpAny_deleteEach_nil ⟨σ, _, I3, q2⟩
end


/-! ### displays -/
theorem dk_empty {P : Program} {w : World} {H : Hp} (h : Heap) (hb : sysModules < h.objs.size) : ObjOk P w H (h.push { cls := .type "dict", data := .dict #[] }) h.objs.size (.dK []) :=
  ⟨Nat.zero_le _, beq_eq_false_iff_ne.mpr (Ne.symm (Nat.ne_of_lt hb)), [], .nil, Heap.DictOf.new h⟩
theorem dt_empty {P : Program} {w : World} {H : Hp} (h : Heap) (hb : sysModules < h.objs.size) : ObjOk P w H (h.push { cls := .type "dict", data := .dict #[] }) h.objs.size (.dT []) :=
  ⟨Nat.zero_le _, beq_eq_false_iff_ne.mpr (Ne.symm (Nat.ne_of_lt hb)), [], .nil, _, #[], 0, Heap.get?_push_size _ rfl, ⟨rfl, rfl, rfl⟩, rfl, rfl, List.nodup_nil⟩
/-- {}, to be a dict of the kind that is wanted -/
def tDNewK : TE := fun _ H Q => ∀ p, H p = none → Q (.ref p) (upd H p (.dK []))
def tDNewT : TE := fun _ H Q => ∀ p, H p = none → Q (.ref p) (upd H p (.dT []))
section
variable {X : Cx} {pos : Pos}
theorem pe_dnewK : PE X (.Dict [] [] pos) tDNewK := fun pins s σ H Q I h =>
  wpAny_Dict_empty ⟨.ref s.heap.objs.size, _, I.laid (a := s.heap.objs.size) (o := .dK []) (t' := s.toks) (fun _ _ q => Heap.get?_push_of_some _ q) (Nat.le_refl _) (dk_empty s.heap I.big), rfl, h _ (I.hok.fresh (Nat.le_refl _))⟩
theorem pe_dnewT : PE X (.Dict [] [] pos) tDNewT := fun pins s σ H Q I h =>
  wpAny_Dict_empty ⟨.ref s.heap.objs.size, _, I.laid (a := s.heap.objs.size) (o := .dT []) (t' := s.toks) (fun _ _ q => Heap.get?_push_of_some _ q) (Nat.le_refl _) (dt_empty s.heap I.big), rfl, h _ (I.hok.fresh (Nat.le_refl _))⟩
end

/-- the pairs of a display, from the left -/
def tPairs : List (TE × TE) → St → Hp → (List (V × V) → Hp → Prop) → Prop
  | [], _, H, Q => Q [] H
  | (tk, tv) :: r, σ, H, Q => tk σ H fun x H1 => tv σ H1 fun y H2 => tPairs r σ H2 fun ps H3 => Q ((x, y) :: ps) H3
abbrev VV : List (V × V) → List (Value × Value) → Prop := Paired fun p q => RelV p.1 q.1 ∧ RelV p.2 q.2
def PPs (X : Cx) (pos : Pos) (keys : List (Option Expr)) (values : List Expr) (trs : List (TE × TE)) : Prop :=
  ∀ (pins : List (Addr × Obj)) (s : Shared) (σ : St) (H : Hp) (Q : List (V × V) → Hp → Prop), Inv X pins σ H s → tPairs trs σ H Q →
    wpAny (model X.prog X.w) X.A (evalPairs (pairTrees keys values X.env pos)) (fun vs s' => ∃ ps H', Inv X pins σ H' s' ∧ VV ps vs ∧ Q ps H') X.xe s
theorem pps_nil {X : Cx} {pos : Pos} : PPs X pos [] [] [] := fun pins s σ H Q I h => pairTrees_nil_walk ⟨[], H, I, .nil, h⟩
theorem pps_cons {X : Cx} {pos : Pos} {k v : Expr} {ks : List (Option Expr)} {vs : List Expr} {tk tv : TE} {trs : List (TE × TE)} (hk : PE X k tk) (hv : PE X v tv) (hr : PPs X pos ks vs trs) :
    PPs X pos (some k :: ks) (v :: vs) ((tk, tv) :: trs) := fun pins s σ H Q I h =>
  pairTrees_cons_walk (thn (hk pins s σ H _ I h) fun u s1 ⟨x, H1, I1, rx, q1⟩ => thn (hv pins s1 σ H1 _ I1 q1) fun w2 s2 ⟨y, H2, I2, ry, q2⟩ =>
    thn (hr pins s2 σ H2 _ I2 q2) fun ws s3 ⟨ps, H3, I3, rel, q3⟩ => ⟨(x, y) :: ps, H3, I3, .cons ⟨rx, ry⟩ rel, q3⟩)

def mergeK (kvs more : List (Key × V)) : List (Key × V) := more.foldl (fun acc kv => putK acc kv.1 kv.2) kvs
theorem KV.merge : ∀ {more : List (Key × V)} {rs : List (Key × Value)} {kvs : List (Key × V)} {vs : List (Key × Value)}, KV more rs → KV kvs vs → KV (mergeK kvs more) (merged vs rs) := by
  intro more rs kvs vs r
  unfold KV at r
  induction r generalizing kvs vs with
  | nil => intro q; exact q
  | @cons p q ps qs h t ih =>
    intro r0
    have e : KV (putK kvs p.1 p.2) (stored vs q.1 q.2) := by
      have := r0.put p.1 h.2
      rw [← h.1]; exact this
    exact ih e
theorem length_mergeK : ∀ (more kvs : List (Key × V)), (mergeK kvs more).length ≤ kvs.length + more.length
  | [], kvs => by show kvs.length ≤ kvs.length + 0; omega
  | p :: r, kvs => by
    have h1 := length_mergeK r (putK kvs p.1 p.2)
    have h2 := length_putK kvs p.1 p.2
    show (mergeK (putK kvs p.1 p.2) r).length ≤ _
    rw [List.length_cons]; omega
theorem carries_of {P : Program} {w : World} : ∀ {kvs : List (Key × V)} {ws : List (Value × Value)}, VV (kvs.map fun kv => (kV kv.1, kv.2)) ws → ∃ rs, Carries (mixKind P w) ws rs ∧ KV kvs rs
  | [], _, r => by rw [List.map_nil] at r; cases r; exact ⟨[], True.intro, .nil⟩
  | p :: kvs, _, r => by
    rw [List.map_cons] at r
    cases r with
    | @cons a b as bs h t =>
      obtain ⟨rs, c, q⟩ := carries_of (P := P) (w := w) t
      obtain ⟨b1, b2⟩ := b
      exact ⟨(p.1, b2) :: rs, ⟨kV_is h.1, rfl, c⟩, .cons ⟨rfl, h.2⟩ q⟩
/-- {k: v, ..} with keys ints and texts; the new dict stands empty while the pairs are made -/
def tDisp (trs : List (TE × TE)) : TE := fun σ H Q => ∀ p, H p = none → tPairs trs σ (upd H p (.dK [])) fun ps H2 => H2 p = some (.dK []) ∧ ∃ kvs : List (Key × V), ps = kvs.map (fun kv => (kV kv.1, kv.2)) ∧ kvs.length ≤ 15 ∧ Q (.ref p) (upd H2 p (.dK (mergeK [] kvs)))
theorem pe_disp {X : Cx} {pos : Pos} {keys : List (Option Expr)} {values : List Expr} {trs : List (TE × TE)} (h : PPs X pos keys values trs) (hall : keys.all (·.isSome) = true) (hl : keys.length = values.length) (h0 : keys ≠ [])
    (h15 : keys.length ≤ 15) : PE X (.Dict keys values pos) (tDisp trs) := by
  intro pins s σ H Q I q
  have hn := I.hok.fresh (Nat.le_refl s.heap.objs.size)
  have I1 := I.laid (a := s.heap.objs.size) (o := .dK []) (h' := s.heap.push { cls := .type "dict", data := .dict #[] }) (t' := s.toks) (fun _ _ q => Heap.get?_push_of_some _ q) (Nat.le_refl _) (dk_empty s.heap I.big)
  refine wpAny_Dict_walk (knd := mixKind X.prog X.w) hall hl h0 h15 (thn (h pins _ σ _ _ I1 (q _ hn)) fun ws s2 ⟨ps, H2, I2, rel, e, kvs, ep, lk, q2⟩ => ?_)
  subst ep
  obtain ⟨rs, c, rk⟩ := carries_of (P := X.prog) (w := X.w) rel
  obtain ⟨z, hd, vs0, r0, dd⟩ := dk_of I2.hok e
  cases r0
  refine ⟨rs, c, dd, fun h' dd' hs => ⟨.ref s.heap.objs.size, _, ?_, rfl, q2⟩⟩
  have hz : (mergeK [] kvs).length ≤ sizeLine := by
    have h1 := length_mergeK kvs []
    rw [List.length_nil] at h1
    rw [sizeLine_eq]; omega
  have he : ∃ q, h'.get? s.heap.objs.size = some q := let ⟨q, _, _, hq, _⟩ := dd'; ⟨q, hq⟩
  exact d_write I2 (by rw [e]; exact True.intro) hs he (dk_new hz hd (rk.merge .nil) dd')


/-! ### methods -/
/-- a method call o.m(e) of a built-in, with one argument: what must be seen of the text -/
structure M1 (X : Cx) (o : Expr) (m : Str) (apos : Pos) (e : Expr) (cpos : Pos) : Prop where
  base : attributeBase o m X.env (eval o X.env) = eval o X.env
  few : ((backTo cpos (starEach [e] X.env)).all (fun x => !x.1) && (backToKw cpos (keywordEach [] X.env)).all (fun x => x.1.isSome)
    && decide (([e] : List Expr).length + ([] : List Keyword).length + (if ([] : List Keyword).isEmpty then 0 else 1) < 30)) = true
  line : (apos.endLine == cpos.line) = true
  trees : backTo cpos (starEach [e] X.env) = [(false, eval e X.env)]
structure M2 (X : Cx) (o : Expr) (m : Str) (apos : Pos) (e f : Expr) (cpos : Pos) : Prop where
  base : attributeBase o m X.env (eval o X.env) = eval o X.env
  few : ((backTo cpos (starEach [e, f] X.env)).all (fun x => !x.1) && (backToKw cpos (keywordEach [] X.env)).all (fun x => x.1.isSome)
    && decide (([e, f] : List Expr).length + ([] : List Keyword).length + (if ([] : List Keyword).isEmpty then 0 else 1) < 30)) = true
  line : (apos.endLine == cpos.line) = true
  trees : backTo cpos (starEach [e, f] X.env) = [(false, eval e X.env), (false, eval f X.env)]

/-- a is a dict, whatever its keys -/
def IsD (H : Hp) (a : Addr) : Prop := (∃ kvs, Rd H a (.dK kvs)) ∨ ∃ kvs, Rd H a (.dT kvs)
theorem isD_at {X : Cx} {pins : List (Addr × Obj)} {σ : St} {H : Hp} {s : Shared} {a : Addr} (I : Inv X pins σ H s) (d : IsD H a) :
    s.TypeIs (.ref a) "dict" ∧ (∀ b, Value.ref a = .ref b → ∃ ob, s.heap.get? b = some ob ∧ ob.dict = none) ∧ (a == sysModules) = false := by
  rcases d with ⟨kvs, e⟩ | ⟨kvs, e⟩
  · obtain ⟨_, hd, vs, _, dd⟩ := dk_rd I.hok e
    refine ⟨dd.typeIs, fun b q => ?_, hd⟩
    cases q
    obtain ⟨ob, _, _, h1, h2, _⟩ := dd
    exact ⟨ob, h1, h2.2.1⟩
  · obtain ⟨_, hd, xs, _, dd⟩ := dt_rd I.hok e
    refine ⟨dd.typeIs, fun b q => ?_, hd⟩
    cases q
    obtain ⟨ob, _, _, h1, h2, _⟩ := dd
    exact ⟨ob, h1, h2.2.1⟩

section
variable {X : Cx} {pins : List (Addr × Obj)} {σ : St} {H : Hp} {s : Shared} {a : Addr} {y d : V} {u r : Value} {o : Option V} {A : Around} {E : Value → Shared → Prop}
/-- d.get(y) -/
theorem d_get1 {Q : Value → Shared → Prop} (hu : A.units + 1 < cLine) (I : Inv X pins σ H s) (g : DGet H a y o) (ry : RelV y u) (h : ∀ w' s', Inv X pins σ H s' → RelV (o.getD .non) w' → Q w' s') :
    wpAny (model X.prog X.w) A (call (.builtin "dict.get") [.ref a, u]) Q E s := by
  rcases g with ⟨kvs, k, e, ey, l⟩ | ⟨kvs, k, b, e, ey, eb, l⟩
  · subst ey
    obtain ⟨z, hd, vs, rel, dd⟩ := dk_rd I.hok e
    refine call_meetsIn PySem.F.slot_dict_get dd.typeIs PySem.F.entry_dict_get (PySem.F.args_dict_get_2 _ _) (meets_dict_get (mixKind X.prog X.w) a (kV_is ry) hd) ⟨_, dd.mapOf, h _ _ (I.tok _) ?_⟩
    rw [l]
    exact (rel.val k).getD rfl
  · subst ey
    cases (show u = Value.ref b from ry)
    obtain ⟨z, hd, xs, rel, dd⟩ := dt_rd I.hok e
    refine call_meetsIn PySem.F.slot_dict_get dd.typeIs PySem.F.entry_dict_get (PySem.F.args_dict_get_2 _ _) (meetsH_dict_get (tupleKind (mixKind X.prog X.w)) a b hd) ⟨tupleKind_room_in1 hu, k, xs, key_of I.hok eb, dd, h _ _ (I.tok _) ?_⟩
    rw [l]
    exact (rel.val k).getD rfl
/-- d.get(y, x) -/
theorem d_get2 {Q : Value → Shared → Prop} (hu : A.units + 1 < cLine) (I : Inv X pins σ H s) (g : DGet H a y o) (ry : RelV y u) (rd : RelV d r) (h : ∀ w' s', Inv X pins σ H s' → RelV (o.getD d) w' → Q w' s') :
    wpAny (model X.prog X.w) A (call (.builtin "dict.get") [.ref a, u, r]) Q E s := by
  rcases g with ⟨kvs, k, e, ey, l⟩ | ⟨kvs, k, b, e, ey, eb, l⟩
  · subst ey
    obtain ⟨z, hd, vs, rel, dd⟩ := dk_rd I.hok e
    refine call_meetsIn PySem.F.slot_dict_get dd.typeIs PySem.F.entry_dict_get (PySem.F.args_dict_get_3 _ _ _) (meets_dict_get_default (mixKind X.prog X.w) a (kV_is ry) hd r) ⟨_, dd.mapOf, h _ _ (I.tok _) ?_⟩
    rw [l]
    exact (rel.val k).getD rd
  · subst ey
    cases (show u = Value.ref b from ry)
    obtain ⟨z, hd, xs, rel, dd⟩ := dt_rd I.hok e
    refine call_meetsIn PySem.F.slot_dict_get dd.typeIs PySem.F.entry_dict_get (PySem.F.args_dict_get_3 _ _ _) (meetsH_dict_get_default (tupleKind (mixKind X.prog X.w)) a b hd r) ⟨tupleKind_room_in1 hu, k, xs, key_of I.hok eb, dd, h _ _ (I.tok _) ?_⟩
    rw [l]
    exact (rel.val k).getD rd
end

def tDGet1 (td ty : TE) : TE := fun σ H Q => td σ H fun x H1 => ∃ a, x = .ref a ∧ IsD H1 a ∧ ty σ H1 fun y H2 => ∃ o, DGet H2 a y o ∧ Q (o.getD .non) H2
def tDGet2 (td ty tx : TE) : TE := fun σ H Q => td σ H fun x H1 => ∃ a, x = .ref a ∧ IsD H1 a ∧ ty σ H1 fun y H2 => tx σ H2 fun z H3 => ∃ o, DGet H3 a y o ∧ Q (o.getD z) H3
/-- d.pop(k): there; d.pop(k, x): there or not -/
def tDPop1 (td ty : TE) : TE := fun σ H Q => td σ H fun x H1 => ∃ a, x = .ref a ∧ IsD H1 a ∧ ty σ H1 fun y H2 => ∃ kvs k v, H2 a = some (.dK kvs) ∧ y = kV k ∧ valV kvs k = some v ∧ Q v (upd H2 a (.dK (dropK kvs k)))
def tDPop2 (td ty tx : TE) : TE := fun σ H Q => td σ H fun x H1 => ∃ a, x = .ref a ∧ IsD H1 a ∧ ty σ H1 fun y H2 => tx σ H2 fun z H3 => ∃ kvs k, H3 a = some (.dK kvs) ∧ y = kV k ∧
  (∀ v, valV kvs k = some v → Q v (upd H3 a (.dK (dropK kvs k)))) ∧ (valV kvs k = none → Q z H3)
section
variable {X : Cx} {o e f : Expr} {apos cpos : Pos} {td ty tx : TE}
theorem pe_dget1 (hu : X.A.units + 1 < cLine) (ho : PE X o td) (he : PE X e ty) (m : M1 X o "get" apos e cpos) : PE X (.Call (.Attribute o "get" apos) [e] [] cpos) (tDGet1 td ty) := by
  intro pins s σ H Q I h
  refine wpAny_Call_method m.base m.few m.line PySem.F.plainAttrs_dict PySem.F.slot_dict_get PySem.F.type_dict_get (thn (ho pins s σ H _ I h) fun u s1 ⟨x, H1, I1, rx, a, ex, d, q1⟩ => ?_)
  subst ex
  obtain rfl : u = Value.ref a := rx
  obtain ⟨t1, t2, _⟩ := isD_at I1 d
  refine ⟨t1, t2, ?_⟩
  rw [m.trees]
  refine Calls.callWith_builtin rfl (Calls.evalArgs_plain (Calls.spliced_cons (thn (he pins s1 σ H1 _ I1 q1) fun iv s2 ⟨y, H2, I2, ry, ov, g, q2⟩ => Calls.spliced_nil ?_)))
  exact d_get1 hu I2 g ry fun w' s3 I3 rw' => ⟨_, H2, I3, rw', q2⟩
theorem pe_dget2 (hu : X.A.units + 1 < cLine) (ho : PE X o td) (he : PE X e ty) (hf : PE X f tx) (m : M2 X o "get" apos e f cpos) : PE X (.Call (.Attribute o "get" apos) [e, f] [] cpos) (tDGet2 td ty tx) := by
  intro pins s σ H Q I h
  refine wpAny_Call_method m.base m.few m.line PySem.F.plainAttrs_dict PySem.F.slot_dict_get PySem.F.type_dict_get (thn (ho pins s σ H _ I h) fun u s1 ⟨x, H1, I1, rx, a, ex, d, q1⟩ => ?_)
  subst ex
  obtain rfl : u = Value.ref a := rx
  obtain ⟨t1, t2, _⟩ := isD_at I1 d
  refine ⟨t1, t2, ?_⟩
  rw [m.trees]
  refine Calls.callWith_builtin rfl (Calls.evalArgs_plain (Calls.spliced_cons (thn (he pins s1 σ H1 _ I1 q1) fun iv s2 ⟨y, H2, I2, ry, q2⟩ =>
    Calls.spliced_cons (thn (hf pins s2 σ H2 _ I2 q2) fun fv s3 ⟨z, H3, I3, rz, ov, g, q3⟩ => Calls.spliced_nil ?_))))
  exact d_get2 hu I3 g ry rz fun w' s4 I4 rw' => ⟨_, H3, I4, rw', q3⟩
theorem pe_dpop1 (ho : PE X o td) (he : PE X e ty) (m : M1 X o "pop" apos e cpos) : PE X (.Call (.Attribute o "pop" apos) [e] [] cpos) (tDPop1 td ty) := by
  intro pins s σ H Q I h
  refine wpAny_Call_method m.base m.few m.line PySem.F.plainAttrs_dict PySem.F.slot_dict_pop PySem.F.type_dict_pop (thn (ho pins s σ H _ I h) fun u s1 ⟨x, H1, I1, rx, a, ex, d, q1⟩ => ?_)
  subst ex
  obtain rfl : u = Value.ref a := rx
  obtain ⟨t1, t2, _⟩ := isD_at I1 d
  refine ⟨t1, t2, ?_⟩
  rw [m.trees]
  refine Calls.callWith_builtin rfl (Calls.evalArgs_plain (Calls.spliced_cons (thn (he pins s1 σ H1 _ I1 q1) fun iv s2 ⟨y, H2, I2, ry, kvs, k, v, ea, ey, l, q2⟩ => Calls.spliced_nil ?_)))
  subst ey
  exact d_pop I2 ea ry l (.inl rfl) fun w' s3 I3 rw' => ⟨v, _, I3, rw', q2⟩
theorem pe_dpop2 (ho : PE X o td) (he : PE X e ty) (hf : PE X f tx) (m : M2 X o "pop" apos e f cpos) : PE X (.Call (.Attribute o "pop" apos) [e, f] [] cpos) (tDPop2 td ty tx) := by
  intro pins s σ H Q I h
  refine wpAny_Call_method m.base m.few m.line PySem.F.plainAttrs_dict PySem.F.slot_dict_pop PySem.F.type_dict_pop (thn (ho pins s σ H _ I h) fun u s1 ⟨x, H1, I1, rx, a, ex, d, q1⟩ => ?_)
  subst ex
  obtain rfl : u = Value.ref a := rx
  obtain ⟨t1, t2, _⟩ := isD_at I1 d
  refine ⟨t1, t2, ?_⟩
  rw [m.trees]
  refine Calls.callWith_builtin rfl (Calls.evalArgs_plain (Calls.spliced_cons (thn (he pins s1 σ H1 _ I1 q1) fun iv s2 ⟨y, H2, I2, ry, q2⟩ =>
    Calls.spliced_cons (thn (hf pins s2 σ H2 _ I2 q2) fun fv s3 ⟨z, H3, I3, rz, kvs, k, ea, ey, q3, q4⟩ => Calls.spliced_nil ?_))))
  subst ey
  cases l : valV kvs k with
  | some v => exact d_pop I3 ea ry l (.inr ⟨fv, rfl⟩) fun w' s4 I4 rw' => ⟨v, _, I4, rw', q3 v l⟩
  | none => exact d_popD I3 ea ry l fun s4 I4 => ⟨z, H3, I4, rz, q4 l⟩
end

/-! ### dict(d): a copy -/
section
variable {X : Cx} {pins : List (Addr × Obj)} {σ : St} {H : Hp} {s : Shared} {a : Addr} {kvs : List (Key × V)} {A : Around} {E : Value → Shared → Prop}
theorem d_copyOf {Q : Value → Shared → Prop} (I : Inv X pins σ H s) (e : Rd H a (.dK kvs)) (h : ∀ p s', H p = none → Inv X pins σ (upd H p (.dK kvs)) s' → Q (.ref p) s') : wpAny (model X.prog X.w) A (call (.type "dict") [.ref a]) Q E s := by
  obtain ⟨z, hd, vs, rel, dd⟩ := dk_rd I.hok e
  refine kt_call_dict hd dd (by rw [← rel.length]; exact z) fun h' dd' hs => ?_
  refine h _ _ (I.hok.fresh (Nat.le_refl _)) (I.laid (a := s.heap.objs.size) (o := .dK kvs) (t' := s.toks) (fun b q hq => ?_) (Nat.le_refl _) (dk_new z (beq_eq_false_iff_ne.mpr (Ne.symm (Nat.ne_of_lt I.big))) rel dd'))
  exact (hs.2 b (Nat.ne_of_lt (Heap.lt_size hq))).trans (Heap.get?_push_of_some _ hq)
end


section
variable {X : Cx} {pins : List (Addr × Obj)} {σ : St} {H : Hp} {s : Shared} {a : Addr} {y : V} {u : Value} {A : Around} {E : Value → Shared → Prop}
/-- d[y], not there: a KeyError -/
theorem d_missing {Q : Value → Shared → Prop} (hu : A.units + 1 < cLine) (hh : A.handled = none) (I : Inv X pins σ H s) (g : DGet H a y none) (ry : RelV y u)
    (h : ∀ h' e t', Heap.NewExc s.heap h' e "KeyError" → E (.ref e) { s with heap := h', toks := t' }) : wpAny (model X.prog X.w) A (getItem (.ref a) u) Q E s := by
  rcases g with ⟨kvs, k, e, ey, l⟩ | ⟨kvs, k, b, e, ey, eb, l⟩
  · subst ey
    obtain ⟨z, hd, vs, rel, dd⟩ := dk_rd I.hok e
    have hn : valueAt vs k = none := RelO.none_of (by rw [l]; exact rel.val k)
    exact wpAny_getItem_missing_of (kV_is ry) hd hh dd.mapOf hn fun h' ex ne => h h' ex _ ne
  · subst ey
    cases (show u = Value.ref b from ry)
    obtain ⟨z, hd, xs, rel, dd⟩ := dt_rd I.hok e
    have hn : (atKey xs k).map (·.2) = none := RelO.none_of (by rw [l]; exact rel.val k)
    exact wpAny_getItem_missing_heap (tupleKind_room_in1 hu) (key_of I.hok eb) hd hh dd (Option.map_eq_none_iff.mp hn) fun h' ex ne => h h' ex _ ne
end
end L2
namespace Att
open PySem PySem.W PySem.Calls PyProof.Rows

/-! ### the script -/
theorem ints_of_wellAll {P : Params} {h : Heap} : ∀ (ns : List Int) (vs : List Value), WellAll P h vs (ns.map WData.int) → IntsAre vs ns := by
  intro ns
  induction ns with
  | nil =>
    intro vs w
    rw [List.map_nil] at w
    cases w
    exact .nil
  | cons n ns ih =>
    intro vs w
    rw [List.map_cons] at w
    cases w with
    | cons a b =>
      cases a
      exact .cons _ _ (ih _ b)

theorem script_of {l : OpenLaw} {n : Nat} (hn : l.most = some n) {P : Params} {h : Heap} {args : List WData} {vals : List Value}
    (hpre : l.row.toRowW.claim.pre args = true) (hwl : WellAll P h vals args) :
    ∃ a vs ns, vals = [Value.ref a] ∧ args = [WData.list (ns.map WData.int)] ∧ h.get? a = some { cls := .type "list", data := .seq vs.toArray } ∧ IntsAre vs ns ∧ ns.length ≤ n := by
  have hsh : WShape.hasAll [] args [.list .int] = true := (pre_splitW hpre).1
  have hc : l.pre.holds [] { args := args } = true := (pre_splitW hpre).2
  obtain ⟨d, r, rfl, h1, h2⟩ := hasAllW_cons hsh
  obtain rfl := hasAllW_nil h2
  obtain ⟨xs, rfl, h3⟩ := hasW_list h1
  obtain ⟨ns, rfl⟩ := items_int h3
  have hlen : ns.length ≤ n := by
    unfold OpenLaw.pre at hc
    have h4 : (WTm.not (.lt (.lit (.int (n : Int))) (.len (.arg 0)))).holds [] { args := [.list (ns.map .int)] } = true := by
      have h4 := (holds_andW hc).1
      rw [hn] at h4
      exact h4
    have h5 := condW_of h4 (w_not (w_lt w_lit (w_len_list (w_arg rfl))))
    rw [List.length_map] at h5
    refine Nat.le_of_not_lt fun q => ?_
    have q' : (n : Int) < ((ns.length : Nat) : Int) := by omega
    first
      | (rw [decide_eq_true q'] at h5; exact absurd h5 (by decide))
      | (simp at h5; omega)
  cases hwl with
  | cons w1 w2 =>
    cases w2
    cases w1 with
    | list ho hall => exact ⟨_, _, ns, rfl, rfl, ho, ints_of_wellAll ns _ hall, hlen⟩

theorem post_true (l : OpenLaw) (args : List WData) : l.row.toRowW.claim.post args (.bool true) args = true :=
  postW_of (r := l.row.toRowW) (X := (true == true))
    (show WShape.has [] (.bool true) .bool = true by first | rfl | decide | simp [WShape.has, WShape.arms, WShape.armsAll])
    (show (WTm.eq .res (.lit (.bool true))).value [] { args := args, res := some (.bool true), after := args } = some (.bool (true == true)) from w_eq_bool (w_res rfl) w_lit) rfl

/-! ### the attachment: holds_open's last premise (the goal 'hc' behind k_head) from a wpAny of the law's body -/
theorem attach {l : OpenLaw} {n : Nat} {q : Program} {loose : List Str} {XP : (Str → Option Value) → Heap → Prop} {YP : World → Heap → Prop} {d : DefRec} {x : Str}
    (hn : l.most = some n) (hdf : d.params.defaults = [])
    (hbind : ∀ pm cd doc v : Value, bindArgs (docDef d.name d.params d.body d.scope pm cd doc) ⟨[v], []⟩ = pure [(x, v)])
    (hx : d.scope.names.lookup x = some .local ∨ d.scope.names.lookup x = some .cell)
    (hk : d.scope.kind = .function) (hco : d.scope.isCoroutine = false) (hgen : d.scope.isGenerator = false)
    (body : ∀ (w : World) (s₀ s₁ s : Shared) (mg mb : Str → Option Value) (fa : Addr) (o : Obj) (pm cd doc : Value) (a : Addr) (vs : List Value) (ns : List Int),
      Ground q loose [] XP w s₀ mg mb s₁.heap → YP w s₁.heap →
      s₁.heap.get? fa = some o → o.data = .func (docDef d.name d.params d.body d.scope pm cd doc) → s₁.heap.CodeRec cd d.name → mg d.name = some (.ref fa) →
      s₁.heap.get? a = some { cls := .type "list", data := .seq vs.toArray } → IntsAre vs ns → ns.length ≤ n →
      s.gens = #[] → s.os = s₁.os →
      Fr s₁.heap s₁.heap.objs.size s.heap (bindL (envOfC d.name d.scope s₁.heap.objs.size fa cd).kindOf [(x, .ref a)] fun _ => none) →
      Cl s₁.heap.objs.size (cellsFrom (s₁.heap.objs.size + 1) d.scope.names []) s.heap (bindC (envOfC d.name d.scope s₁.heap.objs.size fa cd).kindOf [(x, .ref a)] fun _ => none) →
      wpAny (model l.prog w) (callerA.deeper (envOfC d.name d.scope s₁.heap.objs.size fa cd)) (execs d.body (envOfC d.name d.scope s₁.heap.objs.size fa cd))
        (fun f s' => f = .ret (.bool true) ∧ OldK s₁.heap s'.heap ∧ s'.os = s₁.os ∧ AllBare s'.gens) (fun _ _ => False) s) :
    WalkO q loose XP YP l.row.toRowW d [] (fun f vs => PySem.call f vs) := by
  intro w s₀ s₁ mg mb G Y fa o pm cd doc dV kV ho hd hcd hD hmg hg args vals as hpre hlay hrd hwl hlo
  obtain rfl : dV = .none := Dflts.none hD hdf
  obtain rfl : kV = .none := Dflts.noKw hD
  obtain ⟨a, vs, ns, rfl, rfl, hobj, hints, hlen⟩ := script_of hn hpre hwl
  refine enter_call ?_
  refine call_cells_ret (o := o) (by rw [depth_caller]; decide) ho (fd_plain hd) G.T.nolimit hcd (hbind pm cd doc (.ref a)) (fun y hy => ?_) (fun h₁ tk F X => ?_) hco hgen hk
  · obtain rfl : y = (x, Value.ref a) := List.mem_singleton.mp hy
    rcases hx with e | e
    · exact .inl e
    · exact .inr ⟨e, cellsFrom_some _ _ _ (.inl e)⟩
  · refine wpAny_mono (body w s₀ s₁ { s₁ with heap := h₁, toks := tk } mg mb fa o pm cd doc a vs ns G Y ho (fd_plain hd) hcd hmg hobj hints hlen hg rfl F X) (fun f s' hq => ?_) (fun _ _ hq => hq)
    obtain ⟨rfl, h2, h3, h4⟩ := hq
    exact ⟨.inl ⟨.bool true, .bool true, [], rfl, fun _ => rfl, .bool true, post_true l _, fun _ => ⟨List.Pairwise.nil, fun _ hm => (nomatch hm)⟩⟩, h2, h3, h4⟩

/-- the same from a codeAny of the CALL (for a layer whose function contracts speak of calls) -/
theorem attach_call {l : OpenLaw} {n : Nat} {q : Program} {loose : List Str} {XP : (Str → Option Value) → Heap → Prop} {YP : World → Heap → Prop} {d : DefRec}
    (hn : l.most = some n) (hdf : d.params.defaults = [])
    (call : ∀ (w : World) (s₀ s₁ : Shared) (mg mb : Str → Option Value) (fa : Addr) (o : Obj) (pm cd doc : Value) (a : Addr) (vs : List Value) (ns : List Int),
      Ground q loose [] XP w s₀ mg mb s₁.heap → YP w s₁.heap →
      s₁.heap.get? fa = some o → o.data = .func (docDef d.name d.params d.body d.scope pm cd doc) → s₁.heap.CodeRec cd d.name → mg d.name = some (.ref fa) →
      s₁.heap.get? a = some { cls := .type "list", data := .seq vs.toArray } → IntsAre vs ns → ns.length ≤ n → s₁.gens = #[] →
      codeAny (model l.prog w) callerA (.call (.ref fa) ⟨[.ref a], []⟩) (fun r s' => r = .ok (.ret (.bool true)) ∧ OldK s₁.heap s'.heap ∧ s'.os = s₁.os ∧ AllBare s'.gens) s₁) :
    WalkO q loose XP YP l.row.toRowW d [] (fun f vs => PySem.call f vs) := by
  intro w s₀ s₁ mg mb G Y fa o pm cd doc dV kV ho hd hcd hD hmg hg args vals as hpre hlay hrd hwl hlo
  obtain rfl : dV = .none := Dflts.none hD hdf
  obtain rfl : kV = .none := Dflts.noKw hD
  obtain ⟨a, vs, ns, rfl, rfl, hobj, hints, hlen⟩ := script_of hn hpre hwl
  refine enter_call (codeAny_mono (call w s₀ s₁ mg mb fa o pm cd doc a vs ns G Y ho (fd_plain hd) hcd hmg hobj hints hlen hg) fun r s' hq => ?_)
  obtain ⟨rfl, h2, h3, h4⟩ := hq
  exact ⟨.inl ⟨.bool true, .bool true, [], rfl, fun _ => rfl, .bool true, post_true l _, fun _ => ⟨List.Pairwise.nil, fun _ hm => (nomatch hm)⟩⟩, h2, h3, h4⟩

/-- the same where the top left finished generators (o_head chose holds_openN): nothing may have changed at all and no generator may be left -/
theorem attachN {l : OpenLaw} {n : Nat} {q : Program} {loose : List Str} {XP : (Str → Option Value) → Heap → Prop} {YP : World → Heap → Prop} {d : DefRec} {x : Str}
    (hn : l.most = some n) (hdf : d.params.defaults = [])
    (hbind : ∀ pm cd doc v : Value, bindArgs (docDef d.name d.params d.body d.scope pm cd doc) ⟨[v], []⟩ = pure [(x, v)])
    (hx : d.scope.names.lookup x = some .local ∨ d.scope.names.lookup x = some .cell)
    (hk : d.scope.kind = .function) (hco : d.scope.isCoroutine = false) (hgen : d.scope.isGenerator = false)
    (body : ∀ (w : World) (s₀ s₁ s : Shared) (mg mb : Str → Option Value) (fa : Addr) (o : Obj) (pm cd doc : Value) (a : Addr) (vs : List Value) (ns : List Int),
      Ground q loose [] XP w s₀ mg mb s₁.heap → YP w s₁.heap →
      s₁.heap.get? fa = some o → o.data = .func (docDef d.name d.params d.body d.scope pm cd doc) → s₁.heap.CodeRec cd d.name → mg d.name = some (.ref fa) →
      s₁.heap.get? a = some { cls := .type "list", data := .seq vs.toArray } → IntsAre vs ns → ns.length ≤ n →
      s.gens = #[] → s.os = s₁.os →
      Fr s₁.heap s₁.heap.objs.size s.heap (bindL (envOfC d.name d.scope s₁.heap.objs.size fa cd).kindOf [(x, .ref a)] fun _ => none) →
      Cl s₁.heap.objs.size (cellsFrom (s₁.heap.objs.size + 1) d.scope.names []) s.heap (bindC (envOfC d.name d.scope s₁.heap.objs.size fa cd).kindOf [(x, .ref a)] fun _ => none) →
      wpAny (model l.prog w) (callerA.deeper (envOfC d.name d.scope s₁.heap.objs.size fa cd)) (execs d.body (envOfC d.name d.scope s₁.heap.objs.size fa cd))
        (fun f s' => f = .ret (.bool true) ∧ (∀ b o, s₁.heap.get? b = some o → s'.heap.get? b = some o) ∧ s'.os = s₁.os ∧ s'.gens = #[]) (fun _ _ => False) s) :
    WalkN q loose XP YP l.row.toRowW d [] (fun f vs => PySem.call f vs) := by
  intro w s₀ s₁ mg mb G Y fa o pm cd doc dV kV ho hd hcd hD hmg hg args vals as hpre hlay hrd hwl hlo
  obtain rfl : dV = .none := Dflts.none hD hdf
  obtain rfl : kV = .none := Dflts.noKw hD
  obtain ⟨a, vs, ns, rfl, rfl, hobj, hints, hlen⟩ := script_of hn hpre hwl
  refine enter_callW ?_
  refine call_cells_ret (o := o) (by rw [depth_caller]; decide) ho (fd_plain hd) G.T.nolimit hcd (hbind pm cd doc (.ref a)) (fun y hy => ?_) (fun h₁ tk F X => ?_) hco hgen hk
  · obtain rfl : y = (x, Value.ref a) := List.mem_singleton.mp hy
    rcases hx with e | e
    · exact .inl e
    · exact .inr ⟨e, cellsFrom_some _ _ _ (.inl e)⟩
  · refine wpAny_mono (body w s₀ s₁ { s₁ with heap := h₁, toks := tk } mg mb fa o pm cd doc a vs ns G Y ho (fd_plain hd) hcd hmg hobj hints hlen hg rfl F X) (fun f s' hq => ?_) (fun _ _ hq => hq)
    obtain ⟨rfl, h2, h3, h4⟩ := hq
    exact ⟨.inl ⟨.bool true, .bool true, [], rfl, fun _ => rfl, .bool true, post_true l _, fun _ => ⟨List.Pairwise.nil, fun _ hm => (nomatch hm)⟩⟩, h2, h3, h4⟩

/-! ### rules over ANY heap (no ledger) from facts about the written part K: the library's own take a ledger (News) for what they write -/
section
variable {prog : Program} {w : World} {A : Around} {E : Value → Shared → Prop} {s : Shared} {K : Frag}

/-- a def of the module, or a method (qual 'C.m'), entered: the frame is the next address; cells behind it -/
theorem call_fn {R : Result → Shared → Prop} {name qual : Str} {params : Arguments} {body : List Stmt} {scope : Scope} {dV kV doc pm cdv ct oc : Value} {an od : Option Addr} {osl : Array (Option Value)} {f : Addr} {args : Args} {binds : List (Str × Value)}
    (X : K.In s.heap) (hlim : s.heap.NoLimit) (ho : K.lookup f = some ⟨oc, od, .func (fnOf name qual params body scope dV kV doc pm an cdv ct), osl⟩) (hcd : codeIn K cdv qual = true) (hroom : A.depth < recursionLimit)
    (hbind : BindsTo s (fnOf name qual params body scope dV kV doc pm an cdv ct) args binds)
    (hkind : (binds.all fun y => scope.names.lookup y.1 == some .local || scope.names.lookup y.1 == some .cell) = true)
    (h : ∀ s₁, InCallC s s.heap.objs.size (bindL (envOfC qual scope s.heap.objs.size f cdv).kindOf binds fun _ => none) (cellsFrom (s.heap.objs.size + 1) scope.names [])
        (bindC (envOfC qual scope s.heap.objs.size f cdv).kindOf binds fun _ => none) s₁ →
      wpAny (model prog w) (A.deeper (envOfC qual scope s.heap.objs.size f cdv)) (execs body (envOfC qual scope s.heap.objs.size f cdv))
        (fun fl s' => R (.ok (.ret (match fl with | .ret v => v | _ => .none))) s')
        (fun e s' => wpAny (model prog w) (A.deeper (envOfC qual scope s.heap.objs.size f cdv)) (leaving (envOfC qual scope s.heap.objs.size f cdv) e) (fun _ s'' => R (.error e) s'') (fun e' s'' => R (.error e') s'') s') s₁)
    (hco : scope.isCoroutine = false) (hgen : scope.isGenerator = false) (hk : scope.kind = .function) : codeAny (model prog w) A (.call (.ref f) args) R s := by
  refine codeAny_call_function hroom (X _ _ ho) rfl hco hgen rfl (codeRec_of X hcd) (hbind _ _ _ _ ?_)
  refine wpAny_newFunctionEnv_cells hk (kindsX hkind _) fun env he s₁ x => ?_
  subst he
  exact ⟨hlim.keeps x.toInCall.keep, codeAny_func (h s₁ x)⟩

/-- C(..): dict at size, instance at size + 1, then __init__ -/
theorem make_obj {R : Result → Shared → Prop} {C fI : Addr} {rest : List Value} {kw : List (Str × Value)}
    (X : K.In s.heap) (hm : makesIn K C = true) (hi : findIn K (.ref C) "__init__" = some (some (.ref fI))) (hf : isFn K (.ref fI) = true)
    (h : codeAny (model prog w) (A.under (.builtin "type.__call__" ⟨.ref C :: rest, kw⟩)) (.call (.ref fI) ⟨.ref (s.heap.objs.size + 1) :: rest, kw⟩) (InitBack (s.heap.objs.size + 1) R)
      { s with heap := (s.heap.push emptyDict).push (instObj C s.heap.objs.size) }) : codeAny (model prog w) A (.call (.ref C) ⟨rest, kw⟩) R s := by
  obtain ⟨hh, g, d, t, os⟩ := s
  exact make_core (makes_of X hm) (looks_findIn X hi) (fun self => bind_fn X self (beq_iff_eq.mp hf)) (.inl rfl) h

/-- x.name where the instance's dict holds the name and the class does not -/
theorem get_field {x C : Addr} {ox : Obj} {es : List DictEntry} {n : Nat} {name : Str} {expr : Bool} {v : Value} {Q : Value → Shared → Prop}
    (X : K.In s.heap) (I : PySem.W.InstAt s.heap x ox C (some (dictOf es n))) (hg : plainGet K C name = true) (hh : hasDictIn K C = true) (ha : findIn K (.ref C) name = some none)
    (hl : getL name es = some (some v)) (hv : handedIn v = true) (h : Q v { s with toks := s.toks + 1 }) : wpAny (model prog w) A (getAttr (.ref x) name expr) Q E s :=
  get_value X I (plainGet_of hg).1 (findObj_own hh ha rfl hl) hv h

/-- x.m(..): the method found in the class -/
theorem get_method {x C f : Addr} {ox : Obj} {es : List DictEntry} {n : Nat} {name : Str} {pl : Sem Bool} {Q : Value × List Value → Shared → Prop}
    (X : K.In s.heap) (I : PySem.W.InstAt s.heap x ox C (some (dictOf es n))) (hg : plainGet K C name = true) (hf : findIn K (.ref C) name = some (some (.ref f))) (ht : isFn K (.ref f) = true)
    (hl : getL name es = some none) (h : Q (.ref f, [.ref x]) s) : wpAny (model prog w) A (getMethod (.ref x) name pl) Q E s :=
  method_fn X I (plainGet_of hg).1 (plainGet_of hg).2 hf (beq_iff_eq.mp ht) (by show (lookIn name (dictOf es n)).map _ = _; rw [lookIn_dict, hl]; rfl) h

/-! the whole heap as the ledger: makes every rule that writes through a ledger a rule over any heap -/
def noObjs (h : Heap) : Heap := { h with objs := #[] }
theorem noObjs_get (h : Heap) (b : Addr) : (noObjs h).get? b = none := by
  cases e : (noObjs h).get? b with
  | none => rfl
  | some o => exact absurd (Heap.lt_size e) (Nat.not_lt_zero _)
def ledger (h : Heap) (L d : Addr) : List (Addr × Obj) := (List.range h.objs.size).filterMap fun a => if a = L ∨ a = d then none else (h.get? a).map fun o => (a, o)
theorem mem_ledger {h : Heap} {L d a : Addr} {o : Obj} : (a, o) ∈ ledger h L d ↔ a ≠ L ∧ a ≠ d ∧ h.get? a = some o := by
  unfold ledger
  rw [List.mem_filterMap]
  constructor
  · rintro ⟨b, _, e⟩
    split at e
    · cases e
    · rename_i hb
      obtain ⟨o', ho, e'⟩ := Option.map_eq_some_iff.mp e
      cases e'
      exact ⟨fun q => hb (.inl q), fun q => hb (.inr q), ho⟩
  · rintro ⟨n1, n2, ho⟩
    refine ⟨a, List.mem_range.mpr (Heap.lt_size ho), ?_⟩
    rw [if_neg (show ¬ (a = L ∨ a = d) from fun q => q.elim n1 n2), ho] <;> rfl
theorem news_ledger {h : Heap} {L d : Addr} {od : Obj} (hne : d ≠ L) (ho : h.get? d = some od) : News (noObjs h) L h ([] ++ (d, od) :: ledger h L d) := by
  rintro ⟨a, o⟩ hp
  rcases List.mem_cons.mp hp with e | hp
  · cases e
    exact ⟨ho, hne, noObjs_get _ _⟩
  · obtain ⟨n1, n2, e⟩ := mem_ledger.mp hp
    exact ⟨e, n1, noObjs_get _ _⟩
theorem fr_all {h : Heap} {L : Addr} {m : Str → Option Value} (n : h.Ns L m) : Fr (noObjs h) L h m :=
  ⟨n, fun b o e => (by rw [noObjs_get] at e; cases e), Nat.zero_le _⟩
/-- Upd of the head entry (for append_K, setItem_K ..) -/
theorem upd_ledger {h : Heap} {L d : Addr} {o o' : Obj} : Upd d o o' ((d, o) :: ledger h L d) ((d, o') :: ledger h L d) :=
  .head fun ⟨_, _⟩ hp => (mem_ledger.mp hp).2.1

/-- x.name = v over any heap: L is any namespace of the heap (the frame's, say): its map stays, its object is not told; all else but the dict stays -/
theorem set_field {x C dx L : Addr} {ox : Obj} {m : Str → Option Value} {es es' : List DictEntry} {n n' : Nat} {name : Str} {v : Value} {Q : Unit → Shared → Prop}
    (X : K.In s.heap) (I : PySem.W.InstAt s.heap x ox C (some (dictOf es n))) (hd : ox.dict = some dx) (hL : s.heap.Ns L m) (hne : dx ≠ L)
    (hs : findIn K (.ref C) "__setattr__" = some (some (.builtin "object.__setattr__"))) (hp : plainOver K C = true) (ht : takerIn K C name = some none) (hh : hasDictIn K C = true) (hl : (getL name es).isSome = true)
    (e : (putL name (PyData.keyHash w.params name) (.str name (s.toks + 1)) v es, putN name es n) = (es', n')) (hz : es'.length ≤ 1000)
    (h : ∀ h' : Heap, h'.Ns L m → h'.get? dx = some (dictOf es' n') → (∀ b o, b ≠ dx → b ≠ L → s.heap.get? b = some o → h'.get? b = some o) → Q () { s with heap := h', toks := s.toks + 2 }) :
    wpAny (model prog w) A (setAttr (.ref x) name v) Q E s := by
  obtain ⟨e1, e2⟩ := Prod.mk.inj e
  have hdx : s.heap.get? dx = some (dictOf es n) := by
    have := I.dict
    rw [hd] at this
    exact this
  refine set_plain X I hs (osa_dict (s := { s with toks := s.toks + 1 }) (h₀ := noObjs s.heap) (L := L) (m := m) (od := dictOf es n) (od' := dictOf es' n') (es := es') (n := n') (pre := []) (post := ledger s.heap L dx)
    (fr_all hL) (news_ledger hne hdx) X I hd hp ht hh hl (fun _ q => nomatch q) (fun ⟨_, _⟩ q => (mem_ledger.mp q).2.1) (by rw [putName_dict, e1, e2]) rfl hz fun h' F' N' => ?_)
  exact h h' F'.ns (N'.get (List.Mem.head _)) fun b o n1 n2 ho => N'.get (List.Mem.tail _ (mem_ledger.mpr ⟨n2, n1, ho⟩))
end
end Att

namespace L2
open PySem PySem.Spec PyProof.Rows

theorem vals_ints : ∀ {vs : List Value} {ns : List Int}, IntsAre vs ns → Vals (ns.map V.int) vs
  | _, _, .nil => .nil
  | _, _, .cons n t h => .cons ⟨t, rfl⟩ (vals_ints h)

/-- nothing is tracked but the script, known to the object (or it is an object of the module) -/
def Only (H : Hp) : Prop := ∀ b, H b = none ∨ ∃ o xs, H b = some (.frz o (.lst xs))

/-- THE HEAD: the law's promise, at the heap behind the top. F, the promise of the law's def, may use that base is part of the heap (so K.In base, base.Ns mainGlobals mg stand in Mod) -/
theorem law_call {P : Program} {w : World} {K : PySem.W.Frag} {mg mb : Str → Option Value} {CX : CXT} {k : Nat} {fa a : Addr} {fd : FuncData} {x : Str} {sp : Sp} {s₁ : Shared} {vs : List Value} {ns : List Int}
    (KX : K.In s₁.heap) (hns : s₁.heap.Ns mainGlobals mg) (hb : s₁.heap.Ns builtinsNs mb) (hbb : ∀ x : Str, x ≠ "__name__" → mb x = bootBuiltins x) (hlim : s₁.heap.NoLimit) (hg : s₁.gens = #[])
    (ha : s₁.heap.get? a = some { cls := .type "list", data := .seq vs.toArray }) (hi : IntsAre vs ns) (hl : ns.length ≤ sizeLine) (hr : Room k callerA)
    (F : ∀ base : Heap, K.In base → base.Ns mainGlobals mg → FnOk P w K mg base CX k fa fd [x] sp) (hbind : ∀ (s : Shared) (u : Value), BindsTo s fd ⟨[u], []⟩ [(x, u)])
    (hsp : ∀ H : Hp, Only H → SqL K H a (ns.map V.int) → sp [.ref a] H (fun v _ => v = .bl true) fun _ _ _ => False)
    (hCX : ∀ H e s', CX [] H s₁ (fun _ _ _ => False) e s' → False) :
    codeAny (model P w) callerA (.call (.ref fa) ⟨[.ref a], []⟩) (fun r s' => r = .ok (.ret (.bool true)) ∧ OldK s₁.heap s'.heap ∧ s'.os = s₁.os ∧ AllBare s'.gens) s₁ := by
  have rv := vals_ints hi
  have lenV := hi.length
  -- from an abstract heap in which nothing but the script may be tracked
  have core : ∀ H : Hp, Only H → SqL K H a (ns.map V.int) → HOk P w H s₁.heap → (∀ b, H b ≠ none → b = a) → (H a ≠ none → K.lookup a = none) →
      codeAny (model P w) callerA (.call (.ref fa) ⟨[.ref a], []⟩) (fun r s' => r = .ok (.ret (.bool true)) ∧ OldK s₁.heap s'.heap ∧ s'.os = s₁.os ∧ AllBare s'.gens) s₁ := by
    intro H hO hS hok hA hK
    have base_of : ∀ {b : Addr} {o : Obj}, s₁.heap.get? b = some o → H b = none → (hidT s₁.heap H).get? b = some o := fun e n => hidT_get e n
    have noA : ∀ {b : Addr} {o : Obj} {es : Array DictEntry} {ep : Nat}, s₁.heap.get? b = some o → o.data = .dict es ep → H b = none := fun {b o es ep} e d => by
      cases q : H b with
      | none => rfl
      | some u =>
        have e' : b = a := hA b (by rw [q]; simp)
        subst e'
        rw [ha] at e; cases e
        have d' : Data.seq vs.toArray _ = Data.dict es ep := d
        cases d'
    have nsK : ∀ {b : Addr} {m : Str → Option Value}, s₁.heap.Ns b m → (hidT s₁.heap H).Ns b m := fun {b m} ⟨o, es, ep, e, d, r⟩ => ⟨o, es, ep, base_of e (noA e d), d, r⟩
    have hKb : K.In (hidT s₁.heap H) := fun b o e => base_of (KX b o e) (by
      cases q : H b with
      | none => rfl
      | some u =>
        have e' : b = a := hA b (by rw [q]; simp)
        subst e'
        rw [hK (by rw [q]; simp)] at e; cases e)
    have hM : Mod K mg (hidT s₁.heap H) := ⟨hKb, nsK hns, ⟨mb, nsK hb, hbb⟩, let ⟨mc, h1, h2⟩ := hlim; ⟨mc, nsK h1, h2⟩⟩
    have e0 : Env0 P w K mg (hidT s₁.heap H) callerA [] s₁ H := ⟨rfl, hM, fun b o e => of_hidT e, Nat.le_of_eq (hidT_size _ _), trivial, fun b hb => absurd (show b ∈ ([] : List Addr) from hb) (by simp), hok, .of_eq hg⟩
    refine codeAny_mono ((F _ hKb (nsK hns)).run callerA [] s₁ H ⟨[.ref a], []⟩ [.ref a] [.ref a] _ _ hr e0 (hbind s₁ (.ref a)) (.cons rfl .nil) (hsp H hO hS)) fun r s' h => ?_
    cases r with
    | error e => exact (hCX H e s' h).elim
    | ok fl =>
      cases fl with
      | next => exact False.elim h
      | brk => exact False.elim h
      | cont => exact False.elim h
      | ret u =>
        obtain ⟨v, H', os, bare, un, hok', r', q⟩ := h
        have q' : v = .bl true := q
        subst q'
        obtain rfl : u = Value.bool true := r'
        refine ⟨rfl, OldK.of_keep fun b o e => ?_, os, bare⟩
        cases q : H b with
        | none => exact un.keep b o e q (by intro z; exact absurd (show b ∈ ([] : List Addr) from z) (by simp)) (by simp)
        | some u =>
          rcases hO b with z | ⟨ob, xs, z⟩
          · rw [q] at z; cases z
          · have z2 := un.frzs b ob _ z
            obtain ⟨e1, _⟩ := hok b _ z
            obtain ⟨e2, _⟩ := hok' b _ z2
            rw [e] at e1; cases e1
            exact e2
  cases hk : K.lookup a with
  | some o =>
    -- the script is one of the module's own objects
    have e := KX a o hk
    rw [ha] at e
    cases e
    refine core (fun _ => none) (fun _ => .inl rfl) (.inr ⟨_, vs.toArray, _, hk, rfl, rfl, rfl, by rw [List.size_toArray, lenV]; exact hl, by simpa using rv⟩) (fun b u z => by have z' : (none : Option HO) = some u := z; cases z') (fun b z => absurd rfl z) fun z => absurd rfl z
  | none =>
    refine core (fun b => if b = a then some (.frz { cls := .type "list", data := .seq vs.toArray } (.lst (ns.map V.int))) else none) (fun b => ?_) (.inl (.inr ⟨{ cls := .type "list", data := .seq vs.toArray }, if_pos rfl⟩)) (fun b u z => ?_) (fun b z => ?_) fun _ => hk
    · by_cases hb : b = a
      · exact .inr ⟨_, _, if_pos hb⟩
      · exact .inl (if_neg hb)
    · by_cases hb : b = a
      · have z' := (if_pos hb).symm.trans z
        cases z'
        subst hb
        exact ⟨ha, by rw [List.length_map]; exact hl, vs, _, rv, ha⟩
      · have z' := (if_neg hb).symm.trans z
        cases z'
    · by_cases hb : b = a
      · exact hb
      · exact absurd (if_neg hb) z
end L2

namespace L2
open PySem PySem.Spec PyProof.Rows

abbrev KOf {K : PySem.W.Frag} {h : Heap} (_ : K.In h) : PySem.W.Frag := K

/-- the goal that k_head leaves (case hc), from the law's promise. F gives the function object fd (K's own) once, then the promise over every base -/
theorem walk_of {l : PySem.W.OpenLaw} {n k : Nat} {q : Program} {loose : List Str} {XP : (Str → Option Value) → Heap → Prop} {YP : World → Heap → Prop} {d : DefRec} {K : Params → PySem.W.Frag} {CX : World → CXT} {sp : World → Sp} {x : Str}
    (hn : l.most = some n) (hn2 : n ≤ sizeLine) (hdf : d.params.defaults = []) (hr : Room k callerA)
    (hY : ∀ (w : World) (h : Heap), YP w h → (K w.params).In h)
    (F : ∀ (w : World) (mg : Str → Option Value) (fa : Addr) (h : Heap), (K w.params).In h → h.Ns mainGlobals mg → mg d.name = some (.ref fa) →
      ∃ fd : FuncData, (∀ (s : Shared) (u : Value), BindsTo s fd ⟨[u], []⟩ [(x, u)]) ∧
        ∀ base : Heap, (K w.params).In base → base.Ns mainGlobals mg → FnOk l.prog w (K w.params) mg base (CX w) k fa fd [x] (sp w))
    (hsp : ∀ (w : World) (H : Hp) (a : Addr) (ns : List Int), ns.length ≤ n → Only H → SqL (K w.params) H a (ns.map V.int) → sp w [.ref a] H (fun v _ => v = .bl true) fun _ _ _ => False)
    (hCX : ∀ (w : World) (H : Hp) (s : Shared) (e : Value) (s' : Shared), CX w [] H s (fun _ _ _ => False) e s' → False) :
    PySem.W.WalkO q loose XP YP l.row.toRowW d [] (fun f vs => PySem.call f vs) := by
  refine Att.attach_call hn hdf fun w s₀ s₁ mg mb fa o pm cd doc a vs ns G Y ho hd hcd hmg hobj hints hlen hg => ?_
  have KX := hY w _ Y
  obtain ⟨fd, hb, hF⟩ := F w mg fa _ KX G.T.g hmg
  exact law_call KX G.T.g G.T.b G.T.builtins G.T.nolimit hg hobj hints (Nat.le_trans hlen hn2) hr hF hb (fun H hO hS => hsp w H a ns hlen hO hS) fun H e s' => hCX w H s₁ e s'
/-- the same where the promise hangs on the written part alone: (sp := My.sp_law), no hole under a binder -/
theorem walk_ofK {l : PySem.W.OpenLaw} {n k : Nat} {q : Program} {loose : List Str} {XP : (Str → Option Value) → Heap → Prop} {YP : World → Heap → Prop} {d : DefRec} {K : Params → PySem.W.Frag} {CX : CXT} {sp : PySem.W.Frag → Sp} {x : Str}
    (hn : l.most = some n) (hn2 : n ≤ sizeLine) (hdf : d.params.defaults = []) (hr : Room k callerA)
    (hY : ∀ (w : World) (h : Heap), YP w h → (K w.params).In h)
    (F : ∀ (w : World) (mg : Str → Option Value) (fa : Addr) (h : Heap), (K w.params).In h → h.Ns mainGlobals mg → mg d.name = some (.ref fa) →
      ∃ fd : FuncData, (∀ (s : Shared) (u : Value), BindsTo s fd ⟨[u], []⟩ [(x, u)]) ∧
        ∀ base : Heap, (K w.params).In base → base.Ns mainGlobals mg → FnOk l.prog w (K w.params) mg base CX k fa fd [x] (sp (K w.params)))
    (hsp : ∀ (K : PySem.W.Frag) (H : Hp) (a : Addr) (ns : List Int), ns.length ≤ n → Only H → SqL K H a (ns.map V.int) → sp K [.ref a] H (fun v _ => v = .bl true) fun _ _ _ => False)
    (hCX : ∀ (H : Hp) (s : Shared) (e : Value) (s' : Shared), CX [] H s (fun _ _ _ => False) e s' → False) :
    PySem.W.WalkO q loose XP YP l.row.toRowW d [] (fun f vs => PySem.call f vs) :=
  walk_of (K := K) (CX := fun _ => CX) (sp := fun w => sp (K w.params)) hn hn2 hdf hr hY F (fun w H a ns h1 h2 h3 => hsp (K w.params) H a ns h1 h2 h3) fun _ H s e s' => hCX H s e s'
end L2

/- THE LAST THEOREM (shape; LID, My.* are yours):
   My.Adr: a structure of the addresses that your layer names (classes, functions); My.Txt K t: a structure (Prop) of the equations over K;
   My.txt_mk : {K} {implicit addresses ..} (e1 : nsIn K mainGlobals "law" = some (some (.ref f))) (e2 : K.lookup f = some ⟨oc, od, .func (fnOf "law" "law" params body scope dV kV doc pm an cdv ct), sl⟩) (e3 : codeIn K cdv "law" = true) .. : ∃ t, My.Txt K t

set_option maxRecDepth 100000 in
set_option maxHeartbeats 0 in
theorem PySem.Challenge.cw_LID_holds : PySem.Challenge.rw_LID.Holds := by
  w_on; o_law; k_head; (case hw => w_witness2)
  k_fill
  refine L2.walk_of (l := PySem.Challenge.rw_LID) (n := 63) (k := 40) (x := "script") (CX := fun w => ..) (sp := fun _ => My.sp_law) rfl (by decide) rfl ⟨rfl, by decide, by decide⟩ (fun w h Y => PySem.W.kIn_of Y) ?F ?S ?C
  case F =>
    intro w mg fa h KX G hmg
    have T : ∃ t, My.Txt (L2.KOf KX) t := by
      dsimp only [L2.KOf]                          -- K must stand as «<heap const> w.params» for k_is
      refine' My.txt_mk ?e1 ?e2 ?e3 ..
      (case e1 => PySem.W.k_is)                    -- in the order: a name -> its address -> its object -> its parts
      (case e2 => PySem.W.k_is)
      ..
    obtain ⟨t, T⟩ := T
    have e0 := hmg.symm.trans (PySem.W.mg_of KX G T.law)
    cases e0                                       -- fa is the law's own address
    exact ⟨_, fun s u => .of_eq rfl, fun base kb nb => My.law_fn T kb nb⟩     -- if «.of_eq rfl» comes too early: refine' ⟨_, ?b, fun base kb nb => My.law_fn T kb nb⟩; exact fun s u => .of_eq rfl
  case S => exact fun w H a ns hl hO hS => ..
  case C => exact ..
(the tactic k_is has no namespace: write k_is) -/

/-! SHORT WORDS over the layer: a def of the text, its body, what a loop and a test want. -/
namespace L2
open PySem PySem.Spec PyProof.Rows

/-! ### the text by places -/
/-- the j-th statement of a class's body -/
def inClass (s : Stmt) (j : Nat) : Stmt := match s with
  | .ClassDef _ _ _ body _ _ _ _ _ _ _ => body.getD j (.Pass ⟨0, 0, 0, 0⟩)
  | _ => .Pass ⟨0, 0, 0, 0⟩
def defArgs (s : Stmt) : Arguments := match s with
  | .FunctionDef _ a _ _ _ _ _ _ _ _ => a
  | _ => { posonlyargs := [], args := [], vararg := none, kwonlyargs := [], kw_defaults := [], kwarg := none, defaults := [] }
def defBody (s : Stmt) : List Stmt := match s with
  | .FunctionDef _ _ b _ _ _ _ _ _ _ => b
  | _ => []
def defScope (s : Stmt) : Scope := match s with
  | .FunctionDef _ _ _ _ _ _ sc _ _ _ => sc
  | _ => { kind := .function, names := [], isGenerator := false, isCoroutine := false }

/-! ### no exception leaves a def -/
abbrev CX0 : CXT := fun _ _ _ _ _ _ => False
abbrev E0 : XK := fun _ _ _ => False
theorem pass0 {X : Cx} : Passes CX0 X E0 := fun _ _ _ _ _ _ _ h => h.elim

/-! ### a def (or method) of the text as it stands behind the top -/
structure Fun (K : PySem.W.Frag) (x qual : Str) (st : Stmt) (f : Addr) (fd : FuncData) : Prop where
  ex : ∃ (oc : Value) (od : Option Addr) (kV doc pm : Value) (an : Option Addr) (cdv ct : Value) (osl : Array (Option Value)),
    fd = PySem.W.fnOf x qual (defArgs st) (defBody st) (defScope st) .none kV doc pm an cdv ct ∧ K.lookup f = some ⟨oc, od, .func fd, osl⟩ ∧ PySem.W.codeIn K cdv qual = true
  kp : PySem.W.keepIn K (.ref f) = true
section
variable {P : Program} {w : World} {K : PySem.W.Frag} {mg : Str → Option Value} {base : Heap}
/-- THE RULE for a def: its body as a term of rules, and the reading of that term -/
theorem Fun.ok {x qual : Str} {st : Stmt} {f : Addr} {fd : FuncData} {N ps : List Str} {k : Nat} {sp : Sp} (F : Fun K x qual st f fd) (S : FnScope N ps (defScope st)) (len : ∀ vs H Q E, sp vs H Q E → vs.length = ps.length)
    (hbody : ∀ (cdv : Value) (A : Around) (outer : List Env) (s : Shared) (H : Hp) (vs : List V) (Q : VK) (E : XK), Room k (A.deeper (envOfC qual (defScope st) s.heap.objs.size f cdv)) → sp vs H Q E →
      ∃ t, PSs (cxOf CX0 P w K mg base N qual (defScope st) f cdv A outer s H E).nox (defBody st) t ∧ t { nx := fun _ H' => Q .non H', rt := Q } (start N vs) H) : FnOk P w K mg base CX0 (k + 1) f fd ps sp := by
  obtain ⟨oc, od, kV, doc, pm, an, cdv, ct, osl, rfl, lk, hcd⟩ := F.ex
  refine fn_of lk hcd S len fun A outer s H vs Q E hr hsp => ?_
  obtain ⟨t, h, q⟩ := hbody cdv A outer s H vs Q E hr hsp
  exact ⟨t, h.nox, q⟩
/-- how its arguments bind (no defaults): h is «fun _ _ _ _ _ _ us hl => match us, hl with | [_, _], _ => rfl», one _ a parameter -/
theorem Fun.binds {x qual : Str} {st : Stmt} {f : Addr} {fd : FuncData} {ps : List Str} (F : Fun K x qual st f fd)
    (h : ∀ (kV doc pm : Value) (an : Option Addr) (cdv ct : Value) (us : List Value), us.length = ps.length → bindArgs (PySem.W.fnOf x qual (defArgs st) (defBody st) (defScope st) .none kV doc pm an cdv ct) ⟨us, []⟩ = pure (ps.zip us)) : Binds K fd ps [] := by
  obtain ⟨oc, od, kV, doc, pm, an, cdv, ct, osl, rfl, lk, hcd⟩ := F.ex
  exact .all (h kV doc pm an cdv ct)
theorem fun_mk {x qual : Str} {st : Stmt} {f : Addr} {oc : Value} {od an : Option Addr} {osl : Array (Option Value)} {kV doc pm cdv ct : Value} (l : K.lookup f = some ⟨oc, od, .func (PySem.W.fnOf x qual (defArgs st) (defBody st) (defScope st) .none kV doc pm an cdv ct), osl⟩)
    (c : PySem.W.codeIn K cdv qual = true) (k : PySem.W.keepIn K (.ref f) = true) : Fun K x qual st f (PySem.W.fnOf x qual (defArgs st) (defBody st) (defScope st) .none kV doc pm an cdv ct) := ⟨⟨oc, od, kV, doc, pm, an, cdv, ct, osl, rfl, l, c⟩, k⟩
end
theorem hu_of {A : Around} {k : Nat} (hr : Room k A) : A.units + 1 < cLine := Nat.lt_of_le_of_lt (Nat.add_le_add_left (by decide : 1 ≤ 64) _) hr.units
theorem small1000 {n : Nat} (h : n ≤ 1000) : n < sizeLine := Nat.lt_of_le_of_lt h (by decide)

/-! ### expressions in short: the name that stands in the i-th slot -/
section
variable {X : Cx}
theorem pv (i : Nat) {x : Str} {pos : Pos} (hN : X.N[i]? = some x := by rfl) (hv : Vis X.env.scope x := by first | exact Or.inl rfl | exact Or.inr (Or.inl rfl) | exact Or.inr (Or.inr rfl)) (hd : (x == ("__debug__" : Str)) = false := by decide)
    (hcd : (x == ("__classdict__" : Str)) = false := by decide) : PE X (.Name x pos) (tVar i) := pe_var hN hv hd hcd
end

/-! ### tests -/
theorem iteF {A B : Prop} (h : B) : if false = true then A else B := by
  rw [if_neg Bool.false_ne_true]
  exact h
theorem iteT {A B : Prop} (h : A) : if true = true then A else B := by
  rw [if_pos rfl]
  exact h
theorem ite2 {c A B : Prop} [Decidable c] (h1 : c → A) (h2 : ¬ c → B) : if c then A else B := by
  by_cases h : c
  · rw [if_pos h]
    exact h1 h
  · rw [if_neg h]
    exact h2 h
theorem iteNS {c A B : Prop} [Decidable c] (hc : c) (h : B) : if (!decide c) = true then A else B := by
  rw [decide_eq_true hc]
  exact iteF h

/-! ### heaps -/
/-- all that was tracked is as it was -/
def Same (H H' : Hp) : Prop := ∀ b o, H b = some o → H' b = some o
theorem Same.refl (H : Hp) : Same H H := fun _ _ h => h
theorem Same.trans {H H1 H2 : Hp} (a : Same H H1) (b : Same H1 H2) : Same H H2 := fun c o h => b c o (a c o h)
theorem Same.free {H H' : Hp} (e : Same H H') {l : Addr} (h : H' l = Option.none) : H l = Option.none := by
  cases q : H l with
  | none => rfl
  | some o =>
    rw [e l o q] at h
    cases h
theorem Same.seq {K : PySem.W.Frag} {H H' : Hp} {a : Addr} {xs : List V} (e : Same H H') (h : SqL K H a xs) : SqL K H' a xs := by
  rcases h with (h | ⟨o, h⟩) | h
  · exact .inl (.inl (e _ _ h))
  · exact .inl (.inr ⟨o, e _ _ h⟩)
  · exact .inr h

end L2

set_option Elab.async false
set_option linter.all false
set_option maxRecDepth 100000
set_option maxHeartbeats 4000000
namespace M
open PySem PySem.Spec PyProof.Rows L2

inductive D where
  | non | bl (b : Bool) | int (i : Int) | str (x : Str) | tup (xs : List D) | lst (xs : List D)
  | dK (kvs : List (Key × D)) | dT (kvs : List (List Key × D))

mutual
def Rep (K : PySem.W.Frag) (H : Hp) : D → V → Prop
  | .non, v => v = .non
  | .bl b, v => v = .bl b
  | .int i, v => v = .int i
  | .str x, v => v = .str x
  | .tup xs, v => ∃ a vs, v = .ref a ∧ H a = some (.tup vs) ∧ Reps K H xs vs
  | .lst xs, v => ∃ a vs, v = .ref a ∧ SqL K H a vs ∧ Reps K H xs vs
  | .dK kvs, v => ∃ a kws, v = .ref a ∧ H a = some (.dK kws) ∧ RepK K H kvs kws
  | .dT kvs, v => ∃ a kws, v = .ref a ∧ H a = some (.dT kws) ∧ RepT K H kvs kws
def Reps (K : PySem.W.Frag) (H : Hp) : List D → List V → Prop
  | [], vs => vs = []
  | d :: ds, vs => ∃ v r, vs = v :: r ∧ Rep K H d v ∧ Reps K H ds r
def RepK (K : PySem.W.Frag) (H : Hp) : List (Key × D) → List (Key × V) → Prop
  | [], ws => ws = []
  | (k, d) :: r, ws => ∃ v q, ws = (k, v) :: q ∧ Rep K H d v ∧ RepK K H r q
def RepT (K : PySem.W.Frag) (H : Hp) : List (List Key × D) → List (List Key × V) → Prop
  | [], ws => ws = []
  | (k, d) :: r, ws => ∃ v q, ws = (k, v) :: q ∧ Rep K H d v ∧ RepT K H r q
end

theorem seqT {K : PySem.W.Frag} {H H' : Hp} {a : Addr} {xs : List V} (e : Same H H') (h : SqT K H a xs) : SqT K H' a xs := by
  rcases h with (h | ⟨o, h⟩) | h
  · exact .inl (.inl (e _ _ h))
  · exact .inl (.inr ⟨o, e _ _ h⟩)
  · exact .inr h

mutual
theorem Rep.mono {K : PySem.W.Frag} {H H' : Hp} (e : Same H H') : ∀ (d : D) (v : V), Rep K H d v → Rep K H' d v
  | .non, v, h => by simpa only [Rep] using h
  | .bl b, v, h => by simpa only [Rep] using h
  | .int i, v, h => by simpa only [Rep] using h
  | .str x, v, h => by simpa only [Rep] using h
  | .tup xs, v, h => by
    simp only [Rep] at h ⊢
    obtain ⟨a, vs, h1, h2, h3⟩ := h
    exact ⟨a, vs, h1, e _ _ h2, Reps.mono e xs vs h3⟩
  | .lst xs, v, h => by
    simp only [Rep] at h ⊢
    obtain ⟨a, vs, h1, h2, h3⟩ := h
    exact ⟨a, vs, h1, e.seq h2, Reps.mono e xs vs h3⟩
  | .dK kvs, v, h => by
    simp only [Rep] at h ⊢
    obtain ⟨a, vs, h1, h2, h3⟩ := h
    exact ⟨a, vs, h1, e _ _ h2, RepK.mono e kvs vs h3⟩
  | .dT kvs, v, h => by
    simp only [Rep] at h ⊢
    obtain ⟨a, vs, h1, h2, h3⟩ := h
    exact ⟨a, vs, h1, e _ _ h2, RepT.mono e kvs vs h3⟩
theorem Reps.mono {K : PySem.W.Frag} {H H' : Hp} (e : Same H H') : ∀ (ds : List D) (vs : List V), Reps K H ds vs → Reps K H' ds vs
  | [], vs, h => by simpa only [Reps] using h
  | d :: ds, vs, h => by
    simp only [Reps] at h ⊢
    obtain ⟨v, r, h1, h2, h3⟩ := h
    exact ⟨v, r, h1, Rep.mono e d v h2, Reps.mono e ds r h3⟩
theorem RepK.mono {K : PySem.W.Frag} {H H' : Hp} (e : Same H H') : ∀ (ds : List (Key × D)) (vs : List (Key × V)), RepK K H ds vs → RepK K H' ds vs
  | [], vs, h => by simpa only [RepK] using h
  | (k, d) :: ds, vs, h => by
    simp only [RepK] at h ⊢
    obtain ⟨v, r, h1, h2, h3⟩ := h
    exact ⟨v, r, h1, Rep.mono e d v h2, RepK.mono e ds r h3⟩
theorem RepT.mono {K : PySem.W.Frag} {H H' : Hp} (e : Same H H') : ∀ (ds : List (List Key × D)) (vs : List (List Key × V)), RepT K H ds vs → RepT K H' ds vs
  | [], vs, h => by simpa only [RepT] using h
  | (k, d) :: ds, vs, h => by
    simp only [RepT] at h ⊢
    obtain ⟨v, r, h1, h2, h3⟩ := h
    exact ⟨v, r, h1, Rep.mono e d v h2, RepT.mono e ds r h3⟩
end
end M

set_option Elab.async false
set_option linter.all false
set_option maxRecDepth 100000
set_option maxHeartbeats 4000000
namespace M
open PySem PySem.Spec PyProof.Rows L2

/-! ### rows of data -/
section
variable {K : PySem.W.Frag} {H : Hp}
theorem Reps.length : ∀ {ds : List D} {vs : List V}, Reps K H ds vs → ds.length = vs.length
  | [], vs, h => by simp only [Reps] at h; subst h; rfl
  | d :: ds, vs, h => by
    simp only [Reps] at h
    obtain ⟨v, r, rfl, _, h3⟩ := h
    simp [Reps.length h3]
theorem Reps.get : ∀ {ds : List D} {vs : List V} {i : Nat} {d : D}, Reps K H ds vs → ds[i]? = some d → ∃ v, vs[i]? = some v ∧ Rep K H d v
  | [], _, _, _, _, e => by simp at e
  | d :: ds, vs, 0, d', h, e => by
    simp only [Reps] at h
    obtain ⟨v, r, rfl, h2, h3⟩ := h
    simp at e; subst e
    exact ⟨v, rfl, h2⟩
  | d :: ds, vs, i + 1, d', h, e => by
    simp only [Reps] at h
    obtain ⟨v, r, rfl, h2, h3⟩ := h
    simpa using Reps.get h3 (by simpa using e)
theorem Reps.getV : ∀ {ds : List D} {vs : List V} {i : Nat} {v : V}, Reps K H ds vs → vs[i]? = some v → ∃ d, ds[i]? = some d ∧ Rep K H d v
  | [], vs, _, _, h, e => by simp only [Reps] at h; subst h; simp at e
  | d :: ds, vs, 0, d', h, e => by
    simp only [Reps] at h
    obtain ⟨v, r, rfl, h2, h3⟩ := h
    simp at e; subst e
    exact ⟨d, rfl, h2⟩
  | d :: ds, vs, i + 1, d', h, e => by
    simp only [Reps] at h
    obtain ⟨v, r, rfl, h2, h3⟩ := h
    simpa using Reps.getV h3 (by simpa using e)
theorem Reps.cons {d : D} {v : V} {ds : List D} {vs : List V} (h : Rep K H d v) (t : Reps K H ds vs) : Reps K H (d :: ds) (v :: vs) := by
  simp only [Reps]; exact ⟨v, vs, rfl, h, t⟩
theorem Reps.nil : Reps K H [] [] := by simp only [Reps]
theorem Reps.append : ∀ {ds es : List D} {vs ws : List V}, Reps K H ds vs → Reps K H es ws → Reps K H (ds ++ es) (vs ++ ws)
  | [], es, vs, ws, h, k => by simp only [Reps] at h; subst h; exact k
  | d :: ds, es, vs, ws, h, k => by
    simp only [Reps] at h
    obtain ⟨v, r, rfl, h2, h3⟩ := h
    exact Reps.cons h2 (Reps.append h3 k)
theorem Reps.take : ∀ {ds : List D} {vs : List V} (n : Nat), Reps K H ds vs → Reps K H (ds.take n) (vs.take n)
  | _, _, 0, _ => by simp [Reps]
  | [], vs, n + 1, h => by simp only [Reps] at h; subst h; simp [Reps]
  | d :: ds, vs, n + 1, h => by
    simp only [Reps] at h
    obtain ⟨v, r, rfl, h2, h3⟩ := h
    exact Reps.cons h2 (Reps.take n h3)
theorem Reps.drop : ∀ {ds : List D} {vs : List V} (n : Nat), Reps K H ds vs → Reps K H (ds.drop n) (vs.drop n)
  | _, _, 0, h => h
  | [], vs, n + 1, h => by simp only [Reps] at h; subst h; simp [Reps]
  | d :: ds, vs, n + 1, h => by
    simp only [Reps] at h
    obtain ⟨v, r, rfl, h2, h3⟩ := h
    exact Reps.drop n h3
theorem Reps.reverse : ∀ {ds : List D} {vs : List V}, Reps K H ds vs → Reps K H ds.reverse vs.reverse
  | [], vs, h => by simp only [Reps] at h; subst h; simp [Reps]
  | d :: ds, vs, h => by
    simp only [Reps] at h
    obtain ⟨v, r, rfl, h2, h3⟩ := h
    rw [List.reverse_cons, List.reverse_cons]
    exact Reps.append (Reps.reverse h3) (Reps.cons h2 Reps.nil)
theorem Reps.set : ∀ {ds : List D} {vs : List V} (i : Nat) {d : D} {v : V}, Reps K H ds vs → Rep K H d v → Reps K H (ds.set i d) (vs.set i v)
  | [], vs, _, _, _, h, _ => by simp only [Reps] at h; subst h; simp [Reps]
  | d :: ds, vs, 0, d', v', h, k => by
    simp only [Reps] at h
    obtain ⟨v, r, rfl, h2, h3⟩ := h
    exact Reps.cons k h3
  | d :: ds, vs, i + 1, d', v', h, k => by
    simp only [Reps] at h
    obtain ⟨v, r, rfl, h2, h3⟩ := h
    exact Reps.cons h2 (Reps.set i h3 k)
theorem Reps.ints : ∀ (ns : List Int), Reps K H (ns.map D.int) (ns.map V.int)
  | [] => Reps.nil
  | n :: ns => Reps.cons (by simp only [Rep]) (Reps.ints ns)
theorem Reps.ints_inv : ∀ {ns : List Int} {vs : List V}, Reps K H (ns.map D.int) vs → vs = ns.map V.int
  | [], vs, h => by simp only [List.map_nil, Reps] at h; exact h
  | n :: ns, vs, h => by
    simp only [List.map_cons, Reps, Rep] at h
    obtain ⟨v, r, rfl, h2, h3⟩ := h
    rw [h2, Reps.ints_inv h3]; rfl
theorem RepK.length : ∀ {ds : List (Key × D)} {vs : List (Key × V)}, RepK K H ds vs → ds.length = vs.length
  | [], vs, h => by simp only [RepK] at h; subst h; rfl
  | (k, d) :: ds, vs, h => by
    simp only [RepK] at h
    obtain ⟨v, r, rfl, _, h3⟩ := h
    simp [RepK.length h3]
theorem RepT.length : ∀ {ds : List (List Key × D)} {vs : List (List Key × V)}, RepT K H ds vs → ds.length = vs.length
  | [], vs, h => by simp only [RepT] at h; subst h; rfl
  | (k, d) :: ds, vs, h => by
    simp only [RepT] at h
    obtain ⟨v, r, rfl, _, h3⟩ := h
    simp [RepT.length h3]
end

/-! ### slots: free of data, fixed data, data of one's own (lists and dicts that this body alone can reach), data of one's own at an address that is told (lent by a caller) -/
inductive Sl where
  | un | fr (d : D) | ow (d : D) | lk (p : Addr) (d : D)

def Own (K : PySem.W.Frag) (G H : Hp) (p : Addr) : D → Prop
  | .lst ds => ∃ vs, H p = some (.lst vs) ∧ Reps K G ds vs
  | .dK kvs => ∃ kws, H p = some (.dK kws) ∧ RepK K G kvs kws
  | .dT kvs => ∃ kws, H p = some (.dT kws) ∧ RepT K G kvs kws
  | _ => False

theorem Own.mono {K : PySem.W.Frag} {G G' H H' : Hp} {p : Addr} {d : D} (h : Own K G H p d) (e : Same G G') (k : H' p = H p) : Own K G' H' p d := by
  cases d with
  | lst ds => obtain ⟨vs, h1, h2⟩ := h; exact ⟨vs, k.trans h1, Reps.mono e _ _ h2⟩
  | dK ds => obtain ⟨vs, h1, h2⟩ := h; exact ⟨vs, k.trans h1, RepK.mono e _ _ h2⟩
  | dT ds => obtain ⟨vs, h1, h2⟩ := h; exact ⟨vs, k.trans h1, RepT.mono e _ _ h2⟩
  | _ => exact h.elim
/-- own data is a list or a dict -/
def Soft : HO → Prop
  | .lst _ => True
  | .dK _ => True
  | .dT _ => True
  | _ => False
theorem Own.soft {K : PySem.W.Frag} {G H : Hp} {p : Addr} {d : D} (h : Own K G H p d) : ∃ o, H p = some o ∧ Soft o := by
  cases d with
  | lst ds => obtain ⟨vs, h1, h2⟩ := h; exact ⟨_, h1, True.intro⟩
  | dK ds => obtain ⟨vs, h1, h2⟩ := h; exact ⟨_, h1, True.intro⟩
  | dT ds => obtain ⟨vs, h1, h2⟩ := h; exact ⟨_, h1, True.intro⟩
  | _ => exact h.elim
/-- seen in the whole heap -/
theorem Own.rep {K : PySem.W.Frag} {G G' H : Hp} {p : Addr} {d : D} (h : Own K G H p d) (e : Same G G') (k : G' p = H p) : Rep K G' d (.ref p) := by
  cases d with
  | lst ds => obtain ⟨vs, h1, h2⟩ := h; simp only [Rep]; exact ⟨p, vs, rfl, SqL.of (k.trans h1), Reps.mono e _ _ h2⟩
  | dK ds => obtain ⟨vs, h1, h2⟩ := h; simp only [Rep]; exact ⟨p, vs, rfl, k.trans h1, RepK.mono e _ _ h2⟩
  | dT ds => obtain ⟨vs, h1, h2⟩ := h; simp only [Rep]; exact ⟨p, vs, rfl, k.trans h1, RepT.mono e _ _ h2⟩
  | _ => exact h.elim

def Sl.mine : Sl → Prop
  | .ow _ => True
  | .lk _ _ => True
  | _ => False
/-- the i-th slot is one's own, at p -/
def At (σ : L2.St) (δ : List Sl) (i : Nat) (p : Addr) : Prop := ∃ l, δ[i]? = some l ∧ l.mine ∧ σ[i]? = some (some (.ref p))

structure Hs (K : PySem.W.Frag) (H0 : Hp) (σ : L2.St) (δ : List Sl) (G H : Hp) : Prop where
  len : σ.length = δ.length
  base : Same H0 G
  ex : ∀ b, (G b = H b ∧ ∀ i, ¬ At σ δ i b) ∨ (G b = none ∧ ∃ i, At σ δ i b)
  fr : ∀ (i : Nat) d, δ[i]? = some (.fr d) → ∃ v, σ[i]? = some (some v) ∧ Rep K G d v
  ow : ∀ (i : Nat) d, δ[i]? = some (.ow d) → ∃ p, σ[i]? = some (some (.ref p)) ∧ Own K G H p d
  lk : ∀ (i : Nat) p d, δ[i]? = some (.lk p d) → σ[i]? = some (some (.ref p)) ∧ Own K G H p d
  ne : ∀ i j p, At σ δ i p → At σ δ j p → i = j

section
variable {K : PySem.W.Frag} {H0 : Hp} {σ : L2.St} {δ : List Sl} {G H : Hp}
theorem Hs.sub (h : Hs K H0 σ δ G H) : Same G H := fun b o e => by
  rcases h.ex b with ⟨q, _⟩ | ⟨q, _⟩
  · rw [← q]; exact e
  · rw [q] at e; cases e
theorem Hs.soft (h : Hs K H0 σ δ G H) {i : Nat} {p : Addr} (a : At σ δ i p) : ∃ o, H p = some o ∧ Soft o := by
  obtain ⟨l, e1, e2, e3⟩ := a
  cases l with
  | ow d =>
    obtain ⟨q, e4, o⟩ := h.ow i d e1
    rw [e3] at e4; cases e4
    exact o.soft
  | lk q d =>
    obtain ⟨e4, o⟩ := h.lk i q d e1
    rw [e3] at e4; cases e4
    exact o.soft
  | _ => exact e2.elim
/-- an object that is no list and no dict is not one's own -/
theorem Hs.hard (h : Hs K H0 σ δ G H) {b : Addr} {o : HO} (e : H b = some o) (n : ¬ Soft o) : G b = some o ∧ ∀ i, ¬ At σ δ i b := by
  rcases h.ex b with ⟨q, a⟩ | ⟨q, i, a⟩
  · exact ⟨q.trans e, a⟩
  · obtain ⟨o', e', s⟩ := h.soft a
    rw [e] at e'; cases e'
    exact absurd s n

/-- all fixed: the start -/
theorem Hs.start {ds : List D} {vs : List V} (h : Reps K H0 ds vs) (n : Nat) : Hs K H0 (vs.map some ++ List.replicate n none) (ds.map Sl.fr ++ List.replicate n .un) H0 H0 := by
  have na : ∀ i p, ¬ At (vs.map some ++ List.replicate n none) (ds.map Sl.fr ++ List.replicate n .un) i p := by
    rintro i p ⟨l, e1, e2, _⟩
    have hm := List.mem_of_getElem? e1
    rcases List.mem_append.mp hm with hm | hm
    · obtain ⟨d, _, rfl⟩ := List.mem_map.mp hm
      exact e2
    · have := List.eq_of_mem_replicate hm
      subst this; exact e2
  have fr_at : ∀ (i : Nat) l, (ds.map Sl.fr ++ List.replicate n .un)[i]? = some l → l = .un ∨ ∃ d, l = .fr d ∧ ds[i]? = some d := by
    intro i l e
    by_cases hi : i < ds.length
    · rw [List.getElem?_append_left (by simpa using hi), List.getElem?_map] at e
      cases q : ds[i]? with
      | none => rw [q] at e; cases e
      | some d => rw [q] at e; exact .inr ⟨d, (Option.some.inj e).symm, rfl⟩
    · rw [List.getElem?_append_right (by simpa using Nat.le_of_not_lt hi)] at e
      exact .inl (List.eq_of_mem_replicate (List.mem_of_getElem? e))
  refine ⟨by simp [h.length], Same.refl _, fun b => .inl ⟨rfl, fun i => na i b⟩, fun i d e => ?_, fun i d e => ?_, fun i p es e => ?_, fun i j p a _ => absurd a (na i p)⟩
  · rcases fr_at i _ e with z | ⟨d', z, q⟩
    · cases z
    · cases z
      obtain ⟨v, e1, r⟩ := h.get q
      refine ⟨v, ?_, r⟩
      have hi : i < vs.length := (List.getElem?_eq_some_iff.mp e1).1
      rw [List.getElem?_append_left (by simpa using hi), List.getElem?_map, e1]; rfl
  · rcases fr_at i _ e with z | ⟨d', z, q⟩ <;> cases z
  · rcases fr_at i _ e with z | ⟨d', z, q⟩ <;> cases z
end
end M

set_option Elab.async false
set_option linter.all false
set_option maxRecDepth 100000
set_option maxHeartbeats 4000000
namespace M
open PySem PySem.Spec PyProof.Rows L2
section
variable {K : PySem.W.Frag} {H0 : Hp} {σ : L2.St} {δ : List Sl} {G H : Hp}

theorem At.lt {i : Nat} {p : Addr} (a : At σ δ i p) : i < δ.length := by
  obtain ⟨l, e, _⟩ := a
  exact (List.getElem?_eq_some_iff.mp e).1
/-- a slot whose value and data change: the others as they were -/
theorem at_set {i j : Nat} {p : Addr} {v : Option V} {l : Sl} (n : j ≠ i) : At (σ.set i v) (δ.set i l) j p ↔ At σ δ j p := by
  unfold At
  rw [List.getElem?_set_ne (Ne.symm n), List.getElem?_set_ne (Ne.symm n)]
theorem at_setD {i j : Nat} {p : Addr} {l : Sl} (n : j ≠ i) : At σ (δ.set i l) j p ↔ At σ δ j p := by
  unfold At
  rw [List.getElem?_set_ne (Ne.symm n)]
theorem at_self {i : Nat} {p : Addr} {v : Option V} {l : Sl} (a : At (σ.set i v) (δ.set i l) i p) : l.mine ∧ v = some (.ref p) := by
  obtain ⟨l', e1, e2, e3⟩ := a
  have h1 : i < (δ.set i l).length := (List.getElem?_eq_some_iff.mp e1).1
  have h2 : i < (σ.set i v).length := (List.getElem?_eq_some_iff.mp e3).1
  rw [List.length_set] at h1 h2
  rw [List.getElem?_set_self h1] at e1
  rw [List.getElem?_set_self h2] at e3
  cases e1
  exact ⟨e2, Option.some.inj e3⟩
theorem at_selfD {i : Nat} {p : Addr} {l : Sl} (a : At σ (δ.set i l) i p) : l.mine := by
  obtain ⟨l', e1, e2, e3⟩ := a
  have h1 : i < (δ.set i l).length := (List.getElem?_eq_some_iff.mp e1).1
  rw [List.length_set] at h1
  rw [List.getElem?_set_self h1] at e1
  cases e1
  exact e2

/-- what is one's own is fixed from here on -/
theorem Hs.freeze (h : Hs K H0 σ δ G H) {i : Nat} {d : D} (e : δ[i]? = some (.ow d)) : ∃ G', Hs K H0 σ (δ.set i (.fr d)) G' H ∧ Same G G' ∧ ∃ p, σ[i]? = some (some (.ref p)) ∧ Rep K G' d (.ref p) := by
  obtain ⟨p, e1, o⟩ := h.ow i d e
  have ai : At σ δ i p := ⟨_, e, True.intro, e1⟩
  have hi : i < δ.length := ai.lt
  obtain ⟨ob, eo, _⟩ := o.soft
  have gp : G p = none := by
    rcases h.ex p with ⟨_, z⟩ | ⟨z, _⟩
    · exact absurd ai (z i)
    · exact z
  have s1 : Same G (upd G p ob) := fun b u q => by rw [upd_ne (ne_of_none q gp)]; exact q
  have r : Rep K (upd G p ob) d (.ref p) := o.rep s1 (by rw [upd_same, eo])
  refine ⟨upd G p ob, ⟨by rw [List.length_set]; exact h.len, h.base.trans s1, fun b => ?_, fun j d' q => ?_, fun j d' q => ?_, fun j q' es q => ?_, fun j k b a1 a2 => ?_⟩, s1, p, e1, r⟩
  · by_cases hb : b = p
    · subst hb
      refine .inl ⟨by rw [upd_same, eo], fun j a => ?_⟩
      by_cases hj : j = i
      · subst hj; exact at_selfD a
      · exact hj (h.ne _ _ _ ((at_setD hj).mp a) ai)
    · rcases h.ex b with ⟨z1, z2⟩ | ⟨z1, j, z2⟩
      · refine .inl ⟨by rw [upd_ne hb]; exact z1, fun j a => ?_⟩
        by_cases hj : j = i
        · subst hj; exact at_selfD a
        · exact z2 j ((at_setD hj).mp a)
      · have hj : j ≠ i := fun z => hb (by
          subst z
          obtain ⟨_, _, _, w⟩ := z2
          rw [e1] at w; cases w; rfl)
        exact .inr ⟨by rw [upd_ne hb]; exact z1, j, (at_setD hj).mpr z2⟩
  · by_cases hj : j = i
    · subst hj
      rw [List.getElem?_set_self hi] at q
      cases q
      exact ⟨_, e1, r⟩
    · rw [List.getElem?_set_ne (Ne.symm hj)] at q
      obtain ⟨v, w1, w2⟩ := h.fr j d' q
      exact ⟨v, w1, Rep.mono s1 _ _ w2⟩
  · by_cases hj : j = i
    · subst hj
      rw [List.getElem?_set_self hi] at q
      cases q
    · rw [List.getElem?_set_ne (Ne.symm hj)] at q
      obtain ⟨v, w1, w2⟩ := h.ow j d' q
      exact ⟨v, w1, w2.mono s1 rfl⟩
  · by_cases hj : j = i
    · subst hj
      rw [List.getElem?_set_self hi] at q
      cases q
    · rw [List.getElem?_set_ne (Ne.symm hj)] at q
      obtain ⟨w1, w2⟩ := h.lk j q' es q
      exact ⟨w1, w2.mono s1 rfl⟩
  · have hj : j ≠ i := fun z => by subst z; exact at_selfD a1
    have hk : k ≠ i := fun z => by subst z; exact at_selfD a2
    exact h.ne j k b ((at_setD hj).mp a1) ((at_setD hk).mp a2)

/-- a slot that is not one's own gets fixed data -/
theorem Hs.put0 (h : Hs K H0 σ δ G H) {i : Nat} {l : Sl} {d : D} {v : V} (e : δ[i]? = some l) (nm : ¬ l.mine) (r : Rep K G d v) : Hs K H0 (σ.set i (some v)) (δ.set i (.fr d)) G H := by
  have hi : i < δ.length := (List.getElem?_eq_some_iff.mp e).1
  have his : i < σ.length := by rw [h.len]; exact hi
  have na : ∀ p, ¬ At σ δ i p := fun p ⟨l', e1, e2, _⟩ => by rw [e] at e1; cases e1; exact nm e2
  have na' : ∀ p, ¬ At (σ.set i (some v)) (δ.set i (.fr d)) i p := fun p a => (at_self a).1
  refine ⟨by rw [List.length_set, List.length_set]; exact h.len, h.base, fun b => ?_, fun j d' q => ?_, fun j d' q => ?_, fun j q' es q => ?_, fun j k b a1 a2 => ?_⟩
  · rcases h.ex b with ⟨z1, z2⟩ | ⟨z1, j, z2⟩
    · refine .inl ⟨z1, fun j a => ?_⟩
      by_cases hj : j = i
      · subst hj; exact na' b a
      · exact z2 j ((at_set hj).mp a)
    · have hj : j ≠ i := fun z => by subst z; exact na b z2
      exact .inr ⟨z1, j, (at_set hj).mpr z2⟩
  · by_cases hj : j = i
    · subst hj
      rw [List.getElem?_set_self hi] at q
      cases q
      exact ⟨v, List.getElem?_set_self his, r⟩
    · rw [List.getElem?_set_ne (Ne.symm hj)] at q ⊢
      exact h.fr j d' q
  · by_cases hj : j = i
    · subst hj
      rw [List.getElem?_set_self hi] at q
      cases q
    · rw [List.getElem?_set_ne (Ne.symm hj)] at q ⊢
      exact h.ow j d' q
  · by_cases hj : j = i
    · subst hj
      rw [List.getElem?_set_self hi] at q
      cases q
    · rw [List.getElem?_set_ne (Ne.symm hj)] at q ⊢
      exact h.lk j q' es q
  · have hj : j ≠ i := fun z => by subst z; exact na' b a1
    have hk : k ≠ i := fun z => by subst z; exact na' b a2
    exact h.ne j k b ((at_set hj).mp a1) ((at_set hk).mp a2)
def Sl.locked : Sl → Bool
  | .lk _ _ => true
  | _ => false
/-- any slot but a locked one -/
theorem Hs.put (h : Hs K H0 σ δ G H) {i : Nat} {l : Sl} {d : D} {v : V} (e : δ[i]? = some l) (nl : l.locked = false) (r : Rep K G d v) : ∃ G', Hs K H0 (σ.set i (some v)) (δ.set i (.fr d)) G' H ∧ Same G G' := by
  cases l with
  | lk p d' => cases nl
  | un => exact ⟨G, h.put0 e (fun z => z) r, Same.refl _⟩
  | fr d' => exact ⟨G, h.put0 e (fun z => z) r, Same.refl _⟩
  | ow d' =>
    have hi : i < δ.length := (List.getElem?_eq_some_iff.mp e).1
    obtain ⟨G', h', s, _⟩ := h.freeze e
    have := h'.put0 (i := i) (d := d) (v := v) (List.getElem?_set_self hi) (fun z => z) (Rep.mono s _ _ r)
    rw [List.set_set] at this
    exact ⟨G', this, s⟩

/-! ### a value of one's own that floats: a slot ahead of all others -/
theorem at_cons {i : Nat} {p : Addr} {v : Option V} {l : Sl} : At (v :: σ) (l :: δ) (i + 1) p ↔ At σ δ i p := by
  unfold At; simp
theorem at_zero {p : Addr} {v : Option V} {l : Sl} : At (v :: σ) (l :: δ) 0 p ↔ l.mine ∧ v = some (.ref p) := by
  unfold At; simp
/-- a fixed value that floats is dropped -/
theorem Hs.drop {v : Option V} {l : Sl} (h : Hs K H0 (v :: σ) (l :: δ) G H) (nm : ¬ l.mine) : Hs K H0 σ δ G H := by
  refine ⟨by simpa using h.len, h.base, fun b => ?_, fun j d' q => ?_, fun j d' q => ?_, fun j q' es q => ?_, fun j k b a1 a2 => ?_⟩
  · rcases h.ex b with ⟨z1, z2⟩ | ⟨z1, j, z2⟩
    · exact .inl ⟨z1, fun j a => z2 (j + 1) (at_cons.mpr a)⟩
    · cases j with
      | zero => exact absurd (at_zero.mp z2).1 nm
      | succ j => exact .inr ⟨z1, j, at_cons.mp z2⟩
  · simpa using h.fr (j + 1) d' (by simpa using q)
  · simpa using h.ow (j + 1) d' (by simpa using q)
  · simpa using h.lk (j + 1) q' es (by simpa using q)
  · have := h.ne (j + 1) (k + 1) b (at_cons.mpr a1) (at_cons.mpr a2)
    omega
/-- a floating value of one's own becomes fixed -/
theorem Hs.settle {v : V} {d : D} (h : Hs K H0 (some v :: σ) (.ow d :: δ) G H) : ∃ G', Hs K H0 σ δ G' H ∧ Same G G' ∧ Rep K G' d v := by
  obtain ⟨G', h', s, p, e, r⟩ := h.freeze (i := 0) (d := d) rfl
  simp at e
  subst e
  exact ⟨G', h'.drop (l := .fr d) (fun z => z), s, r⟩
/-- .. goes into a slot -/
theorem Hs.own0 {v : V} {d : D} (h : Hs K H0 (some v :: σ) (.ow d :: δ) G H) {i : Nat} {l : Sl} (e : δ[i]? = some l) (nm : ¬ l.mine) : Hs K H0 (σ.set i (some v)) (δ.set i (.ow d)) G H := by
  have hl : σ.length = δ.length := by simpa using h.len
  have hi : i < δ.length := (List.getElem?_eq_some_iff.mp e).1
  have his : i < σ.length := by omega
  obtain ⟨p, e1, o⟩ := h.ow 0 d rfl
  simp at e1; subst e1
  have ai : ∀ b, At (σ.set i (some (.ref p))) (δ.set i (.ow d)) i b ↔ b = p := fun b => by
    constructor
    · intro a
      have := (at_self a).2
      cases this; rfl
    · rintro rfl
      exact ⟨_, List.getElem?_set_self hi, True.intro, List.getElem?_set_self his⟩
  have na : ∀ b, ¬ At σ δ i b := fun b ⟨l', q1, q2, _⟩ => by rw [e] at q1; cases q1; exact nm q2
  have tr : ∀ b j, j ≠ i → (At (σ.set i (some (.ref p))) (δ.set i (.ow d)) j b ↔ At (some (.ref p) :: σ) (.ow d :: δ) (j + 1) b) := fun b j hj => by
    rw [at_set hj, at_cons]
  have a0 : At (some (.ref p) :: σ) (.ow d :: δ) 0 p := at_zero.mpr ⟨True.intro, rfl⟩
  refine ⟨by rw [List.length_set, List.length_set]; exact hl, h.base, fun b => ?_, fun j d' q => ?_, fun j d' q => ?_, fun j q' es q => ?_, fun j k b a1 a2 => ?_⟩
  · rcases h.ex b with ⟨z1, z2⟩ | ⟨z1, j, z2⟩
    · refine .inl ⟨z1, fun j a => ?_⟩
      by_cases hj : j = i
      · subst hj
        exact z2 0 (at_zero.mpr ⟨True.intro, by rw [(ai b).mp a]⟩)
      · exact z2 (j + 1) ((tr b j hj).mp a)
    · refine .inr ⟨z1, ?_⟩
      cases j with
      | zero =>
        have w := (at_zero.mp z2).2
        cases w
        exact ⟨i, (ai p).mpr rfl⟩
      | succ j =>
        have hj : j ≠ i := fun z => by subst z; exact na b (at_cons.mp z2)
        exact ⟨j, (tr b j hj).mpr z2⟩
  · by_cases hj : j = i
    · subst hj
      rw [List.getElem?_set_self hi] at q
      cases q
    · rw [List.getElem?_set_ne (Ne.symm hj)] at q ⊢
      simpa using h.fr (j + 1) d' (by simpa using q)
  · by_cases hj : j = i
    · subst hj
      rw [List.getElem?_set_self hi] at q
      cases q
      exact ⟨p, List.getElem?_set_self his, o⟩
    · rw [List.getElem?_set_ne (Ne.symm hj)] at q ⊢
      simpa using h.ow (j + 1) d' (by simpa using q)
  · by_cases hj : j = i
    · subst hj
      rw [List.getElem?_set_self hi] at q
      cases q
    · rw [List.getElem?_set_ne (Ne.symm hj)] at q ⊢
      simpa using h.lk (j + 1) q' es (by simpa using q)
  · by_cases hj : j = i
    · subst hj
      have w := (ai b).mp a1
      subst w
      by_cases hk : k = j
      · exact hk.symm
      · have := h.ne _ _ _ ((tr b k hk).mp a2) a0
        omega
    · by_cases hk : k = i
      · subst hk
        have w := (ai b).mp a2
        subst w
        have := h.ne _ _ _ ((tr b j hj).mp a1) a0
        omega
      · have := h.ne _ _ _ ((tr b j hj).mp a1) ((tr b k hk).mp a2)
        omega
theorem Hs.own {v : V} {d : D} (h : Hs K H0 (some v :: σ) (.ow d :: δ) G H) {i : Nat} {l : Sl} (e : δ[i]? = some l) (nl : l.locked = false) : ∃ G', Hs K H0 (σ.set i (some v)) (δ.set i (.ow d)) G' H ∧ Same G G' := by
  cases l with
  | lk p d' => cases nl
  | un => exact ⟨G, h.own0 e (fun z => z), Same.refl _⟩
  | fr d' => exact ⟨G, h.own0 e (fun z => z), Same.refl _⟩
  | ow d' =>
    have hi : i < δ.length := (List.getElem?_eq_some_iff.mp e).1
    obtain ⟨G', h', s, _⟩ := h.freeze (i := i + 1) (d := d') (by simpa using e)
    have h'' : Hs K H0 (some v :: σ) (.ow d :: δ.set i (.fr d')) G' H := h'
    have := h''.own0 (i := i) (List.getElem?_set_self hi) (fun z => z)
    rw [List.set_set] at this
    exact ⟨G', this, s⟩

/-- a new object that is fixed at once -/
theorem Hs.laid (h : Hs K H0 σ δ G H) {p : Addr} {o : HO} (n : H p = none) : Hs K H0 σ δ (upd G p o) (upd H p o) ∧ Same G (upd G p o) := by
  have nat : ∀ i, ¬ At σ δ i p := fun i a => by
    obtain ⟨o', e, _⟩ := h.soft a
    rw [n] at e; cases e
  have gp : G p = none := by
    rcases h.ex p with ⟨z, _⟩ | ⟨z, _⟩
    · exact z.trans n
    · exact z
  have s1 : Same G (upd G p o) := fun b u q => by rw [upd_ne (ne_of_none q gp)]; exact q
  have hne : ∀ i b, At σ δ i b → b ≠ p := fun i b a z => by subst z; exact nat i a
  refine ⟨⟨h.len, h.base.trans s1, fun b => ?_, fun j d' q => ?_, fun j d' q => ?_, fun j q' es q => ?_, h.ne⟩, s1⟩
  · by_cases hb : b = p
    · subst hb; exact .inl ⟨by rw [upd_same, upd_same], nat⟩
    · rw [upd_ne hb, upd_ne hb]; exact h.ex b
  · obtain ⟨v, w1, w2⟩ := h.fr j d' q
    exact ⟨v, w1, Rep.mono s1 _ _ w2⟩
  · obtain ⟨b, w1, w2⟩ := h.ow j d' q
    exact ⟨b, w1, w2.mono s1 (upd_ne (hne j b ⟨_, q, True.intro, w1⟩))⟩
  · obtain ⟨w1, w2⟩ := h.lk j q' es q
    exact ⟨w1, w2.mono s1 (upd_ne (hne j q' ⟨_, q, True.intro, w1⟩))⟩
/-- a new object of one's own, floating -/
theorem Hs.fresh (h : Hs K H0 σ δ G H) {p : Addr} {o : HO} {d : D} (n : H p = none) (w : Own K G (upd H p o) p d) : Hs K H0 (some (.ref p) :: σ) (.ow d :: δ) G (upd H p o) := by
  have nat : ∀ i, ¬ At σ δ i p := fun i a => by
    obtain ⟨o', e, _⟩ := h.soft a
    rw [n] at e; cases e
  have gp : G p = none := by
    rcases h.ex p with ⟨z, _⟩ | ⟨z, _⟩
    · exact z.trans n
    · exact z
  have hne : ∀ i b, At σ δ i b → b ≠ p := fun i b a z => by subst z; exact nat i a
  have a0 : ∀ b, At (some (.ref p) :: σ) (.ow d :: δ) 0 b ↔ b = p := fun b => by
    rw [at_zero]
    constructor
    · rintro ⟨_, z⟩; cases z; rfl
    · rintro rfl; exact ⟨True.intro, rfl⟩
  refine ⟨by simp [h.len], h.base, fun b => ?_, fun j d' q => ?_, fun j d' q => ?_, fun j q' es q => ?_, fun j k b a1 a2 => ?_⟩
  · by_cases hb : b = p
    · subst hb; exact .inr ⟨gp, 0, (a0 b).mpr rfl⟩
    · rw [upd_ne hb]
      rcases h.ex b with ⟨z1, z2⟩ | ⟨z1, j, z2⟩
      · refine .inl ⟨z1, fun j a => ?_⟩
        cases j with
        | zero => exact hb ((a0 b).mp a)
        | succ j => exact z2 j (at_cons.mp a)
      · exact .inr ⟨z1, j + 1, at_cons.mpr z2⟩
  · cases j with
    | zero => simp at q
    | succ j => simpa using h.fr j d' (by simpa using q)
  · cases j with
    | zero =>
      simp at q; subst q
      exact ⟨p, rfl, w⟩
    | succ j =>
      obtain ⟨b, w1, w2⟩ := h.ow j d' (by simpa using q)
      exact ⟨b, by simpa using w1, w2.mono (Same.refl _) (upd_ne (hne j b ⟨.ow d', by simpa using q, True.intro, w1⟩))⟩
  · cases j with
    | zero => simp at q
    | succ j =>
      obtain ⟨w1, w2⟩ := h.lk j q' es (by simpa using q)
      exact ⟨by simpa using w1, w2.mono (Same.refl _) (upd_ne (hne j q' ⟨.lk q' es, by simpa using q, True.intro, w1⟩))⟩
  · cases j with
    | zero =>
      cases k with
      | zero => rfl
      | succ k => exact absurd ((a0 b).mp a1) (hne k b (at_cons.mp a2))
    | succ j =>
      cases k with
      | zero => exact absurd ((a0 b).mp a2) (hne j b (at_cons.mp a1))
      | succ k =>
        have := h.ne j k b (at_cons.mp a1) (at_cons.mp a2)
        omega
/-- what is one's own changes -/
theorem Hs.write (h : Hs K H0 σ δ G H) {i : Nat} {p : Addr} {d d' : D} {o : HO} (e : δ[i]? = some (.ow d)) (e1 : σ[i]? = some (some (.ref p))) (w : Own K G (upd H p o) p d') : Hs K H0 σ (δ.set i (.ow d')) G (upd H p o) := by
  have hi : i < δ.length := (List.getElem?_eq_some_iff.mp e).1
  have ai : At σ δ i p := ⟨_, e, True.intro, e1⟩
  have gp : G p = none := by
    rcases h.ex p with ⟨_, z⟩ | ⟨z, _⟩
    · exact absurd ai (z i)
    · exact z
  have ati : ∀ b, At σ (δ.set i (.ow d')) i b ↔ b = p := fun b => by
    constructor
    · rintro ⟨_, _, _, z⟩; rw [e1] at z; cases z; rfl
    · rintro rfl; exact ⟨_, List.getElem?_set_self hi, True.intro, e1⟩
  have aeq : ∀ j b, At σ (δ.set i (.ow d')) j b ↔ At σ δ j b := fun j b => by
    by_cases hj : j = i
    · subst hj
      rw [ati]
      constructor
      · rintro rfl; exact ai
      · rintro ⟨_, _, _, z⟩; rw [e1] at z; cases z; rfl
    · exact at_setD hj
  have hne : ∀ j b, j ≠ i → At σ δ j b → b ≠ p := fun j b hj a z => by subst z; exact hj (h.ne j i b a ai)
  refine ⟨by rw [List.length_set]; exact h.len, h.base, fun b => ?_, fun j d2 q => ?_, fun j d2 q => ?_, fun j q' es q => ?_, fun j k b a1 a2 => h.ne j k b ((aeq j b).mp a1) ((aeq k b).mp a2)⟩
  · by_cases hb : b = p
    · subst hb; exact .inr ⟨gp, i, (ati b).mpr rfl⟩
    · rw [upd_ne hb]
      rcases h.ex b with ⟨z1, z2⟩ | ⟨z1, j, z2⟩
      · exact .inl ⟨z1, fun j a => z2 j ((aeq j b).mp a)⟩
      · exact .inr ⟨z1, j, (aeq j b).mpr z2⟩
  · by_cases hj : j = i
    · subst hj; rw [List.getElem?_set_self hi] at q; cases q
    · rw [List.getElem?_set_ne (Ne.symm hj)] at q; exact h.fr j d2 q
  · by_cases hj : j = i
    · subst hj; rw [List.getElem?_set_self hi] at q; cases q
      exact ⟨p, e1, w⟩
    · rw [List.getElem?_set_ne (Ne.symm hj)] at q
      obtain ⟨b, w1, w2⟩ := h.ow j d2 q
      exact ⟨b, w1, w2.mono (Same.refl _) (upd_ne (hne j b hj ⟨_, q, True.intro, w1⟩))⟩
  · by_cases hj : j = i
    · subst hj; rw [List.getElem?_set_self hi] at q; cases q
    · rw [List.getElem?_set_ne (Ne.symm hj)] at q
      obtain ⟨w1, w2⟩ := h.lk j q' es q
      exact ⟨w1, w2.mono (Same.refl _) (upd_ne (hne j q' hj ⟨_, q, True.intro, w1⟩))⟩
/-- what is lent changes -/
theorem Hs.writeL (h : Hs K H0 σ δ G H) {i : Nat} {p : Addr} {d d' : D} {o : HO} (e : δ[i]? = some (.lk p d)) (e1 : σ[i]? = some (some (.ref p))) (w : Own K G (upd H p o) p d') : Hs K H0 σ (δ.set i (.lk p d')) G (upd H p o) := by
  have hi : i < δ.length := (List.getElem?_eq_some_iff.mp e).1
  have ai : At σ δ i p := ⟨_, e, True.intro, e1⟩
  have gp : G p = none := by
    rcases h.ex p with ⟨_, z⟩ | ⟨z, _⟩
    · exact absurd ai (z i)
    · exact z
  have ati : ∀ b, At σ (δ.set i (.lk p d')) i b ↔ b = p := fun b => by
    constructor
    · rintro ⟨_, _, _, z⟩; rw [e1] at z; cases z; rfl
    · rintro rfl; exact ⟨_, List.getElem?_set_self hi, True.intro, e1⟩
  have aeq : ∀ j b, At σ (δ.set i (.lk p d')) j b ↔ At σ δ j b := fun j b => by
    by_cases hj : j = i
    · subst hj
      rw [ati]
      constructor
      · rintro rfl; exact ai
      · rintro ⟨_, _, _, z⟩; rw [e1] at z; cases z; rfl
    · exact at_setD hj
  have hne : ∀ j b, j ≠ i → At σ δ j b → b ≠ p := fun j b hj a z => by subst z; exact hj (h.ne j i b a ai)
  refine ⟨by rw [List.length_set]; exact h.len, h.base, fun b => ?_, fun j d2 q => ?_, fun j d2 q => ?_, fun j q' es q => ?_, fun j k b a1 a2 => h.ne j k b ((aeq j b).mp a1) ((aeq k b).mp a2)⟩
  · by_cases hb : b = p
    · subst hb; exact .inr ⟨gp, i, (ati b).mpr rfl⟩
    · rw [upd_ne hb]
      rcases h.ex b with ⟨z1, z2⟩ | ⟨z1, j, z2⟩
      · exact .inl ⟨z1, fun j a => z2 j ((aeq j b).mp a)⟩
      · exact .inr ⟨z1, j, (aeq j b).mpr z2⟩
  · by_cases hj : j = i
    · subst hj; rw [List.getElem?_set_self hi] at q; cases q
    · rw [List.getElem?_set_ne (Ne.symm hj)] at q; exact h.fr j d2 q
  · by_cases hj : j = i
    · subst hj; rw [List.getElem?_set_self hi] at q; cases q
    · rw [List.getElem?_set_ne (Ne.symm hj)] at q
      obtain ⟨b, w1, w2⟩ := h.ow j d2 q
      exact ⟨b, w1, w2.mono (Same.refl _) (upd_ne (hne j b hj ⟨_, q, True.intro, w1⟩))⟩
  · by_cases hj : j = i
    · subst hj; rw [List.getElem?_set_self hi] at q; cases q
      exact ⟨e1, w⟩
    · rw [List.getElem?_set_ne (Ne.symm hj)] at q
      obtain ⟨w1, w2⟩ := h.lk j q' es q
      exact ⟨w1, w2.mono (Same.refl _) (upd_ne (hne j q' hj ⟨_, q, True.intro, w1⟩))⟩

/-- fixed data may be forgotten -/
inductive Fg : List Sl → List Sl → Prop where
  | nil : Fg [] []
  | same {l : Sl} {a b : List Sl} (h : Fg a b) : Fg (l :: a) (l :: b)
  | un {d : D} {a b : List Sl} (h : Fg a b) : Fg (.fr d :: a) (.un :: b)
theorem Fg.refl : ∀ a : List Sl, Fg a a
  | [] => .nil
  | _ :: a => .same (Fg.refl a)
theorem Fg.get {a b : List Sl} (f : Fg a b) : ∀ i : Nat, b[i]? = a[i]? ∨ (b[i]? = some .un ∧ ∃ d, a[i]? = some (.fr d)) := by
  induction f with
  | nil => exact fun i => .inl rfl
  | same h ih =>
    intro i
    cases i with
    | zero => exact .inl rfl
    | succ i => simpa using ih i
  | @un d a b h ih =>
    intro i
    cases i with
    | zero => exact .inr ⟨rfl, d, rfl⟩
    | succ i => simpa using ih i
theorem Fg.length {a b : List Sl} (f : Fg a b) : a.length = b.length := by
  induction f with
  | nil => rfl
  | same _ ih => simp [ih]
  | un _ ih => simp [ih]
theorem Hs.forget {δ' : List Sl} (h : Hs K H0 σ δ G H) (f : Fg δ δ') : Hs K H0 σ δ' G H := by
  have ae : ∀ i p, At σ δ' i p ↔ At σ δ i p := fun i p => by
    unfold At
    rcases f.get i with e | ⟨e1, d, e2⟩
    · rw [e]
    · rw [e1, e2]
      constructor
      · rintro ⟨l, z, m, _⟩; cases z; exact m.elim
      · rintro ⟨l, z, m, _⟩; cases z; exact m.elim
  refine ⟨h.len.trans f.length, h.base, fun b => ?_, fun i d e => ?_, fun i d e => ?_, fun i p d e => ?_, fun i j p a1 a2 => h.ne i j p ((ae i p).mp a1) ((ae j p).mp a2)⟩
  · rcases h.ex b with ⟨z1, z2⟩ | ⟨z1, i, z2⟩
    · exact .inl ⟨z1, fun i a => z2 i ((ae i b).mp a)⟩
    · exact .inr ⟨z1, i, (ae i b).mpr z2⟩
  · rcases f.get i with z | ⟨z, _⟩
    · exact h.fr i d (z ▸ e)
    · rw [z] at e; cases e
  · rcases f.get i with z | ⟨z, _⟩
    · exact h.ow i d (z ▸ e)
    · rw [z] at e; cases e
  · rcases f.get i with z | ⟨z, _⟩
    · exact h.lk i p d (z ▸ e)
    · rw [z] at e; cases e
end
end M

set_option Elab.async false
set_option linter.all false
set_option maxRecDepth 100000
set_option maxHeartbeats 4000000
namespace M
open PySem PySem.Spec PyProof.Rows L2

/-- the top object in the whole heap, what is in it fixed -/
def RepB (K : PySem.W.Frag) (G H : Hp) : D → V → Prop
  | .non, v => v = .non
  | .bl b, v => v = .bl b
  | .int i, v => v = .int i
  | .str x, v => v = .str x
  | .tup xs, v => ∃ a vs, v = .ref a ∧ H a = some (.tup vs) ∧ Reps K G xs vs
  | .lst xs, v => ∃ a vs, v = .ref a ∧ SqL K H a vs ∧ Reps K G xs vs
  | .dK kvs, v => ∃ a kws, v = .ref a ∧ H a = some (.dK kws) ∧ RepK K G kvs kws
  | .dT kvs, v => ∃ a kws, v = .ref a ∧ H a = some (.dT kws) ∧ RepT K G kvs kws

section
variable {K : PySem.W.Frag} {H0 : Hp} {σ : L2.St} {δ : List Sl} {G G' H H' : Hp} {d : D} {v : V}
theorem Rep.b (s : Same G H) (h : Rep K G d v) : RepB K G H d v := by
  cases d with
  | tup xs => simp only [Rep] at h; obtain ⟨a, vs, h1, h2, h3⟩ := h; exact ⟨a, vs, h1, s _ _ h2, h3⟩
  | lst xs => simp only [Rep] at h; obtain ⟨a, vs, h1, h2, h3⟩ := h; exact ⟨a, vs, h1, s.seq h2, h3⟩
  | dK xs => simp only [Rep] at h; obtain ⟨a, vs, h1, h2, h3⟩ := h; exact ⟨a, vs, h1, s _ _ h2, h3⟩
  | dT xs => simp only [Rep] at h; obtain ⟨a, vs, h1, h2, h3⟩ := h; exact ⟨a, vs, h1, s _ _ h2, h3⟩
  | _ => simp only [Rep] at h; exact h
theorem RepB.mono (h : RepB K G H d v) (g : Same G G') (s : Same H H') : RepB K G' H' d v := by
  cases d with
  | tup xs => obtain ⟨a, vs, h1, h2, h3⟩ := h; exact ⟨a, vs, h1, s _ _ h2, Reps.mono g _ _ h3⟩
  | lst xs => obtain ⟨a, vs, h1, h2, h3⟩ := h; exact ⟨a, vs, h1, s.seq h2, Reps.mono g _ _ h3⟩
  | dK xs => obtain ⟨a, vs, h1, h2, h3⟩ := h; exact ⟨a, vs, h1, s _ _ h2, RepK.mono g _ _ h3⟩
  | dT xs => obtain ⟨a, vs, h1, h2, h3⟩ := h; exact ⟨a, vs, h1, s _ _ h2, RepT.mono g _ _ h3⟩
  | _ => exact h
theorem Own.b {p : Addr} (h : Own K G H p d) : RepB K G H d (.ref p) := by
  cases d with
  | lst ds => obtain ⟨vs, h1, h2⟩ := h; exact ⟨p, vs, rfl, SqL.of h1, h2⟩
  | dK ds => obtain ⟨vs, h1, h2⟩ := h; exact ⟨p, vs, rfl, h1, h2⟩
  | dT ds => obtain ⟨vs, h1, h2⟩ := h; exact ⟨p, vs, rfl, h1, h2⟩
  | _ => exact h.elim
/-- in the whole heap -/
theorem RepB.all (h : RepB K G H d v) (s : Same G H) : Rep K H d v := by
  cases d with
  | tup xs => obtain ⟨a, vs, h1, h2, h3⟩ := h; simp only [Rep]; exact ⟨a, vs, h1, h2, Reps.mono s _ _ h3⟩
  | lst xs => obtain ⟨a, vs, h1, h2, h3⟩ := h; simp only [Rep]; exact ⟨a, vs, h1, h2, Reps.mono s _ _ h3⟩
  | dK xs => obtain ⟨a, vs, h1, h2, h3⟩ := h; simp only [Rep]; exact ⟨a, vs, h1, h2, RepK.mono s _ _ h3⟩
  | dT xs => obtain ⟨a, vs, h1, h2, h3⟩ := h; simp only [Rep]; exact ⟨a, vs, h1, h2, RepT.mono s _ _ h3⟩
  | _ => simp only [Rep]; exact h
end

/-- from one state of the body to a later one, by an expression -/
structure Nx (K : PySem.W.Frag) (H0 : Hp) (σ : L2.St) (δ : List Sl) (G H G' H' : Hp) : Prop where
  hs : Hs K H0 σ δ G' H'
  g : Same G G'
  h : Same H H'
theorem Nx.refl {K : PySem.W.Frag} {H0 : Hp} {σ : L2.St} {δ : List Sl} {G H : Hp} (h : Hs K H0 σ δ G H) : Nx K H0 σ δ G H G H := ⟨h, Same.refl _, Same.refl _⟩
theorem Nx.trans {K : PySem.W.Frag} {H0 : Hp} {σ : L2.St} {δ : List Sl} {G H G' H' G2 H2 : Hp} (a : Nx K H0 σ δ G H G' H') (b : Nx K H0 σ δ G' H' G2 H2) : Nx K H0 σ δ G H G2 H2 := ⟨b.hs, a.g.trans b.g, a.h.trans b.h⟩

abbrev RE := List Sl → (D → Prop) → Prop
abbrev RT := List Sl → (Bool → Prop) → Prop
abbrev RA := List Sl → (List D → Prop) → Prop
def liftE (K : PySem.W.Frag) (H0 : Hp) (t : RE) : TE := fun σ H Q => ∃ δ G Qd, Hs K H0 σ δ G H ∧ t δ Qd ∧ ∀ v H' G' d, Nx K H0 σ δ G H G' H' → Rep K G' d v → Qd d → Q v H'
def liftB (K : PySem.W.Frag) (H0 : Hp) (t : RE) : TE := fun σ H Q => ∃ δ G Qd, Hs K H0 σ δ G H ∧ t δ Qd ∧ ∀ v H' G' d, Nx K H0 σ δ G H G' H' → RepB K G' H' d v → Qd d → Q v H'
/-- new: of one's own, floating -/
def liftN (K : PySem.W.Frag) (H0 : Hp) (t : RE) : TE := fun σ H Q => ∃ δ G Qd, Hs K H0 σ δ G H ∧ t δ Qd ∧ ∀ v H' G' d, Hs K H0 (some v :: σ) (.ow d :: δ) G' H' → Same G G' → Same H H' → Qd d → Q v H'
def liftT (K : PySem.W.Frag) (H0 : Hp) (t : RT) : TT := fun σ H Q => ∃ δ G Qd, Hs K H0 σ δ G H ∧ t δ Qd ∧ ∀ b H' G', Nx K H0 σ δ G H G' H' → Qd b → Q b H'
def liftA (K : PySem.W.Frag) (H0 : Hp) (t : RA) : TA := fun σ H Q => ∃ δ G Qd, Hs K H0 σ δ G H ∧ t δ Qd ∧ ∀ vs H' G' ds, Nx K H0 σ δ G H G' H' → Reps K G' ds vs → Qd ds → Q vs H'
def PE2 (X : Cx) (H0 : Hp) (e : Expr) (t : RE) : Prop := PE X e (liftE X.K H0 t)
def PB2 (X : Cx) (H0 : Hp) (e : Expr) (t : RE) : Prop := PE X e (liftB X.K H0 t)
def PN2 (X : Cx) (H0 : Hp) (e : Expr) (t : RE) : Prop := PE X e (liftN X.K H0 t)
def PT2 (X : Cx) (H0 : Hp) (e : Expr) (t : RT) : Prop := PT X e (liftT X.K H0 t)
def PW2 (X : Cx) (H0 : Hp) (e : Expr) (t : RT) : Prop := PW X e (liftT X.K H0 t)
def PA2 (X : Cx) (H0 : Hp) (es : List Expr) (t : RA) : Prop := PA X es (liftA X.K H0 t)

theorem PE.weak {X : Cx} {e : Expr} {t t' : TE} (h : PE X e t) (k : ∀ σ H Q, t' σ H Q → t σ H Q) : PE X e t' := fun pins s σ H Q I hw => h pins s σ H Q I (k σ H Q hw)
theorem PT.weak {X : Cx} {e : Expr} {t t' : TT} (h : PT X e t) (k : ∀ σ H Q, t' σ H Q → t σ H Q) : PT X e t' := fun pins s σ H Q I hw => h pins s σ H Q I (k σ H Q hw)
theorem PW.weak {X : Cx} {e : Expr} {t t' : TT} (h : PW X e t) (k : ∀ σ H Q, t' σ H Q → t σ H Q) : PW X e t' := fun whole pins s σ H Q I hw => h whole pins s σ H Q I (k σ H Q hw)
theorem PA.weak {X : Cx} {e : List Expr} {t t' : TA} (h : PA X e t) (k : ∀ σ H Q, t' σ H Q → t σ H Q) : PA X e t' := fun pos pins s σ H Q I hw => h pos pins s σ H Q I (k σ H Q hw)
theorem PS.weak {X : Cx} {e : Stmt} {t t' : TS} (h : PS X e t) (k : ∀ D σ H, t' D σ H → t D σ H) : PS X e t' := fun pins s σ H Q I hw => h pins s σ H Q I (k Q σ H hw)
theorem PSs.weak {X : Cx} {e : List Stmt} {t t' : TS} (h : PSs X e t) (k : ∀ D σ H, t' D σ H → t D σ H) : PSs X e t' := fun pins s σ H Q I hw => h pins s σ H Q I (k Q σ H hw)

section
variable {X : Cx} {H0 : Hp} {e a b c : Expr} {t ta tb tc : RE} {pos : Pos}
theorem PE2.bo (h : PE2 X H0 e t) : PB2 X H0 e t := PE.weak h fun σ H Q ⟨δ, G, Qd, hs, ht, k⟩ => ⟨δ, G, Qd, hs, ht, fun v H' G' d n r q => k v H' G' d n (Rep.b n.hs.sub r) q⟩
theorem PN2.fx (h : PN2 X H0 e t) : PE2 X H0 e t := PE.weak h fun σ H Q ⟨δ, G, Qd, hs, ht, k⟩ => ⟨δ, G, Qd, hs, ht, fun v H' G' d n sg sh q => by
  obtain ⟨G2, n2, s2, r2⟩ := n.settle
  exact k v H' G2 d ⟨n2, sg.trans s2, sh⟩ r2 q⟩
theorem PN2.bo (h : PN2 X H0 e t) : PB2 X H0 e t := h.fx.bo

/-! ### names, constants -/
def rC (d : D) (_ : List Sl) (Q : D → Prop) : Prop := Q d
def rVar (i : Nat) (δ : List Sl) (Q : D → Prop) : Prop := match δ[i]? with
  | some (.fr d) => Q d
  | _ => False
def rVarB (i : Nat) (δ : List Sl) (Q : D → Prop) : Prop := match δ[i]? with
  | some (.fr d) => Q d
  | some (.ow d) => Q d
  | some (.lk _ d) => Q d
  | _ => False
theorem e_var (i : Nat) {x : Str} {pos : Pos} (hN : X.N[i]? = some x := by rfl) (hv : Vis X.env.scope x := by first | exact Or.inl rfl | exact Or.inr (Or.inl rfl) | exact Or.inr (Or.inr rfl)) (hd : (x == ("__debug__" : Str)) = false := by decide)
    (hcd : (x == ("__classdict__" : Str)) = false := by decide) : PE2 X H0 (.Name x pos) (rVar i) := PE.weak (pe_var hN hv hd hcd) fun σ H Q ⟨δ, G, Qd, hs, ht, k⟩ => by
  unfold rVar at ht
  split at ht
  · rename_i d e
    obtain ⟨v, e1, r⟩ := hs.fr i d e
    exact ⟨v, e1, k v H G d (Nx.refl hs) r ht⟩
  · exact ht.elim
theorem b_var (i : Nat) {x : Str} {pos : Pos} (hN : X.N[i]? = some x := by rfl) (hv : Vis X.env.scope x := by first | exact Or.inl rfl | exact Or.inr (Or.inl rfl) | exact Or.inr (Or.inr rfl)) (hd : (x == ("__debug__" : Str)) = false := by decide)
    (hcd : (x == ("__classdict__" : Str)) = false := by decide) : PB2 X H0 (.Name x pos) (rVarB i) := PE.weak (pe_var hN hv hd hcd) fun σ H Q ⟨δ, G, Qd, hs, ht, k⟩ => by
  unfold rVarB at ht
  split at ht
  · rename_i d e
    obtain ⟨v, e1, r⟩ := hs.fr i d e
    exact ⟨v, e1, k v H G d (Nx.refl hs) (Rep.b hs.sub r) ht⟩
  · rename_i d e
    obtain ⟨p, e1, o⟩ := hs.ow i d e
    exact ⟨_, e1, k _ H G d (Nx.refl hs) o.b ht⟩
  · rename_i p d e
    obtain ⟨e1, o⟩ := hs.lk i p d e
    exact ⟨_, e1, k _ H G d (Nx.refl hs) o.b ht⟩
  · exact ht.elim
theorem cst {d : D} {v : V} (h : PE X e (tC v)) (r : ∀ G, Rep X.K G d v) : PE2 X H0 e (rC d) := PE.weak h fun σ H Q ⟨δ, G, Qd, hs, ht, k⟩ => k v H G d (Nx.refl hs) (r G) ht
theorem e_int {i : Int} {j : Nat} {pos : Pos} : PE2 X H0 (.Constant (.int i) j pos) (rC (.int i)) := cst pe_int fun _ => by simp only [Rep]
theorem e_bl {b : Bool} {j : Nat} {pos : Pos} : PE2 X H0 (.Constant (.bool b) j pos) (rC (.bl b)) := cst pe_bl fun _ => by simp only [Rep]
theorem e_non {j : Nat} {pos : Pos} : PE2 X H0 (.Constant .none j pos) (rC .non) := cst pe_non fun _ => by simp only [Rep]
theorem e_str {x : Str} {j : Nat} {pos : Pos} : PE2 X H0 (.Constant (.str x) j pos) (rC (.str x)) := cst pe_str fun _ => by simp only [Rep]

/-! ### an operation on two values: its result is fixed -/
def Lf2 (K : PySem.W.Frag) (r : R2) (r2 : D → D → (D → Prop) → Prop) : Prop :=
  ∀ (H0 : Hp) (σ : L2.St) (δ : List Sl) (G H : Hp) (x y : V) (dx dy : D) (Qd : D → Prop) (Q : VK), Hs K H0 σ δ G H → RepB K G H dx x → RepB K G H dy y → r2 dx dy Qd →
    (∀ v H' G' d, Nx K H0 σ δ G H G' H' → Rep K G' d v → Qd d → Q v H') → r x y H Q
def rOp (r2 : D → D → (D → Prop) → Prop) (ta tb : RE) (δ : List Sl) (Q : D → Prop) : Prop := ta δ fun x => tb δ fun y => r2 x y Q
theorem lift_op {r : R2} {r2 : D → D → (D → Prop) → Prop} (lf : Lf2 X.K r r2) : ∀ σ H Q, liftE X.K H0 (rOp r2 ta tb) σ H Q → tOp r (liftB X.K H0 ta) (liftB X.K H0 tb) σ H Q :=
  fun σ H Q ⟨δ, G, Qd, hs, ht, k⟩ => ⟨δ, G, _, hs, ht, fun v H1 G1 d1 n1 r1 q1 => ⟨δ, G1, _, n1.hs, q1, fun v2 H2 G2 d2 n2 r2 q2 =>
    lf H0 σ δ G2 H2 v v2 d1 d2 Qd Q n2.hs (r1.mono n2.g n2.h) r2 q2 fun v3 H3 G3 d3 n3 r3 q3 => k v3 H3 G3 d3 ((n1.trans n2).trans n3) r3 q3⟩⟩
theorem e_op {op : Operator} {r : R2} {r2 : D → D → (D → Prop) → Prop} (ho : OpR X (binaryOp op) r) (lf : Lf2 X.K r r2) (ha : PB2 X H0 a ta) (hb : PB2 X H0 b tb) : PE2 X H0 (.BinOp a op b pos) (rOp r2 ta tb) :=
  PE.weak (pe_op ho ha hb) (lift_op lf)
theorem e_cmp {op : CmpOp} {r : R2} {r2 : D → D → (D → Prop) → Prop} (ho : OpR X (compareOp op) r) (lf : Lf2 X.K r r2) (ha : PB2 X H0 a ta) (hb : PB2 X H0 b tb) (hm : behindInMarks op b = false) : PE2 X H0 (.Compare a [op] [b] pos) (rOp r2 ta tb) :=
  PE.weak (pe_cmpR ho ha hb hm) (lift_op lf)
/-- a value that is a bool, as a test -/
def rTest (t : RE) (δ : List Sl) (Q : Bool → Prop) : Prop := t δ fun d => match d with
  | .bl k => Q k
  | _ => False
theorem lift_test {t' : TE} (h : ∀ σ H Q, liftE X.K H0 t σ H Q → t' σ H Q) : ∀ σ H Q, liftT X.K H0 (rTest t) σ H Q → tTest t' σ H Q := fun σ H Q ⟨δ, G, Qd, hs, ht, k⟩ => h σ H _ ⟨δ, G, _, hs, ht, fun v H' G' d n r q => by
  cases d with
  | bl x => exact ⟨x, by simpa only [Rep] using r, k x H' G' n q⟩
  | _ => exact q.elim⟩
theorem t_cmp {op : CmpOp} {r : R2} {r2 : D → D → (D → Prop) → Prop} (ho : OpR X (compareOp op) r) (lf : Lf2 X.K r r2) (ha : PB2 X H0 a ta) (hb : PB2 X H0 b tb) (hm : behindInMarks op b = false) : PT2 X H0 (.Compare a [op] [b] pos) (rTest (rOp r2 ta tb)) :=
  PT.weak (pt_cmpR ho ha hb hm) (lift_test (lift_op lf))
theorem lift_chain {r r' : R2} {r2 r2' : D → D → (D → Prop) → Prop} (lf : Lf2 X.K r r2) (lf' : Lf2 X.K r' r2') : ∀ σ H Q, liftE X.K H0 (fun δ Q => ta δ fun x => tb δ fun y => r2 x y fun z => match z with
      | .bl k => if k = true then tc δ fun u => r2' y u Q else Q (.bl false)
      | _ => False) σ H Q → tChain r r' (liftB X.K H0 ta) (liftB X.K H0 tb) (liftB X.K H0 tc) σ H Q :=
  fun σ H Q ⟨δ, G, Qd, hs, ht, k⟩ => ⟨δ, G, _, hs, ht, fun v H1 G1 d1 n1 r1 q1 => ⟨δ, G1, _, n1.hs, q1, fun v2 H2 G2 d2 n2 r2 q2 =>
    lf H0 σ δ G2 H2 v v2 d1 d2 _ _ n2.hs (r1.mono n2.g n2.h) r2 q2 fun v3 H3 G3 d3 n3 r3 q3 => by
      cases d3 with
      | bl z =>
        refine ⟨z, by simpa only [Rep] using r3, ?_⟩
        cases z with
        | true =>
          rw [if_pos rfl]
          replace q3 : tc δ fun u => r2' d2 u Qd := q3
          exact ⟨δ, G3, _, n3.hs, q3, fun v4 H4 G4 d4 n4 r4 q4 => lf' H0 σ δ G4 H4 v2 v4 d2 d4 Qd Q n4.hs (r2.mono (n3.g.trans n4.g) (n3.h.trans n4.h)) r4 q4 fun v5 H5 G5 d5 n5 r5 q5 => k v5 H5 G5 d5 ((((n1.trans n2).trans n3).trans n4).trans n5) r5 q5⟩
        | false =>
          rw [if_neg Bool.false_ne_true]
          replace q3 : Qd (.bl false) := q3
          exact k _ H3 G3 _ ((n1.trans n2).trans n3) (by simp only [Rep]) q3
      | _ => exact q3.elim⟩⟩
def rChain (r2 r2' : D → D → (D → Prop) → Prop) (ta tb tc : RE) (δ : List Sl) (Q : D → Prop) : Prop := ta δ fun x => tb δ fun y => r2 x y fun z => match z with
      | .bl k => if k = true then tc δ fun u => r2' y u Q else Q (.bl false)
      | _ => False
theorem e_chain {op op' : CmpOp} {r r' : R2} {r2 r2' : D → D → (D → Prop) → Prop} (ho : OpR X (compareOp op) r) (ho' : OpR X (compareOp op') r') (lf : Lf2 X.K r r2) (lf' : Lf2 X.K r' r2') (ha : PB2 X H0 a ta) (hb : PB2 X H0 b tb) (hc : PB2 X H0 c tc)
    (hm : lastMarks [op, op'] [b, c] = false := by with_unfolding_all rfl) : PE2 X H0 (.Compare a [op, op'] [b, c] pos) (rChain r2 r2' ta tb tc) := PE.weak (pe_chain ho ho' ha hb hc hm) (lift_chain lf lf')
theorem t_chain {op op' : CmpOp} {r r' : R2} {r2 r2' : D → D → (D → Prop) → Prop} (ho : OpR X (compareOp op) r) (ho' : OpR X (compareOp op') r') (lf : Lf2 X.K r r2) (lf' : Lf2 X.K r' r2') (ha : PB2 X H0 a ta) (hb : PB2 X H0 b tb) (hc : PB2 X H0 c tc)
    (hm : lastMarks [op, op'] [b, c] = false := by with_unfolding_all rfl) : PT2 X H0 (.Compare a [op, op'] [b, c] pos) (rTest (rChain r2 r2' ta tb tc)) := PT.weak (pt_chain ho ho' ha hb hc hm) (lift_test (lift_chain lf lf'))

/-! ### ints -/
def dI (C : Int → Int → Prop) (g : Int → Int → D) (x y : D) (Q : D → Prop) : Prop := match x, y with
  | .int i, .int j => C i j ∧ Q (g i j)
  | _, _ => False
def dI0 (g : Int → Int → D) (x y : D) (Q : D → Prop) : Prop := match x, y with
  | .int i, .int j => Q (g i j)
  | _, _ => False
theorem lf_i {K : PySem.W.Frag} {C : Int → Int → Prop} {g : Int → Int → V} {g2 : Int → Int → D} (hg : ∀ G i j, Rep K G (g2 i j) (g i j)) : Lf2 K (rI C g) (dI C g2) := fun H0 σ δ G H x y dx dy Qd Q hs rx ry h k => by
  cases dx <;> cases dy <;> first | exact h.elim | skip
  rename_i i j
  obtain rfl : x = .int i := rx
  obtain rfl : y = .int j := ry
  exact ⟨i, j, rfl, rfl, h.1, k _ H G _ (Nx.refl hs) (hg G i j) h.2⟩
theorem lf_i0 {K : PySem.W.Frag} {g : Int → Int → V} {g2 : Int → Int → D} (hg : ∀ G i j, Rep K G (g2 i j) (g i j)) : Lf2 K (rI0 g) (dI0 g2) := fun H0 σ δ G H x y dx dy Qd Q hs rx ry h k => by
  cases dx <;> cases dy <;> first | exact h.elim | skip
  rename_i i j
  obtain rfl : x = .int i := rx
  obtain rfl : y = .int j := ry
  exact ⟨i, j, rfl, rfl, k _ H G _ (Nx.refl hs) (hg G i j) h⟩
theorem lf_int {K : PySem.W.Frag} {C : Int → Int → Prop} (g : Int → Int → Int) : Lf2 K (rI C fun i j => .int (g i j)) (dI C fun i j => .int (g i j)) := lf_i fun _ _ _ => by simp only [Rep]
theorem lf_int0 {K : PySem.W.Frag} (g : Int → Int → Int) : Lf2 K (rI0 fun i j => .int (g i j)) (dI0 fun i j => .int (g i j)) := lf_i0 fun _ _ _ => by simp only [Rep]
theorem lf_bl0 {K : PySem.W.Frag} (g : Int → Int → Bool) : Lf2 K (rI0 fun i j => .bl (g i j)) (dI0 fun i j => .bl (g i j)) := lf_i0 fun _ _ _ => by simp only [Rep]
/-- any divisor of at most 2^200 -/
def CDv (i j : Int) : Prop := 0 < j ∧ j < 2 ^ 200
theorem op_fdiv2 : OpR X (binaryOp .FloorDiv) (rI CDv fun i j => .int (i / j)) := opI fun i j _ _ _ _ _ hc q => by
  have e : i.fdiv j = i / j := Int.fdiv_eq_ediv_of_nonneg i (Int.le_of_lt hc.1)
  have hl : j.natAbs.log2 < 200 := by
    have h0 : j.natAbs ≠ 0 := by have := hc.1; omega
    refine (Nat.log2_lt h0).mpr ?_
    have := hc.2
    have h1 : ((j.natAbs : Nat) : Int) = j := by have := hc.1; omega
    have h2 : ((j.natAbs : Nat) : Int) < ((2 ^ 200 : Nat) : Int) := by rw [h1]; exact this
    exact Int.ofNat_lt.mp h2
  refine floordiv_int (Int.ne_of_gt hc.1) ?_ (.inl (PyProof.noPylong_of_log2 (by omega)))
  rw [e]; exact q
theorem e_add (ha : PB2 X H0 a ta) (hb : PB2 X H0 b tb) : PE2 X H0 (.BinOp a .Add b pos) (rOp (dI0 fun i j => .int (i + j)) ta tb) := e_op op_add (lf_int0 _) ha hb
theorem e_sub (ha : PB2 X H0 a ta) (hb : PB2 X H0 b tb) : PE2 X H0 (.BinOp a .Sub b pos) (rOp (dI0 fun i j => .int (i - j)) ta tb) := e_op op_sub (lf_int0 _) ha hb
theorem e_mul (ha : PB2 X H0 a ta) (hb : PB2 X H0 b tb) : PE2 X H0 (.BinOp a .Mult b pos) (rOp (dI CMul fun i j => .int (i * j)) ta tb) := e_op op_mul (lf_int _) ha hb
theorem e_fdiv (ha : PB2 X H0 a ta) (hb : PB2 X H0 b tb) : PE2 X H0 (.BinOp a .FloorDiv b pos) (rOp (dI CDv fun i j => .int (i / j)) ta tb) := e_op op_fdiv2 (lf_int _) ha hb
theorem e_mod (ha : PB2 X H0 a ta) (hb : PB2 X H0 b tb) : PE2 X H0 (.BinOp a .Mod b pos) (rOp (dI (fun _ j => 0 < j) fun i j => .int (i % j)) ta tb) := e_op op_mod (lf_int _) ha hb
theorem e_pow (ha : PB2 X H0 a ta) (hb : PB2 X H0 b tb) : PE2 X H0 (.BinOp a .Pow b pos) (rOp (dI CPow fun i j => .int (i ^ j.toNat)) ta tb) := e_op op_pow (lf_int _) ha hb
abbrev dLt := dI0 fun i j => .bl (decide (i < j))
abbrev dLe := dI0 fun i j => .bl (decide (i ≤ j))
abbrev dGt := dI0 fun i j => .bl (decide (j < i))
abbrev dGe := dI0 fun i j => .bl (decide (j ≤ i))
theorem lf_lt {K : PySem.W.Frag} : Lf2 K (rI0 fun i j => .bl (decide (i < j))) dLt := lf_bl0 _
theorem lf_le {K : PySem.W.Frag} : Lf2 K (rI0 fun i j => .bl (decide (i ≤ j))) dLe := lf_bl0 _
theorem lf_gt {K : PySem.W.Frag} : Lf2 K (rI0 fun i j => .bl (decide (j < i))) dGt := lf_bl0 _
theorem lf_ge {K : PySem.W.Frag} : Lf2 K (rI0 fun i j => .bl (decide (j ≤ i))) dGe := lf_bl0 _
/-- == of two ints, bools, texts -/
def dEqS (neg : Bool) (x y : D) (Q : D → Prop) : Prop := match x, y with
  | .int i, .int j => Q (.bl (neg != decide (i = j)))
  | .bl i, .bl j => Q (.bl (neg != decide (i = j)))
  | .str i, .str j => Q (.bl (neg != decide (i = j)))
  | _, _ => False
theorem dec_inj {α β : Type} [DecidableEq α] [DecidableEq β] {f : α → β} (hf : ∀ a b, f a = f b → a = b) (a b : α) : decide (f a = f b) = decide (a = b) := by
  by_cases h : a = b
  · subst h; simp
  · rw [decide_eq_false h, decide_eq_false fun z => h (hf _ _ z)]
theorem lf_eqS {K : PySem.W.Frag} : Lf2 K rEq (dEqS false) := fun H0 σ δ G H x y dx dy Qd Q hs rx ry h k => by
  cases dx <;> cases dy <;> first | exact h.elim | skip
  · rename_i i j
    obtain rfl : x = .bl i := rx
    obtain rfl : y = .bl j := ry
    exact ⟨rfl, k _ H G _ (Nx.refl hs) (by simp only [Rep]; rw [dec_inj (f := V.bl) (fun a b z => by cases z; rfl)]; simp) h⟩
  · rename_i i j
    obtain rfl : x = .int i := rx
    obtain rfl : y = .int j := ry
    exact ⟨rfl, k _ H G _ (Nx.refl hs) (by simp only [Rep]; rw [dec_inj (f := V.int) (fun a b z => by cases z; rfl)]; simp) h⟩
  · rename_i i j
    obtain rfl : x = .str i := rx
    obtain rfl : y = .str j := ry
    exact ⟨rfl, k _ H G _ (Nx.refl hs) (by simp only [Rep]; rw [dec_inj (f := V.str) (fun a b z => by cases z; rfl)]; simp) h⟩
theorem lf_neS {K : PySem.W.Frag} : Lf2 K rNe (dEqS true) := fun H0 σ δ G H x y dx dy Qd Q hs rx ry h k => by
  cases dx <;> cases dy <;> first | exact h.elim | skip
  · rename_i i j
    obtain rfl : x = .bl i := rx
    obtain rfl : y = .bl j := ry
    exact ⟨rfl, k _ H G _ (Nx.refl hs) (by simp only [Rep]; rw [dec_inj (f := V.bl) (fun a b z => by cases z; rfl)]; simp) h⟩
  · rename_i i j
    obtain rfl : x = .int i := rx
    obtain rfl : y = .int j := ry
    exact ⟨rfl, k _ H G _ (Nx.refl hs) (by simp only [Rep]; rw [dec_inj (f := V.int) (fun a b z => by cases z; rfl)]; simp) h⟩
  · rename_i i j
    obtain rfl : x = .str i := rx
    obtain rfl : y = .str j := ry
    exact ⟨rfl, k _ H G _ (Nx.refl hs) (by simp only [Rep]; rw [dec_inj (f := V.str) (fun a b z => by cases z; rfl)]; simp) h⟩
end
end M

set_option Elab.async false
set_option linter.all false
set_option maxRecDepth 100000
set_option maxHeartbeats 4000000
namespace M
open PySem PySem.Spec PyProof.Rows L2

/-- both ways of a test -/
structure Two (b : Bool) (A B : Prop) : Prop where
  yes : b = true → A
  no : b = false → B
theorem Two.t {A B : Prop} (h : A) : Two true A B := ⟨(fun _ => h), (fun z => by cases z)⟩
theorem Two.f {A B : Prop} (h : B) : Two false A B := ⟨(fun z => by cases z), (fun _ => h)⟩
theorem Two.dec {p : Prop} [Decidable p] {A B : Prop} (h1 : p → A) (h2 : ¬ p → B) : Two (decide p) A B := ⟨fun z => h1 (of_decide_eq_true z), fun z => h2 (of_decide_eq_false z)⟩
theorem Two.of {b : Bool} {A B : Prop} (h : if b = true then A else B) : Two b A B := by
  cases b with
  | true => exact Two.t h
  | false => exact Two.f h
/-! ### tests -/
section
variable {X : Cx} {H0 : Hp} {e a b c : Expr} {t ta tb tc : RE} {u uA uB : RT} {pos : Pos} {rest : List Expr}
def rAnd (t u : RT) (δ : List Sl) (Q : Bool → Prop) : Prop := t δ fun k => Two k (u δ Q) (Q false)
def rOr (t u : RT) (δ : List Sl) (Q : Bool → Prop) : Prop := t δ fun k => Two k (Q true) (u δ Q)
def rNot (t : RT) (δ : List Sl) (Q : Bool → Prop) : Prop := t δ fun k => Q (!k)
theorem PW2.pt (h : PW2 X H0 e u) : PT2 X H0 e u := PW.pt h
theorem t_and1 (ha : PT2 X H0 a uA) : PW2 X H0 (.BoolOp .And [a] pos) uA := pw_and1 ha
theorem t_or1 (ha : PT2 X H0 a uA) : PW2 X H0 (.BoolOp .Or [a] pos) uA := pw_or1 ha
theorem t_and (ha : PT2 X H0 a uA) (hb : PW2 X H0 (.BoolOp .And (b :: rest) pos) uB) : PW2 X H0 (.BoolOp .And (a :: b :: rest) pos) (rAnd uA uB) :=
  PW.weak (pw_and ha hb) fun σ H Q ⟨δ, G, Qd, hs, ht, k⟩ => ⟨δ, G, _, hs, ht, fun x H1 G1 n1 q1 => by
    cases x with
    | true => replace q1 := q1.yes rfl; rw [if_pos rfl]; exact ⟨δ, G1, Qd, n1.hs, q1, fun y H2 G2 n2 q2 => k y H2 G2 (n1.trans n2) q2⟩
    | false => replace q1 := q1.no rfl; rw [if_neg Bool.false_ne_true]; exact k false H1 G1 n1 q1⟩
theorem t_or (ha : PT2 X H0 a uA) (hb : PW2 X H0 (.BoolOp .Or (b :: rest) pos) uB) : PW2 X H0 (.BoolOp .Or (a :: b :: rest) pos) (rOr uA uB) :=
  PW.weak (pw_or ha hb) fun σ H Q ⟨δ, G, Qd, hs, ht, k⟩ => ⟨δ, G, _, hs, ht, fun x H1 G1 n1 q1 => by
    cases x with
    | false => replace q1 := q1.no rfl; rw [if_neg Bool.false_ne_true]; exact ⟨δ, G1, Qd, n1.hs, q1, fun y H2 G2 n2 q2 => k y H2 G2 (n1.trans n2) q2⟩
    | true => replace q1 := q1.yes rfl; rw [if_pos rfl]; exact k true H1 G1 n1 q1⟩
theorem t_not (ha : PT2 X H0 a uA) : PT2 X H0 (.UnaryOp .Not a pos) (rNot uA) :=
  PT.weak (pt_not ha) fun σ H Q ⟨δ, G, Qd, hs, ht, k⟩ => ⟨δ, G, _, hs, ht, fun x H1 G1 n1 q1 => k (!x) H1 G1 n1 q1⟩
/-- any value that is a bool -/
theorem t_val (h : PE2 X H0 e t) (he : ∀ whole, isTrue e X.env whole = (do let v ← whole; standAt e.pos; holding [v] (truthy v)) := by intro _; rfl) : PT2 X H0 e (rTest t) :=
  PT.weak (pt_val h he) (lift_test (t' := liftE X.K H0 t) fun _ _ _ z => z)

def bl? (d : D) (Q : Bool → Prop) : Prop := match d with
  | .bl k => Q k
  | _ => False
theorem bl_of {K : PySem.W.Frag} {G : Hp} {d : D} {v : V} {Q : Bool → Prop} (h : bl? d Q) (r : Rep K G d v) : ∃ k, d = .bl k ∧ v = .bl k ∧ Q k := by
  cases d with
  | bl k => exact ⟨k, rfl, by simpa only [Rep] using r, h⟩
  | _ => exact h.elim
/-- and, or, not as values (of bools) -/
def rAndV (ta tb : RE) (δ : List Sl) (Q : D → Prop) : Prop := ta δ fun x => bl? x fun k => Two k (tb δ Q) (Q (.bl false))
def rOrV (ta tb : RE) (δ : List Sl) (Q : D → Prop) : Prop := ta δ fun x => bl? x fun k => Two k (Q (.bl true)) (tb δ Q)
def rNotV (ta : RE) (δ : List Sl) (Q : D → Prop) : Prop := ta δ fun x => bl? x fun k => Q (.bl (!k))
theorem e_one {op : BoolOp} (ha : PE2 X H0 a ta) : PE2 X H0 (.BoolOp op [a] pos) ta := pe_one ha
theorem e_and (ha : PE2 X H0 a ta) (hb : PE2 X H0 (.BoolOp .And (b :: rest) pos) tb) : PE2 X H0 (.BoolOp .And (a :: b :: rest) pos) (rAndV ta tb) :=
  PE.weak (pe_and ha hb) fun σ H Q ⟨δ, G, Qd, hs, ht, k⟩ => ⟨δ, G, _, hs, ht, fun v H1 G1 d n1 r1 q1 => by
    obtain ⟨x, rfl, rfl, q1⟩ := bl_of q1 r1
    refine ⟨x, rfl, ?_⟩
    cases x with
    | true => replace q1 := q1.yes rfl; rw [if_pos rfl]; exact ⟨δ, G1, Qd, n1.hs, q1, fun v2 H2 G2 d2 n2 r2 q2 => k v2 H2 G2 d2 (n1.trans n2) r2 q2⟩
    | false => replace q1 := q1.no rfl; rw [if_neg Bool.false_ne_true]; exact k _ H1 G1 _ n1 (by simp only [Rep]) q1⟩
theorem e_or (ha : PE2 X H0 a ta) (hb : PE2 X H0 (.BoolOp .Or (b :: rest) pos) tb) : PE2 X H0 (.BoolOp .Or (a :: b :: rest) pos) (rOrV ta tb) :=
  PE.weak (pe_or ha hb) fun σ H Q ⟨δ, G, Qd, hs, ht, k⟩ => ⟨δ, G, _, hs, ht, fun v H1 G1 d n1 r1 q1 => by
    obtain ⟨x, rfl, rfl, q1⟩ := bl_of q1 r1
    refine ⟨x, rfl, ?_⟩
    cases x with
    | false => replace q1 := q1.no rfl; rw [if_neg Bool.false_ne_true]; exact ⟨δ, G1, Qd, n1.hs, q1, fun v2 H2 G2 d2 n2 r2 q2 => k v2 H2 G2 d2 (n1.trans n2) r2 q2⟩
    | true => replace q1 := q1.yes rfl; rw [if_pos rfl]; exact k _ H1 G1 _ n1 (by simp only [Rep]) q1⟩
theorem e_not (ha : PE2 X H0 a ta) : PE2 X H0 (.UnaryOp .Not a pos) (rNotV ta) :=
  PE.weak (pe_not ha) fun σ H Q ⟨δ, G, Qd, hs, ht, k⟩ => ⟨δ, G, _, hs, ht, fun v H1 G1 d n1 r1 q1 => by
    obtain ⟨x, rfl, rfl, q1⟩ := bl_of q1 r1
    exact ⟨x, rfl, k _ H1 G1 _ n1 (by simp only [Rep]) q1⟩⟩
def rIfE (c : RT) (ta tb : RE) (δ : List Sl) (Q : D → Prop) : Prop := c δ fun k => Two k (ta δ Q) (tb δ Q)
theorem e_ifExp (hc : PT2 X H0 c u) (ha : PE2 X H0 a ta) (hb : PE2 X H0 b tb) : PE2 X H0 (.IfExp c a b pos) (rIfE u ta tb) :=
  PE.weak (pe_ifExp hc ha hb) fun σ H Q ⟨δ, G, Qd, hs, ht, k⟩ => ⟨δ, G, _, hs, ht, fun x H1 G1 n1 q1 => by
    cases x with
    | true => replace q1 := q1.yes rfl; rw [if_pos rfl]; exact ⟨δ, G1, Qd, n1.hs, q1, fun v2 H2 G2 d2 n2 r2 q2 => k v2 H2 G2 d2 (n1.trans n2) r2 q2⟩
    | false => replace q1 := q1.no rfl; rw [if_neg Bool.false_ne_true]; exact ⟨δ, G1, Qd, n1.hs, q1, fun v2 H2 G2 d2 n2 r2 q2 => k v2 H2 G2 d2 (n1.trans n2) r2 q2⟩⟩
def rNeg (ta : RE) (δ : List Sl) (Q : D → Prop) : Prop := ta δ fun x => match x with
  | .int i => Q (.int (-i))
  | _ => False
theorem e_neg (ha : PB2 X H0 a ta) : PE2 X H0 (.UnaryOp .USub a pos) (rNeg ta) :=
  PE.weak (pe_un un_neg ha) fun σ H Q ⟨δ, G, Qd, hs, ht, k⟩ => ⟨δ, G, _, hs, ht, fun v H1 G1 d n1 r1 q1 => by
    cases d with
    | int i => exact ⟨i, r1, k _ H1 G1 _ n1 (by simp only [Rep]) q1⟩
    | _ => exact q1.elim⟩

/-! ### argument lists, displays -/
variable {es : List Expr} {tr : RA}
def rNil (_ : List Sl) (Q : List D → Prop) : Prop := Q []
def rCons (t : RE) (r : RA) (δ : List Sl) (Q : List D → Prop) : Prop := t δ fun d => r δ fun ds => Q (d :: ds)
theorem a_nil : PA2 X H0 [] rNil := PA.weak pa_nil fun σ H Q ⟨δ, G, Qd, hs, ht, k⟩ => k [] H G [] (Nx.refl hs) Reps.nil ht
theorem a_cons (ha : PE2 X H0 e t) (hr : PA2 X H0 es tr) (hs : starEach (e :: es) X.env = (false, eval e X.env) :: starEach es X.env := by rfl) : PA2 X H0 (e :: es) (rCons t tr) :=
  PA.weak (pa_cons ha hr hs) fun σ H Q ⟨δ, G, Qd, hs, ht, k⟩ => ⟨δ, G, _, hs, ht, fun v H1 G1 d n1 r1 q1 => ⟨δ, G1, _, n1.hs, q1, fun vs H2 G2 ds n2 r2 q2 => k (v :: vs) H2 G2 (d :: ds) (n1.trans n2) (Reps.cons (Rep.mono n2.g _ _ r1) r2) q2⟩⟩
def rTupD (r : RA) (δ : List Sl) (Q : D → Prop) : Prop := r δ fun ds => ds.length ≤ sizeLine ∧ Q (.tup ds)
def rLstD (r : RA) (δ : List Sl) (Q : D → Prop) : Prop := r δ fun ds => ds.length ≤ sizeLine ∧ Q (.lst ds)
theorem upd_mono {H : Hp} {p : Addr} {o : HO} (n : H p = none) : Same H (upd H p o) := fun b u q => by rw [upd_ne (ne_of_none q n)]; exact q
theorem e_tup {x1} (h : PA2 X H0 es tr) : PE2 X H0 (.Tuple es x1 pos) (rTupD tr) :=
  PE.weak (pe_tup h) fun σ H Q ⟨δ, G, Qd, hs, ht, k⟩ => ⟨δ, G, _, hs, ht, fun vs H1 G1 ds n1 r1 q1 => ⟨by rw [← r1.length]; exact q1.1, fun p hp => by
    obtain ⟨h2, s2⟩ := n1.hs.laid (o := .tup vs) hp
    exact k _ _ _ (.tup ds) ⟨h2, n1.g.trans s2, n1.h.trans (upd_mono hp)⟩ (by simp only [Rep]; exact ⟨p, vs, rfl, upd_same, Reps.mono s2 _ _ r1⟩) q1.2⟩⟩
theorem n_lst (h : PA2 X H0 es tr) : PN2 X H0 (.List es pos) (rLstD tr) :=
  PE.weak (pe_lst h) fun σ H Q ⟨δ, G, Qd, hs, ht, k⟩ => ⟨δ, G, _, hs, ht, fun vs H1 G1 ds n1 r1 q1 => ⟨by rw [← r1.length]; exact q1.1, fun p hp =>
    k _ _ G1 (.lst ds) (n1.hs.fresh hp ⟨vs, upd_same, r1⟩) n1.g (n1.h.trans (upd_mono hp)) q1.2⟩⟩
def rDNewK (_ : List Sl) (Q : D → Prop) : Prop := Q (.dK [])
def rDNewT (_ : List Sl) (Q : D → Prop) : Prop := Q (.dT [])
theorem n_dK {pos : Pos} : PN2 X H0 (.Dict [] [] pos) rDNewK :=
  PE.weak pe_dnewK fun σ H Q ⟨δ, G, Qd, hs, ht, k⟩ p hp => k _ _ G (.dK []) (hs.fresh hp ⟨[], upd_same, by simp only [RepK]⟩) (Same.refl _) (upd_mono hp) ht
theorem n_dT {pos : Pos} : PN2 X H0 (.Dict [] [] pos) rDNewT :=
  PE.weak pe_dnewT fun σ H Q ⟨δ, G, Qd, hs, ht, k⟩ p hp => k _ _ G (.dT []) (hs.fresh hp ⟨[], upd_same, by simp only [RepT]⟩) (Same.refl _) (upd_mono hp) ht

/-! ### items, slices -/
/-- xs[i] of a list or a tuple -/
def dIx (x y : D) (Q : D → Prop) : Prop := match x, y with
  | .lst ds, .int i => ∃ d, atI ds i = some d ∧ Q d
  | .tup ds, .int i => ∃ d, atI ds i = some d ∧ Q d
  | _, _ => False
theorem atI_rep {K : PySem.W.Frag} {G : Hp} {ds : List D} {vs : List V} {i : Int} {d : D} (r : Reps K G ds vs) (h : atI ds i = some d) : ∃ v, atI vs i = some v ∧ Rep K G d v := by
  unfold atI at h ⊢
  rw [← r.length]
  cases q : ixN ds.length i with
  | none => rw [q] at h; cases h
  | some j =>
    rw [q] at h
    exact r.get h
theorem lf_ix {K : PySem.W.Frag} : Lf2 K (rIx K) dIx := fun H0 σ δ G H x y dx dy Qd Q hs rx ry h k => by
  cases dx <;> cases dy <;> first | exact h.elim | skip
  · rename_i ds i
    obtain ⟨a, vs, rfl, h2, h3⟩ := rx
    obtain rfl : y = .int i := ry
    obtain ⟨d, q, h'⟩ := h
    obtain ⟨v, e1, r1⟩ := atI_rep h3 q
    exact .inr (.inl ⟨a, vs, i, v, rfl, rfl, SqT.of h2, e1, k _ H G _ (Nx.refl hs) r1 h'⟩)
  · rename_i ds i
    obtain ⟨a, vs, rfl, h2, h3⟩ := rx
    obtain rfl : y = .int i := ry
    obtain ⟨d, q, h'⟩ := h
    obtain ⟨v, e1, r1⟩ := atI_rep h3 q
    exact .inl ⟨a, vs, i, v, rfl, rfl, h2, e1, k _ H G _ (Nx.refl hs) r1 h'⟩
theorem e_ix (ha : PB2 X H0 a ta) (hb : PB2 X H0 b tb) (hp : PlainIx b := by intro _ _; rfl) : PE2 X H0 (.Subscript a b pos) (rOp dIx ta tb) :=
  PE.weak (pe_ix ix_seq ha hb hp) (lift_op lf_ix)

abbrev RO := List Sl → (Option Int → Prop) → Prop
def liftO (K : PySem.W.Frag) (H0 : Hp) (t : RO) : TO := fun σ H Q => ∃ δ G Qd, Hs K H0 σ δ G H ∧ t δ Qd ∧ ∀ o H' G', Nx K H0 σ δ G H G' H' → Qd o → Q o H'
def PO2 (X : Cx) (H0 : Hp) (e : Option Expr) (t : RO) : Prop := PO X e (liftO X.K H0 t)
theorem PO.weak {X : Cx} {e : Option Expr} {t t' : TO} (h : PO X e t) (k : ∀ σ H Q, t' σ H Q → t σ H Q) : PO X e t' := fun pins s σ H Q I hw => h pins s σ H Q I (k σ H Q hw)
theorem o_none : PO2 X H0 none (fun _ Q => Q none) := PO.weak po_none fun σ H Q ⟨δ, G, Qd, hs, ht, k⟩ => k none H G (Nx.refl hs) ht
def rPart (t : RE) (δ : List Sl) (Q : Option Int → Prop) : Prop := t δ fun d => match d with
  | .int i => Q (some i)
  | _ => False
theorem o_some (h : PB2 X H0 e t) : PO2 X H0 (some e) (rPart t) := PO.weak (po_some h) fun σ H Q ⟨δ, G, Qd, hs, ht, k⟩ => ⟨δ, G, _, hs, ht, fun v H1 G1 d n1 r1 q1 => by
  cases d with
  | int i => exact ⟨i, r1, k _ H1 G1 n1 q1⟩
  | _ => exact q1.elim⟩
/-- a cut of a list of data -/
def cutD (xs : List D) (lo hi : Option Int) : List D := (xs.drop (HT.sIx xs.length 0 lo)).take (HT.sIx xs.length xs.length hi - HT.sIx xs.length 0 lo)
theorem cut_rep {K : PySem.W.Frag} {G : Hp} {ds : List D} {vs : List V} (r : Reps K G ds vs) (lo hi : Option Int) : Reps K G (cutD ds lo hi) (cutV vs lo hi) := by
  unfold cutD cutV
  rw [← r.length]
  exact (r.drop _).take _
variable {lo hi : Option Expr} {tl th : RO} {p2 : Pos}
def rSlT2 (te : RE) (tl th : RO) (δ : List Sl) (Q : D → Prop) : Prop := te δ fun d => tl δ fun l => th δ fun u => match d with
  | .tup ds => Q (.tup (cutD ds l u))
  | _ => False
def rSlL2 (te : RE) (tl th : RO) (δ : List Sl) (Q : D → Prop) : Prop := te δ fun d => tl δ fun l => th δ fun u => match d with
  | .lst ds => Q (.lst (cutD ds l u))
  | _ => False
theorem n_slL (he : PB2 X H0 e t) (hl : PO2 X H0 lo tl) (hu : PO2 X H0 hi th) : PN2 X H0 (.Subscript e (.Slice lo hi none p2) pos) (rSlL2 t tl th) :=
  PE.weak (pe_slice sl_list he hl hu) fun σ H Q ⟨δ, G, Qd, hs, ht, k⟩ => ⟨δ, G, _, hs, ht, fun v H1 G1 d n1 r1 q1 => ⟨δ, G1, _, n1.hs, q1, fun l H2 G2 n2 q2 => ⟨δ, G2, _, n2.hs, q2, fun u H3 G3 n3 q3 => by
    cases d with
    | lst ds =>
      obtain ⟨a, vs, rfl, h2, h3⟩ := r1.mono (n2.g.trans n3.g) (n2.h.trans n3.h)
      refine ⟨a, vs, rfl, h2, fun p hp => k _ _ G3 (.lst (cutD ds l u)) (n3.hs.fresh hp ⟨_, upd_same, cut_rep h3 l u⟩) ((n1.trans n2).trans n3).g (((n1.trans n2).trans n3).h.trans (upd_mono hp)) q3⟩
    | _ => exact q3.elim⟩⟩⟩
end
end M

set_option Elab.async false
set_option linter.all false
set_option maxRecDepth 100000
set_option maxHeartbeats 4000000
namespace M
open PySem PySem.Spec PyProof.Rows L2
section
variable {X : Cx} {H0 : Hp} {e : Expr} {t : RE} {lo hi : Option Expr} {tl th : RO} {p2 pos : Pos}
/-- a cut of a tuple that is not the whole -/
def rCutT (te : RE) (tl th : RO) (δ : List Sl) (Q : D → Prop) : Prop := te δ fun d => tl δ fun l => th δ fun u => match d with
  | .tup ds => ¬ (HT.sIx ds.length 0 l = 0 ∧ HT.sIx ds.length ds.length u = ds.length) ∧ Q (.tup (cutD ds l u))
  | _ => False
theorem e_slT (he : PB2 X H0 e t) (hl : PO2 X H0 lo tl) (hu : PO2 X H0 hi th) : PE2 X H0 (.Subscript e (.Slice lo hi none p2) pos) (rCutT t tl th) :=
  PE.weak (pe_slice sl_tup he hl hu) fun σ H Q ⟨δ, G, Qd, hs, ht, k⟩ => ⟨δ, G, _, hs, ht, fun v H1 G1 d n1 r1 q1 => ⟨δ, G1, _, n1.hs, q1, fun l H2 G2 n2 q2 => ⟨δ, G2, _, n2.hs, q2, fun u H3 G3 n3 q3 => by
    cases d with
    | tup ds =>
      obtain ⟨a, vs, rfl, h2, h3⟩ := r1.mono (n2.g.trans n3.g) (n2.h.trans n3.h)
      refine ⟨a, vs, rfl, SqT.of h2, by rw [← h3.length]; exact q3.1, fun p hp => ?_⟩
      obtain ⟨h4, s4⟩ := n3.hs.laid (o := .tup (cutV vs l u)) hp
      exact k _ _ _ (.tup (cutD ds l u)) ⟨h4, ((n1.trans n2).trans n3).g.trans s4, ((n1.trans n2).trans n3).h.trans (upd_mono hp)⟩ (by simp only [Rep]; exact ⟨p, _, rfl, upd_same, Reps.mono s4 _ _ (cut_rep h3 l u)⟩) q3.2
    | _ => exact q3.elim⟩⟩⟩
end

/-! ### statements -/
inductive Ret where
  | val (d : D) | new (d : D)
def RetOk (K : PySem.W.Frag) (H0 H' : Hp) (v : V) : Ret → Prop
  | .val d => Same H0 H' ∧ Rep K H' d v
  | .new d => ∃ G p, v = .ref p ∧ Same H0 G ∧ G p = none ∧ (∀ b, b ≠ p → G b = H' b) ∧ Own K G H' p d
/-- .. and what the slots held at the return -/
def RetIn (K : PySem.W.Frag) (H0 H' : Hp) (v : V) (δ' : List Sl) : Ret → Prop
  | .val d => ∃ σ' G', Hs K H0 σ' δ' G' H' ∧ Rep K G' d v
  | .new d => RetOk K H0 H' v (.new d)
theorem RetIn.ok {K : PySem.W.Frag} {H0 H' : Hp} {v : V} {δ' : List Sl} {r : Ret} (h : RetIn K H0 H' v δ' r) : RetOk K H0 H' v r := by
  cases r with
  | val d => obtain ⟨σ', G', hs, r⟩ := h; exact ⟨hs.base.trans hs.sub, Rep.mono hs.sub _ _ r⟩
  | new d => exact h
structure Ends2 where
  nx : List Sl → Prop
  rt : Ret → List Sl → Prop
  bk : List Sl → Prop := fun _ => False
  ct : List Sl → Prop := fun _ => False
abbrev RS := Ends2 → List Sl → Prop
structure Go (K : PySem.W.Frag) (H0 G : Hp) (E : Ends2) (D : Ends) : Prop where
  nx : ∀ σ' H' δ' G', Hs K H0 σ' δ' G' H' → Same G G' → E.nx δ' → D.nx σ' H'
  rt : ∀ v H' r δ', RetIn K H0 H' v δ' r → E.rt r δ' → D.rt v H'
  bk : ∀ σ' H' δ' G', Hs K H0 σ' δ' G' H' → Same G G' → E.bk δ' → D.bk σ' H'
  ct : ∀ σ' H' δ' G', Hs K H0 σ' δ' G' H' → Same G G' → E.ct δ' → D.ct σ' H'
theorem Go.mono {K : PySem.W.Frag} {H0 G G1 : Hp} {E : Ends2} {D : Ends} (g : Go K H0 G E D) (s : Same G G1) : Go K H0 G1 E D :=
  ⟨fun σ' H' δ' G' h s' => g.nx σ' H' δ' G' h (s.trans s'), g.rt, fun σ' H' δ' G' h s' => g.bk σ' H' δ' G' h (s.trans s'), fun σ' H' δ' G' h s' => g.ct σ' H' δ' G' h (s.trans s')⟩
def liftS (K : PySem.W.Frag) (H0 : Hp) (t : RS) : TS := fun D σ H => ∃ δ G E, Hs K H0 σ δ G H ∧ t E δ ∧ Go K H0 G E D
def PS2 (X : Cx) (H0 : Hp) (st : Stmt) (t : RS) : Prop := PS X st (liftS X.K H0 t)
def PSs2 (X : Cx) (H0 : Hp) (st : List Stmt) (t : RS) : Prop := PSs X st (liftS X.K H0 t)

section
variable {X : Cx} {H0 : Hp} {e tg : Expr} {te : RE} {st : Stmt} {rest b1 b2 : List Stmt} {t u : RS} {c : Expr} {tc : RT} {pos pos' : Pos} {x : Str}
abbrev rNext (E : Ends2) (δ : List Sl) : Prop := E.nx δ
abbrev rSeq (t u : RS) (E : Ends2) (δ : List Sl) : Prop := t { E with nx := u E } δ
theorem s_nil : PSs2 X H0 [] rNext := PSs.weak pss_nil fun D σ H ⟨δ, G, E, hs, ht, g⟩ => g.nx σ H δ G hs (Same.refl _) ht
theorem s_cons (h1 : PS2 X H0 st t) (h2 : PSs2 X H0 rest u) : PSs2 X H0 (st :: rest) (rSeq t u) :=
  PSs.weak (pss_cons h1 h2) fun D σ H ⟨δ, G, E, hs, ht, g⟩ => ⟨δ, G, { E with nx := u E }, hs, ht, ⟨fun σ' H' δ' G' h' s' q => ⟨δ', G', E, h', q, g.mono s'⟩, g.rt, g.bk, g.ct⟩⟩
theorem s_one (h1 : PS2 X H0 st t) : PSs2 X H0 [st] t := PSs.weak (pss_one h1) fun D σ H z => z
/-- what is one's own is fixed from here on -/
def rFreeze (i : Nat) (t : RS) (E : Ends2) (δ : List Sl) : Prop := match δ[i]? with
  | some (.ow d) => t E (δ.set i (.fr d))
  | _ => False
theorem s_freeze (i : Nat) (h : PSs2 X H0 rest t) : PSs2 X H0 rest (rFreeze i t) := PSs.weak h fun D σ H ⟨δ, G, E, hs, ht, g⟩ => by
  unfold rFreeze at ht
  split at ht
  · rename_i d e
    obtain ⟨G', h', s', _⟩ := hs.freeze e
    exact ⟨_, G', E, h', ht, g.mono s'⟩
  · exact ht.elim
theorem s_pass : PS2 X H0 (.Pass pos) rNext := PS.weak ps_pass fun D σ H ⟨δ, G, E, hs, ht, g⟩ => g.nx σ H δ G hs (Same.refl _) ht
theorem s_break : PS2 X H0 (.Break pos) (fun E δ => E.bk δ) := PS.weak ps_break fun D σ H ⟨δ, G, E, hs, ht, g⟩ => g.bk σ H δ G hs (Same.refl _) ht
theorem s_continue : PS2 X H0 (.Continue pos) (fun E δ => E.ct δ) := PS.weak ps_continue fun D σ H ⟨δ, G, E, hs, ht, g⟩ => g.ct σ H δ G hs (Same.refl _) ht
theorem s_never : PS2 X H0 st (fun _ _ => False) := fun _ _ _ _ _ _ h => let ⟨_, _, _, _, z, _⟩ := h; z.elim
theorem ss_never {sts : List Stmt} : PSs2 X H0 sts (fun _ _ => False) := fun _ _ _ _ _ _ h => let ⟨_, _, _, _, z, _⟩ := h; z.elim
def rExpr (te : RE) (E : Ends2) (δ : List Sl) : Prop := te δ fun _ => E.nx δ
theorem s_expr (he : PB2 X H0 e te) (hs : swapsWith e none pos.line X.env = pure false := by rfl) : PS2 X H0 (.Expr e pos) (rExpr te) :=
  PS.weak (ps_expr he hs) fun D σ H ⟨δ, G, E, hs, ht, g⟩ => ⟨δ, G, _, hs, ht, fun v H1 G1 d n1 r1 q1 => g.nx σ H1 δ G1 n1.hs n1.g q1⟩
def rRet (te : RE) (E : Ends2) (δ : List Sl) : Prop := te δ fun d => E.rt (.val d) δ
theorem s_ret (he : PE2 X H0 e te) : PS2 X H0 (.Return (some e) pos) (rRet te) :=
  PS.weak (ps_ret he) fun D σ H ⟨δ, G, E, hs, ht, g⟩ => ⟨δ, G, _, hs, ht, fun v H1 G1 d n1 r1 q1 => g.rt v H1 (.val d) δ ⟨σ, G1, n1.hs, r1⟩ q1⟩
theorem s_retNone : PS2 X H0 (.Return none pos) (fun E δ => E.rt (.val .non) δ) :=
  PS.weak ps_retN fun D σ H ⟨δ, G, E, hs, ht, g⟩ => g.rt _ H (.val .non) δ ⟨σ, G, hs, by simp only [Rep]⟩ ht
theorem ret_new {K : PySem.W.Frag} {σ : L2.St} {δ : List Sl} {G H : Hp} {i : Nat} {d : D} {p : Addr} (hs : Hs K H0 σ δ G H) (e : δ[i]? = some (.ow d)) (e1 : σ[i]? = some (some (.ref p))) : RetOk K H0 H (.ref p) (.new d) := by
  obtain ⟨p', e2, o⟩ := hs.ow i d e
  rw [e1] at e2; cases e2
  have gp : G p = none := by
    rcases hs.ex p with ⟨_, z⟩ | ⟨z, _⟩
    · exact absurd ⟨_, e, True.intro, e1⟩ (z i)
    · exact z
  have s1 : Same G (fun b => if b = p then none else H b) := fun b u q => by
    have hb : b ≠ p := ne_of_none q gp
    show (if b = p then none else H b) = some u
    rw [if_neg hb]; exact hs.sub b u q
  exact ⟨fun b => if b = p then none else H b, p, rfl, hs.base.trans s1, if_pos rfl, fun b hb => if_neg hb, o.mono s1 rfl⟩
def rRetN (te : RE) (E : Ends2) (δ : List Sl) : Prop := te δ fun d => E.rt (.new d) δ
theorem s_retN (he : PN2 X H0 e te) : PS2 X H0 (.Return (some e) pos) (rRetN te) :=
  PS.weak (ps_ret he) fun D σ H ⟨δ, G, E, hs, ht, g⟩ => ⟨δ, G, _, hs, ht, fun v H1 G1 d n1 sg sh q1 => by
    obtain ⟨p, e1, o⟩ := n1.ow 0 d rfl
    simp at e1; subst e1
    exact g.rt _ H1 (.new d) δ (ret_new (i := 0) n1 rfl rfl) q1⟩
def rRetO (i : Nat) (E : Ends2) (δ : List Sl) : Prop := match δ[i]? with
  | some (.ow d) => E.rt (.new d) δ
  | _ => False
theorem s_retO (i : Nat) (hN : X.N[i]? = some x := by rfl) (hv : Vis X.env.scope x := by first | exact Or.inl rfl | exact Or.inr (Or.inl rfl) | exact Or.inr (Or.inr rfl)) (hd : (x == ("__debug__" : Str)) = false := by decide)
    (hcd : (x == ("__classdict__" : Str)) = false := by decide) : PS2 X H0 (.Return (some (.Name x pos')) pos) (rRetO i) :=
  PS.weak (ps_ret (pe_var hN hv hd hcd)) fun D σ H ⟨δ, G, E, hs, ht, g⟩ => by
    unfold rRetO at ht
    split at ht
    · rename_i d e
      obtain ⟨p, e1, o⟩ := hs.ow i d e
      exact ⟨_, e1, g.rt _ H (.new d) δ (ret_new hs e e1) ht⟩
    · exact ht.elim
structure rIf (c : RT) (t u : RS) (E : Ends2) (δ : List Sl) : Prop where
  run : c δ fun b => Two b (t E δ) (u E δ)
theorem s_if (hc : PT2 X H0 c tc) (ha : PSs2 X H0 b1 t) (hb : PSs2 X H0 b2 u) : PS2 X H0 (.If c b1 b2 pos) (rIf tc t u) :=
  PS.weak (ps_if hc ha hb) fun D σ H ⟨δ, G, E, hs, ht, g⟩ => ⟨δ, G, _, hs, ht.run, fun k H1 G1 n1 q1 => by
    cases k with
    | true => rw [if_pos rfl]; exact ⟨δ, G1, E, n1.hs, q1.yes rfl, g.mono n1.g⟩
    | false => rw [if_neg Bool.false_ne_true]; exact ⟨δ, G1, E, n1.hs, q1.no rfl, g.mono n1.g⟩⟩

/-! ### stores -/
abbrev RG := D → List Sl → (List Sl → Prop) → Prop
def liftG (K : PySem.W.Frag) (H0 : Hp) (g : RG) : TG := fun v σ H Q => ∃ δ G d Qd, Hs K H0 σ δ G H ∧ Rep K G d v ∧ g d δ Qd ∧ ∀ σ' H' δ' G', Hs K H0 σ' δ' G' H' → Same G G' → Qd δ' → Q σ' H'
def PG2 (X : Cx) (H0 : Hp) (tg : Expr) (g : RG) : Prop := PG X tg (liftG X.K H0 g)
theorem PG.weak {X : Cx} {e : Expr} {t t' : TG} (h : PG X e t) (k : ∀ v σ H Q, t' v σ H Q → t v σ H Q) : PG X e t' := fun pins s σ H v u Q I r hw => h pins s σ H v u Q I r (k v σ H Q hw)
def gSet (i : Nat) (d : D) (δ : List Sl) (Q : List Sl → Prop) : Prop := match δ[i]? with
  | some (.lk _ _) => False
  | some _ => Q (δ.set i (.fr d))
  | none => False
theorem gSet_of {i : Nat} {d : D} {δ : List Sl} {Q : List Sl → Prop} (h : gSet i d δ Q) : ∃ l, δ[i]? = some l ∧ l.locked = false ∧ Q (δ.set i (.fr d)) := by
  unfold gSet at h
  split at h
  · exact h.elim
  · rename_i l n e
    refine ⟨l, e, ?_, h⟩
    cases l with
    | lk p d' => exact absurd rfl (n p d')
    | _ => rfl
  · exact h.elim
theorem g_name (i : Nat) (hN : X.N.Nodup) (hi : X.N[i]? = some x := by rfl) (hx : Loc X.env.scope x := by first | exact Or.inl rfl | exact Or.inr rfl) (hf : X.fn x = true ∨ X.env.scope.names.lookup x = some .local := by first | exact .inl rfl | exact .inr rfl | assumption) : PG2 X H0 (.Name x pos) (gSet i) :=
  PG.weak (pg_name hN hi hx hf) fun v σ H Q ⟨δ, G, d, Qd, hs, r, h, k⟩ => by
    obtain ⟨l, e, nl, q⟩ := gSet_of h
    obtain ⟨G', h', s'⟩ := hs.put e nl r
    exact k _ H _ G' h' s' q
def rSet (i : Nat) (te : RE) (E : Ends2) (δ : List Sl) : Prop := te δ fun d => gSet i d δ E.nx
theorem s_set (i : Nat) (hN : X.N.Nodup) (he : PE2 X H0 e te) (hi : X.N[i]? = some x := by rfl) (hx : Loc X.env.scope x := by first | exact Or.inl rfl | exact Or.inr rfl) (hs : swapsWith e (some (.Name x pos')) pos.line X.env = pure false := by rfl)
    (hf : X.fn x = true ∨ X.env.scope.names.lookup x = some .local := by first | exact .inl rfl | exact .inr rfl | assumption) : PS2 X H0 (.Assign [.Name x pos'] e pos) (rSet i te) :=
  PS.weak (ps_set hN hi hx he hs hf) fun D σ H ⟨δ, G, E, hs, ht, g⟩ => ⟨δ, G, _, hs, ht, fun v H1 G1 d n1 r1 q1 => by
    obtain ⟨l, e, nl, q⟩ := gSet_of q1
    obtain ⟨G', h', s'⟩ := n1.hs.put e nl r1
    exact g.nx _ H1 _ G' h' (n1.g.trans s') q⟩
def gOwn (i : Nat) (d : D) (δ : List Sl) (Q : List Sl → Prop) : Prop := match δ[i]? with
  | some (.lk _ _) => False
  | some _ => Q (δ.set i (.ow d))
  | none => False
theorem gOwn_of {i : Nat} {d : D} {δ : List Sl} {Q : List Sl → Prop} (h : gOwn i d δ Q) : ∃ l, δ[i]? = some l ∧ l.locked = false ∧ Q (δ.set i (.ow d)) := by
  unfold gOwn at h
  split at h
  · exact h.elim
  · rename_i l n e
    refine ⟨l, e, ?_, h⟩
    cases l with
    | lk p d' => exact absurd rfl (n p d')
    | _ => rfl
  · exact h.elim
def rSetN (i : Nat) (te : RE) (E : Ends2) (δ : List Sl) : Prop := te δ fun d => gOwn i d δ E.nx
theorem s_setN (i : Nat) (hN : X.N.Nodup) (he : PN2 X H0 e te) (hi : X.N[i]? = some x := by rfl) (hx : Loc X.env.scope x := by first | exact Or.inl rfl | exact Or.inr rfl) (hs : swapsWith e (some (.Name x pos')) pos.line X.env = pure false := by rfl)
    (hf : X.fn x = true ∨ X.env.scope.names.lookup x = some .local := by first | exact .inl rfl | exact .inr rfl | assumption) : PS2 X H0 (.Assign [.Name x pos'] e pos) (rSetN i te) :=
  PS.weak (ps_set hN hi hx he hs hf) fun D σ H ⟨δ, G, E, hs, ht, g⟩ => ⟨δ, G, _, hs, ht, fun v H1 G1 d n1 sg sh q1 => by
    obtain ⟨l, e, nl, q⟩ := gOwn_of q1
    obtain ⟨G', h', s'⟩ := n1.own e nl
    exact g.nx _ H1 _ G' h' (sg.trans s') q⟩

/-! ### a, b, .. = a list or a tuple -/
abbrev RGs := List D → List Sl → (List Sl → Prop) → Prop
def liftGs (K : PySem.W.Frag) (H0 : Hp) (g : RGs) : TGs := fun vs σ H Q => ∃ δ G ds Qd, Hs K H0 σ δ G H ∧ Reps K G ds vs ∧ g ds δ Qd ∧ ∀ σ' H' δ' G', Hs K H0 σ' δ' G' H' → Same G G' → Qd δ' → Q σ' H'
def PGs2 (X : Cx) (H0 : Hp) (ts : List Expr) (g : RGs) : Prop := PGs X ts (liftGs X.K H0 g)
theorem PGs.weak {X : Cx} {e : List Expr} {t t' : TGs} (h : PGs X e t) (k : ∀ v σ H Q, t' v σ H Q → t v σ H Q) : PGs X e t' := fun pins s σ H v u Q I r hw => h pins s σ H v u Q I r (k v σ H Q hw)
def gNil2 (ds : List D) (δ : List Sl) (Q : List Sl → Prop) : Prop := match ds with
  | [] => Q δ
  | _ => False
def gCons2 (g : RG) (r : RGs) (ds : List D) (δ : List Sl) (Q : List Sl → Prop) : Prop := match ds with
  | d :: ds => g d δ fun δ1 => r ds δ1 Q
  | [] => False
theorem gs_nil : PGs2 X H0 [] gNil2 := PGs.weak pgs_nil fun vs σ H Q ⟨δ, G, ds, Qd, hs, r, h, k⟩ => by
  cases ds with
  | nil => simp only [Reps] at r; exact ⟨r, k σ H δ G hs (Same.refl _) h⟩
  | cons d ds => exact h.elim
variable {es : List Expr} {g : RG} {gs : RGs}
theorem gs_cons (h1 : PG2 X H0 e g) (h2 : PGs2 X H0 es gs) (hs : (assignEach (e :: es) X.env).map (·.2) = assign e X.env :: (assignEach es X.env).map (·.2) := by rfl) : PGs2 X H0 (e :: es) (gCons2 g gs) :=
  PGs.weak (pgs_cons h1 h2 hs) fun vs σ H Q ⟨δ, G, ds, Qd, hs, r, h, k⟩ => by
    cases ds with
    | nil => exact h.elim
    | cons d ds =>
      simp only [Reps] at r
      obtain ⟨v, vr, rfl, r1, r2⟩ := r
      exact ⟨v, vr, rfl, δ, G, d, _, hs, r1, h, fun σ1 H1 δ1 G1 h1 s1 q1 => ⟨δ1, G1, ds, Qd, h1, Reps.mono s1 _ _ r2, q1, fun σ2 H2 δ2 G2 h2 s2 q2 => k σ2 H2 δ2 G2 h2 (s1.trans s2) q2⟩⟩
def gTup2 (n : Nat) (gs : RGs) (d : D) (δ : List Sl) (Q : List Sl → Prop) : Prop := match d with
  | .tup ds => ds.length = n ∧ gs ds δ Q
  | _ => False
theorem g_tup {n k : Nat} (hc : X.calm = true) (h : PGs2 X H0 es gs) (hn : (assignEach es X.env).length = n := by rfl) (hst : (assignEach es X.env).findIdx? (·.1) = none := by rfl) : PG2 X H0 (.Tuple es k pos) (gTup2 n gs) :=
  PG.weak (pg_tup (n := n) hc h hn hst) fun v σ H Q ⟨δ, G, d, Qd, hs, r, h, k⟩ => by
    cases d with
    | tup ds =>
      simp only [Rep] at r
      obtain ⟨a, vs, rfl, h2, h3⟩ := r
      exact ⟨a, vs, rfl, SqT.of (hs.sub _ _ h2), by rw [← h3.length]; exact h.1, δ, G, ds, Qd, hs, h3, h.2, k⟩
    | _ => exact h.elim
def rAsg (te : RE) (g : RG) (E : Ends2) (δ : List Sl) : Prop := te δ fun d => g d δ E.nx
theorem s_asg (he : PE2 X H0 e te) (hg : PG2 X H0 tg g) (hs : swapsWithSole [tg] e pos.line X.env = pure false := by rfl) (hw : swappedStores [tg] e X.env = pure none := by rfl)
    (h1 : (assignEach [tg] X.env).map (·.2) = [assign tg X.env] := by rfl) : PS2 X H0 (.Assign [tg] e pos) (rAsg te g) :=
  PS.weak (ps_asg he hg hs hw h1) fun D σ H ⟨δ, G, E, hs, ht, g⟩ => ⟨δ, G, _, hs, ht, fun v H1 G1 d n1 r1 q1 => ⟨δ, G1, d, E.nx, n1.hs, r1, q1, fun σ' H' δ' G' h' s' q => g.nx σ' H' δ' G' h' (n1.g.trans s') q⟩⟩

/-! ### loops over data that is there -/
def loop (g : RG) (tb : RS) (E : Ends2) : List D → List Sl → Prop
  | [], δ => E.nx δ
  | d :: ds, δ => g d δ fun δ1 => tb { nx := fun δ2 => ∃ δ3, Fg δ2 δ3 ∧ loop g tb E ds δ3, rt := E.rt, bk := E.nx, ct := fun δ2 => ∃ δ3, Fg δ2 δ3 ∧ loop g tb E ds δ3 } δ1
def rForL (te : RE) (g : RG) (tb : RS) (E : Ends2) (δ : List Sl) : Prop := te δ fun d => match d with
  | .lst ds => loop g tb E ds δ
  | _ => False
def rForT (te : RE) (g : RG) (tb : RS) (E : Ends2) (δ : List Sl) : Prop := te δ fun d => match d with
  | .tup ds => loop g tb E ds δ
  | _ => False
variable {iter : Expr} {body : List Stmt} {tb : RS}
theorem s_forL (hp : PassesOwn (model X.prog X.w) X.A X.env X.xe) (hc : X.calm = true) (hi : PE2 X H0 iter te) (hg : PG2 X H0 tg g) (hb : PSs2 X H0 body tb) (hs : ∀ x, foldedSetIterable iter X.env x = pure x := by intro _; rfl) :
    PS2 X H0 (.For tg iter body [] pos) (rForL te g tb) :=
  PS.weak (ps_for hp hc (pi_list hi) hg hb hs) fun D σ H ⟨δ, G, E, hs, ht, go⟩ => ⟨δ, G, _, hs, ht, fun v H1 G1 d n1 r1 q1 => by
    cases d with
    | lst ds =>
      simp only [Rep] at r1
      obtain ⟨a, vs, rfl, h2, h3⟩ := r1
      refine ⟨a, rfl, ⟨vs, n1.hs.sub.seq h2⟩, for_list (K := X.K) (a := a) (xs := vs) (fun i σ' H' => ∃ δ' G', Hs X.K H0 σ' δ' G' H' ∧ Same G1 G' ∧ loop g tb E (ds.drop i) δ') ⟨δ, G1, n1.hs, Same.refl _, q1⟩ ?_ ?_ ?_⟩
      · rintro i σ' H' _ ⟨δ', G', h', s', _⟩
        exact h'.sub.seq (s'.seq h2)
      · rintro i x σ' H' hx ⟨δ', G', h', s', q'⟩
        obtain ⟨d, ed, rd⟩ := h3.getV hx
        have hil : i < ds.length := (List.getElem?_eq_some_iff.mp ed).1
        have ed' : ds[i] = d := by
          have := List.getElem?_eq_getElem hil
          rw [this] at ed; exact Option.some.inj ed
        rw [List.drop_eq_getElem_cons hil, ed'] at q'
        refine ⟨δ', G', d, _, h', Rep.mono s' _ _ rd, q', fun σ2 H2 δ2 G2 h2' s2 q2 => ⟨δ2, G2, _, h2', q2, ⟨fun σ3 H3 δ3 G3 h3' s3 ⟨δ4, f4, q3⟩ => ⟨δ4, G3, h3'.forget f4, (s'.trans s2).trans s3, q3⟩, go.rt, fun σ3 H3 δ3 G3 h3' s3 q3 => go.nx σ3 H3 δ3 G3 h3' (((n1.g.trans s').trans s2).trans s3) q3, fun σ3 H3 δ3 G3 h3' s3 ⟨δ4, f4, q3⟩ => ⟨δ4, G3, h3'.forget f4, (s'.trans s2).trans s3, q3⟩⟩⟩⟩
      · rintro σ' H' ⟨δ', G', h', s', q'⟩
        rw [← h3.length, List.drop_length] at q'
        exact go.nx σ' H' δ' G' h' (n1.g.trans s') q'
    | _ => exact q1.elim⟩
theorem s_forT (hp : PassesOwn (model X.prog X.w) X.A X.env X.xe) (hc : X.calm = true) (hi : PE2 X H0 iter te) (hg : PG2 X H0 tg g) (hb : PSs2 X H0 body tb) (hs : ∀ x, foldedSetIterable iter X.env x = pure x := by intro _; rfl) :
    PS2 X H0 (.For tg iter body [] pos) (rForT te g tb) :=
  PS.weak (ps_for hp hc (pi_tup hi) hg hb hs) fun D σ H ⟨δ, G, E, hs, ht, go⟩ => ⟨δ, G, _, hs, ht, fun v H1 G1 d n1 r1 q1 => by
    cases d with
    | tup ds =>
      simp only [Rep] at r1
      obtain ⟨a, vs, rfl, h2, h3⟩ := r1
      refine ⟨a, rfl, ⟨vs, SqT.of (n1.hs.sub _ _ h2)⟩, for_tup (K := X.K) (a := a) (xs := vs) (fun i σ' H' => ∃ δ' G', Hs X.K H0 σ' δ' G' H' ∧ Same G1 G' ∧ loop g tb E (ds.drop i) δ') ⟨δ, G1, n1.hs, Same.refl _, q1⟩ ?_ ?_ ?_⟩
      · rintro i σ' H' _ ⟨δ', G', h', s', _⟩
        exact SqT.of (h'.sub _ _ (s' _ _ h2))
      · rintro i x σ' H' hx ⟨δ', G', h', s', q'⟩
        obtain ⟨d, ed, rd⟩ := h3.getV hx
        have hil : i < ds.length := (List.getElem?_eq_some_iff.mp ed).1
        have ed' : ds[i] = d := by
          have := List.getElem?_eq_getElem hil
          rw [this] at ed; exact Option.some.inj ed
        rw [List.drop_eq_getElem_cons hil, ed'] at q'
        refine ⟨δ', G', d, _, h', Rep.mono s' _ _ rd, q', fun σ2 H2 δ2 G2 h2' s2 q2 => ⟨δ2, G2, _, h2', q2, ⟨fun σ3 H3 δ3 G3 h3' s3 ⟨δ4, f4, q3⟩ => ⟨δ4, G3, h3'.forget f4, (s'.trans s2).trans s3, q3⟩, go.rt, fun σ3 H3 δ3 G3 h3' s3 q3 => go.nx σ3 H3 δ3 G3 h3' (((n1.g.trans s').trans s2).trans s3) q3, fun σ3 H3 δ3 G3 h3' s3 ⟨δ4, f4, q3⟩ => ⟨δ4, G3, h3'.forget f4, (s'.trans s2).trans s3, q3⟩⟩⟩⟩
      · rintro σ' H' ⟨δ', G', h', s', q'⟩
        rw [← h3.length, List.drop_length] at q'
        exact go.nx σ' H' δ' G' h' (n1.g.trans s') q'
    | _ => exact q1.elim⟩
end
end M

set_option Elab.async false
set_option linter.all false
set_option maxRecDepth 100000
set_option maxHeartbeats 4000000
namespace M
open PySem PySem.Spec PyProof.Rows L2
section
variable {X : Cx} {H0 : Hp} {e tg : Expr} {te : RE} {st : Stmt} {pos pos' : Pos} {x : Str} {es : List Expr} {g : RG} {gs : RGs} {iter : Expr} {body : List Stmt} {tb : RS}
/-- lo, lo + 1, .. -/
def rng (lo : Int) (n : Nat) : List D := (List.range n).map fun k => D.int (lo + (k : Nat))
theorem rng_drop (lo : Int) (n i : Nat) (h : i < n) : (rng lo n).drop i = D.int (lo + i) :: (rng lo n).drop (i + 1) := by
  have hl : i < (rng lo n).length := by simpa [rng] using h
  rw [List.drop_eq_getElem_cons hl]
  simp [rng]
theorem loop_range {G1 G : Hp} {E : Ends2} {Dn : Ends} {lo : Int} {n : Nat} {σ : L2.St} {δ : List Sl} {H : Hp} (hs : Hs X.K H0 σ δ G1 H) (gg : Same G G1) (go : Go X.K H0 G E Dn) (q1 : loop g tb E (rng lo n) δ) :
    ∃ W : Nat → Nat → L2.St → Hp → Prop, (∃ m, W 0 m σ H) ∧ ∀ i m σ H, W i m σ H →
      ((Itr lo n).stop i H ∧ Dn.nx σ H) ∨ ((Itr lo n).go i H ∧ ∃ N : L2.St → Hp → Prop, (∀ σ' H', N σ' H' → ∃ m', m' < m ∧ W (i + 1) m' σ' H') ∧ ∀ x H', (Itr lo n).yld i H x H' → liftG X.K H0 g x σ H' fun σ2 H2 => liftS X.K H0 tb { Dn with nx := N, ct := N, bk := Dn.nx } σ2 H2) := by
  refine for_range (fun i σ' H' => ∃ δ' G', Hs X.K H0 σ' δ' G' H' ∧ Same G1 G' ∧ loop g tb E ((rng lo n).drop i) δ') ⟨δ, G1, hs, Same.refl _, q1⟩ ?_ ?_
  · rintro i σ' H' hx ⟨δ', G', h', s', q'⟩
    rw [rng_drop lo n i hx] at q'
    refine ⟨δ', G', .int (lo + i), _, h', by simp only [Rep], q', fun σ2 H2 δ2 G2 h2' s2 q2 => ⟨δ2, G2, _, h2', q2, ⟨fun σ3 H3 δ3 G3 h3' s3 ⟨δ4, f4, q3⟩ => ⟨δ4, G3, h3'.forget f4, (s'.trans s2).trans s3, q3⟩, go.rt, fun σ3 H3 δ3 G3 h3' s3 q3 => go.nx σ3 H3 δ3 G3 h3' (((gg.trans s').trans s2).trans s3) q3, fun σ3 H3 δ3 G3 h3' s3 ⟨δ4, f4, q3⟩ => ⟨δ4, G3, h3'.forget f4, (s'.trans s2).trans s3, q3⟩⟩⟩⟩
  · rintro σ' H' ⟨δ', G', h', s', q'⟩
    rw [List.drop_of_length_le (by simp [rng])] at q'
    exact go.nx σ' H' δ' G' h' (gg.trans s') q'
variable {tr : RA} {a1 a2 : Expr}
def int1 (ds : List D) (Q : Int → Prop) : Prop := match ds with
  | [.int j] => Q j
  | _ => False
def int2 (ds : List D) (Q : Int → Int → Prop) : Prop := match ds with
  | [.int i, .int j] => Q i j
  | _ => False
theorem int1_of {ds : List D} {Q : Int → Prop} (h : int1 ds Q) : ∃ j, ds = [.int j] ∧ Q j := by
  unfold int1 at h
  split at h
  · exact ⟨_, rfl, h⟩
  · exact h.elim
theorem int2_of {ds : List D} {Q : Int → Int → Prop} (h : int2 ds Q) : ∃ i j, ds = [.int i, .int j] ∧ Q i j := by
  unfold int2 at h
  split at h
  · exact ⟨_, _, rfl, h⟩
  · exact h.elim
def Small62 (j : Int) : Prop := -(2 ^ 62) ≤ j ∧ j < 2 ^ 62
def rForR1 (tr : RA) (g : RG) (tb : RS) (E : Ends2) (δ : List Sl) : Prop := tr δ fun ds => int1 ds fun j => Small62 j ∧ loop g tb E (rng 0 j.toNat) δ
def rForR2 (tr : RA) (g : RG) (tb : RS) (E : Ends2) (δ : List Sl) : Prop := tr δ fun ds => int2 ds fun i j => Small62 i ∧ Small62 j ∧ loop g tb E (rng i (j - i).toNat) δ
theorem s_forR1 {p pos2 : Pos} (hp : PassesOwn (model X.prog X.w) X.A X.env X.xe) (hc : X.calm = true) (hgl : Gl X "range") (hm : X.mg "range" = none) (ha : PA2 X H0 [a1] tr) (hg : PG2 X H0 tg g) (hb : PSs2 X H0 body tb) (hst : starEach [a1] X.env = [(false, eval a1 X.env)] := by rfl)
    (hs : ∀ x, foldedSetIterable (.Call (.Name "range" p) [a1] [] pos2) X.env x = pure x := by intro _; rfl) : PS2 X H0 (.For tg (.Call (.Name "range" p) [a1] [] pos2) body [] pos) (rForR1 tr g tb) :=
  PS.weak (ps_for hp hc (pi_range1 hgl hm ha hst) hg hb hs) fun D σ H ⟨δ, G, E, hs, ht, go⟩ => ⟨δ, G, _, hs, ht, fun vs H1 G1 ds n1 r1 q1 => by
    obtain ⟨j, rfl, ⟨h1, h2⟩, q2⟩ := int1_of q1
    have e : vs = [.int j] := Reps.ints_inv (ns := [j]) r1
    exact ⟨j, e, h1, h2, loop_range n1.hs n1.g go q2⟩⟩
theorem s_forR2 {p pos2 : Pos} (hp : PassesOwn (model X.prog X.w) X.A X.env X.xe) (hc : X.calm = true) (hgl : Gl X "range") (hm : X.mg "range" = none) (ha : PA2 X H0 [a1, a2] tr) (hg : PG2 X H0 tg g) (hb : PSs2 X H0 body tb)
    (hst : starEach [a1, a2] X.env = [(false, eval a1 X.env), (false, eval a2 X.env)]) (hst2 : starEach [a2] X.env = [(false, eval a2 X.env)])
    (hs : ∀ x, foldedSetIterable (.Call (.Name "range" p) [a1, a2] [] pos2) X.env x = pure x) : PS2 X H0 (.For tg (.Call (.Name "range" p) [a1, a2] [] pos2) body [] pos) (rForR2 tr g tb) :=
  PS.weak (ps_for hp hc (pi_range2 hgl hm ha hst hst2) hg hb hs) fun D σ H ⟨δ, G, E, hs, ht, go⟩ => ⟨δ, G, _, hs, ht, fun vs H1 G1 ds n1 r1 q1 => by
    obtain ⟨i, j, rfl, ⟨h1, h2⟩, ⟨h3, h4⟩, q2⟩ := int2_of q1
    have e : vs = [.int i, .int j] := Reps.ints_inv (ns := [i, j]) r1
    exact ⟨i, j, e, ⟨h1, h2, h3, h4⟩, loop_range n1.hs n1.g go q2⟩⟩
end
end M

set_option Elab.async false
set_option linter.all false
set_option maxRecDepth 100000
set_option maxHeartbeats 4000000
namespace M
open PySem PySem.Spec PyProof.Rows L2
abbrev Sp2 := List D → (Ret → Prop) → Prop
def liftSp (K : PySem.W.Frag) (sp : Sp2) : Sp := fun vs H Q _ => ∃ ds Qd, Reps K H ds vs ∧ sp ds Qd ∧ ∀ v H' r, RetOk K H H' v r → Qd r → Q v H'

section
variable {P : Program} {w : World} {K : PySem.W.Frag} {mg : Str → Option Value} {base : Heap}
def start2 (N : List Str) (ds : List D) : List Sl := ds.map Sl.fr ++ List.replicate (N.length - ds.length) .un
/-- a def, by data -/
theorem fun_ok {x qual : Str} {st : Stmt} {f : Addr} {fd : FuncData} {N ps : List Str} {k : Nat} {sp : Sp2} (F : Fun K x qual st f fd) (S : FnScope N ps (defScope st)) (len : ∀ ds Qd, sp ds Qd → ds.length = ps.length)
    (hbody : ∀ (cdv : Value) (A : Around) (outer : List Env) (s : Shared) (H : Hp) (E : XK), Room k (A.deeper (envOfC qual (defScope st) s.heap.objs.size f cdv)) → ∀ ds Qd, sp ds Qd →
      ∃ t, PSs2 (cxOf CX0 P w K mg base N qual (defScope st) f cdv A outer s H E).nox H (defBody st) t ∧ t { nx := fun _ => Qd (.val .non), rt := fun r _ => Qd r } (start2 N ds)) : FnOk P w K mg base CX0 (k + 1) f fd ps (liftSp K sp) := by
  refine F.ok S (fun vs H Q E h => ?_) (fun cdv A outer s H vs Q E hr h => ?_)
  · obtain ⟨ds, Qd, r, h1, _⟩ := h
    rw [← r.length]; exact len ds Qd h1
  · obtain ⟨ds, Qd, r, h1, h2⟩ := h
    obtain ⟨t, ht, q⟩ := hbody cdv A outer s H E hr ds Qd h1
    refine ⟨_, ht, start2 N ds, H, _, ?_, q, ⟨fun σ' H' δ' G' hs _ q => h2 _ H' (.val .non) ⟨hs.base.trans hs.sub, by simp only [Rep]⟩ q, fun v H' r' δ' ok q => h2 v H' r' ok.ok q, fun _ _ _ _ _ _ z => z.elim, fun _ _ _ _ _ _ z => z.elim⟩⟩
    have e := Hs.start r (N.length - ds.length)
    show Hs K H (vs.map some ++ List.replicate (N.length - vs.length) none) _ H H
    rw [← r.length]
    exact e
end

/-! ### a call: run over what is fixed alone -/
theorem ObjOk.sub {P : Program} {w : World} {H1 H2 : Hp} {h : Heap} {a : Addr} (tp : ∀ b xs, H1 b = some (.tup xs) → H2 b = some (.tup xs)) (ow : ∀ b c, H1 b = some (.own c) → H2 b = some (.own c)) {o : HO} (x : ObjOk P w H1 h a o) : ObjOk P w H2 h a o :=
  x.stay (fun _ _ _ q => q) (fun b q => ow b a q) tp
section
variable {X : Cx} {H0 : Hp} {pins : List (Addr × Obj)} {σ : L2.St} {δ : List Sl} {G H : Hp} {s : Shared}
theorem Hs.nil_of (hs : Hs X.K H0 σ δ G H) {b : Addr} (n : H b = none) : G b = none ∧ ∀ i, ¬ At σ δ i b := by
  rcases hs.ex b with ⟨q, a⟩ | ⟨q, i, a⟩
  · exact ⟨q.trans n, a⟩
  · obtain ⟨o, e, _⟩ := hs.soft a
    rw [n] at e; cases e
theorem Hs.env0 (hs : Hs X.K H0 σ δ G H) (I : Inv X pins σ H s) : Env0 X.prog X.w X.K X.mg X.base X.A X.stack s G := by
  have e := I.env0
  refine ⟨e.frames, e.mod, fun b o q => ⟨(e.bs b o q).1, (hs.nil_of (e.bs b o q).2).1⟩, e.bsz, e.funs, fun b hb => (hs.nil_of (e.frf b hb)).1, fun a o q => ?_, e.bare⟩
  exact ObjOk.sub (fun b xs z => (hs.hard z (fun y => y)).1) (fun b c z => (hs.hard z (fun y => y)).1) (e.hok a o (hs.sub a o q))
open Classical in
/-- behind the call -/
noncomputable def mix (σ : L2.St) (δ : List Sl) (H G1 : Hp) : Hp := fun b => if (∃ i, At σ δ i b) then H b else G1 b
theorem mix_own {G1 : Hp} {i : Nat} {b : Addr} (a : At σ δ i b) : mix σ δ H G1 b = H b := by unfold mix; exact if_pos ⟨i, a⟩
theorem mix_not {G1 : Hp} {b : Addr} (a : ∀ i, ¬ At σ δ i b) : mix σ δ H G1 b = G1 b := by unfold mix; exact if_neg fun ⟨i, z⟩ => a i z
theorem Hs.behind {Q : VK} {u : Value} {s' : Shared} (hs : Hs X.K H0 σ δ G H) (I : Inv X pins σ H s) (h : CE X.stack X.prog X.w G s Q u s') :
    ∃ v G1, Inv X pins σ (mix σ δ H G1) s' ∧ RelV v u ∧ Q v G1 ∧ (∀ i b, At σ δ i b → G1 b = none) := by
  obtain ⟨v, G1, os, bare, un, hok, r, q⟩ := h
  have ownx : ∀ i b, At σ δ i b → ∃ o ob, H b = some o ∧ Soft o ∧ s.heap.get? b = some ob ∧ G b = none := fun i b a => by
    obtain ⟨o, e, so⟩ := hs.soft a
    have lt := I.hok.lt e
    have gb : G b = none := by
      rcases hs.ex b with ⟨_, z⟩ | ⟨z, _⟩
      · exact absurd a (z i)
      · exact z
    obtain ⟨ob, eo⟩ : ∃ ob, s.heap.get? b = some ob := by
      have := I.hok b o e
      cases o with
      | lst xs => obtain ⟨_, its, n, _, e⟩ := this; exact ⟨_, e⟩
      | dK xs => obtain ⟨_, _, _, _, ob, _, _, e, _⟩ := this; exact ⟨ob, e⟩
      | dT xs => obtain ⟨_, _, _, _, ob, _, _, e, _⟩ := this; exact ⟨ob, e⟩
      | _ => exact so.elim
    exact ⟨o, ob, e, so, eo, gb⟩
  have own1 : ∀ i b, At σ δ i b → G1 b = none := fun i b a => by
    obtain ⟨o, ob, _, _, eo, gb⟩ := ownx i b a
    exact un.free b ob eo gb (by simp)
  have keepo : ∀ i b, At σ δ i b → ∀ ob, s.heap.get? b = some ob → s'.heap.get? b = some ob := fun i b a ob eo => by
    obtain ⟨o, _, e, _, _, gb⟩ := ownx i b a
    refine un.keep b ob eo gb (fun z => ?_) (by simp)
    rw [I.stkFree b z] at e; cases e
  have tp : ∀ b xs, H b = some (.tup xs) → mix σ δ H G1 b = some (.tup xs) := fun b xs z => by
    obtain ⟨z1, z2⟩ := hs.hard z (fun y => y)
    rw [mix_not z2]; exact un.tups b xs z1
  refine ⟨v, G1, ?_, r, q, own1⟩
  have un2 : Un (frs X.stack) [] H (mix σ δ H G1) s.heap s'.heap := by
    refine ⟨fun b o e n hb hx => un.keep b o e (hs.nil_of n).1 hb hx, fun b o e n hb hx => un.slot b o e (hs.nil_of n).1 hb hx, fun b o e n hx => ?_, un.there, tp, fun b o u' z => ?_, fun b ps z => ?_⟩
    · rw [mix_not (hs.nil_of n).2]; exact un.free b o e (hs.nil_of n).1 hx
    · obtain ⟨z1, z2⟩ := hs.hard z (fun y => y)
      rw [mix_not z2]; exact un.frzs b o u' z1
    · obtain ⟨z1, z2⟩ := hs.hard z (fun y => y)
      rw [mix_not z2]; exact un.tbls b ps z1
  have hok2 : HOk X.prog X.w (mix σ δ H G1) s'.heap := fun a o e => by
    by_cases ha : ∃ i, At σ δ i a
    · obtain ⟨i, ai⟩ := ha
      rw [mix_own ai] at e
      obtain ⟨o', ob, e', so, eo, _⟩ := ownx i a ai
      rw [e] at e'; cases e'
      have x := I.hok a o e
      cases o with
      | lst xs => obtain ⟨z, its, n, r', e2⟩ := x; exact ⟨z, its, n, r', keepo i a ai _ e2⟩
      | dK xs => obtain ⟨z, y, vs, r', ob', es, ep, e2, c⟩ := x; exact ⟨z, y, vs, r', ob', es, ep, keepo i a ai _ e2, c⟩
      | dT xs =>
        obtain ⟨z, y, xs', r', ob', es, ep, e2, c⟩ := x
        exact ⟨z, y, xs', Paired.mapP r' fun p q' z' => ⟨z'.1, tp _ _ z'.2.1, z'.2.2⟩, ob', es, ep, keepo i a ai _ e2, c⟩
      | _ => exact so.elim
    · have na : ∀ i, ¬ At σ δ i a := fun i z => ha ⟨i, z⟩
      rw [mix_not na] at e
      refine ObjOk.sub (H1 := G1) (fun b xs z => ?_) (fun b c z => ?_) (hok a o e)
      · rw [mix_not fun i y => by rw [own1 i b y] at z; cases z]; exact z
      · rw [mix_not fun i y => by rw [own1 i b y] at z; cases z]; exact z
  obtain ⟨hh, gg, d, t, os'⟩ := s'
  obtain rfl : os' = s.os := os
  exact I.call (h' := hh) (g' := gg) (d' := d) (t' := t) (ch := []) un2 hok2 bare (fun b z => absurd z (by simp))
/-- the body's state behind the call, of a value -/
theorem Hs.behind_val {G1 : Hp} {d : D} {v : V} (hs : Hs X.K H0 σ δ G H) (own1 : ∀ i b, At σ δ i b → G1 b = none) (ok : RetOk X.K G G1 v (.val d)) : Nx X.K H0 σ δ G H G1 (mix σ δ H G1) ∧ Rep X.K G1 d v := by
  obtain ⟨s1, r⟩ := ok
  have ex : ∀ b, (G1 b = mix σ δ H G1 b ∧ ∀ i, ¬ At σ δ i b) ∨ (G1 b = none ∧ ∃ i, At σ δ i b) := fun b => by
    by_cases ha : ∃ i, At σ δ i b
    · obtain ⟨i, ai⟩ := ha
      exact .inr ⟨own1 i b ai, i, ai⟩
    · have na : ∀ i, ¬ At σ δ i b := fun i z => ha ⟨i, z⟩
      exact .inl ⟨(mix_not na).symm, na⟩
  refine ⟨⟨⟨hs.len, hs.base.trans s1, ex, fun i d e => ?_, fun i d e => ?_, fun i p ds e => ?_, hs.ne⟩, s1, fun b o e => ?_⟩, r⟩
  · obtain ⟨v, e1, r1⟩ := hs.fr i d e
    exact ⟨v, e1, Rep.mono s1 _ _ r1⟩
  · obtain ⟨p, e1, o⟩ := hs.ow i d e
    exact ⟨p, e1, o.mono s1 (mix_own ⟨_, e, True.intro, e1⟩)⟩
  · obtain ⟨e1, o⟩ := hs.lk i p ds e
    exact ⟨e1, o.mono s1 (mix_own ⟨_, e, True.intro, e1⟩)⟩
  · rcases hs.ex b with ⟨q, a⟩ | ⟨q, i, a⟩
    · rw [mix_not a]; exact s1 b o (q.trans e)
    · rw [mix_own a]; exact e
/-- .. of a new list or dict -/
theorem Hs.behind_new {G1 : Hp} {d : D} {v : V} (hs : Hs X.K H0 σ δ G H) (own1 : ∀ i b, At σ δ i b → G1 b = none) (ok : RetOk X.K G G1 v (.new d)) :
    ∃ G2, Hs X.K H0 (some v :: σ) (.ow d :: δ) G2 (mix σ δ H G1) ∧ Same G G2 ∧ Same H (mix σ δ H G1) := by
  obtain ⟨G2, p, rfl, s2, gp, eq, o⟩ := ok
  obtain ⟨ob, eo, so⟩ := o.soft
  have nap : ∀ i, ¬ At σ δ i p := fun i a => by rw [own1 i p a] at eo; cases eo
  have mp : mix σ δ H G1 p = G1 p := mix_not nap
  have sm : Same H (mix σ δ H G1) := fun b u e => by
    rcases hs.ex b with ⟨q, a⟩ | ⟨q, i, a⟩
    · rw [mix_not a]
      have e2 := s2 b u (q.trans e)
      have hb : b ≠ p := ne_of_none e2 gp
      rw [← eq b hb]; exact e2
    · rw [mix_own a]; exact e
  have a0 : ∀ b, At (some (.ref p) :: σ) (.ow d :: δ) 0 b ↔ b = p := fun b => by
    rw [at_zero]
    constructor
    · rintro ⟨_, z⟩; cases z; rfl
    · rintro rfl; exact ⟨True.intro, rfl⟩
  refine ⟨G2, ⟨by simp [hs.len], hs.base.trans s2, fun b => ?_, fun j d' q => ?_, fun j d' q => ?_, fun j q' es q => ?_, fun j k b a1 a2 => ?_⟩, s2, sm⟩
  · by_cases hb : b = p
    · subst hb; exact .inr ⟨gp, 0, (a0 b).mpr rfl⟩
    · rcases hs.ex b with ⟨z1, z2⟩ | ⟨z1, j, z2⟩
      · refine .inl ⟨by rw [mix_not z2]; exact eq b hb, fun j a => ?_⟩
        cases j with
        | zero => exact hb ((a0 b).mp a)
        | succ j => exact z2 j (at_cons.mp a)
      · exact .inr ⟨by rw [eq b hb]; exact own1 j b z2, j + 1, at_cons.mpr z2⟩
  · cases j with
    | zero => simp at q
    | succ j =>
      obtain ⟨v, e1, r1⟩ := hs.fr j d' (by simpa using q)
      exact ⟨v, by simpa using e1, Rep.mono s2 _ _ r1⟩
  · cases j with
    | zero =>
      simp at q; subst q
      exact ⟨p, rfl, o.mono (Same.refl _) mp⟩
    | succ j =>
      have q' : δ[j]? = some (.ow d') := by simpa using q
      obtain ⟨b, w1, w2⟩ := hs.ow j d' q'
      exact ⟨b, by simpa using w1, w2.mono s2 (mix_own ⟨_, q', True.intro, w1⟩)⟩
  · cases j with
    | zero => simp at q
    | succ j =>
      have q'' : δ[j]? = some (.lk q' es) := by simpa using q
      obtain ⟨w1, w2⟩ := hs.lk j q' es q''
      exact ⟨by simpa using w1, w2.mono s2 (mix_own ⟨_, q'', True.intro, w1⟩)⟩
  · cases j with
    | zero =>
      cases k with
      | zero => rfl
      | succ k =>
        have z := (a0 b).mp a1
        subst z
        exact absurd (at_cons.mp a2) (nap k)
    | succ j =>
      cases k with
      | zero =>
        have z := (a0 b).mp a2
        subst z
        exact absurd (at_cons.mp a1) (nap j)
      | succ k =>
        have := hs.ne j k b (at_cons.mp a1) (at_cons.mp a2)
        omega
end

/-! ### own defs called -/
structure Fn2 (P : Program) (w : World) (K : PySem.W.Frag) (mg : Str → Option Value) (base : Heap) (k : Nat) (x : Str) (sp : Sp2) : Prop where
  ex : ∃ (f : Addr) (fd : FuncData) (ps : List Str), FnOk P w K mg base CX0 k f fd ps (liftSp K sp) ∧ mg x = some (.ref f) ∧ PySem.W.keepIn K (.ref f) = true ∧ Binds K fd ps []
section
variable {X : Cx} {H0 : Hp} {k : Nat} {x : Str} {sp : Sp2} {e : Expr} {es : List Expr} {tr : RA} {p pos : Pos}
theorem run_fn2 {pins : List (Addr × Obj)} {σ : L2.St} {δ : List Sl} {G H : Hp} {s : Shared} {f : Addr} {fd : FuncData} {ps : List Str} {us : List Value} {vs : List V} {ds : List D} {Qd : Ret → Prop} {Q : Value → Shared → Prop}
    (F : FnOk X.prog X.w X.K X.mg X.base CX0 k f fd ps (liftSp X.K sp)) (hr : Room k X.A) (hb : Binds X.K fd ps []) (hs : Hs X.K H0 σ δ G H) (I : Inv X pins σ H s) (r : Vals vs us) (rd : Reps X.K G ds vs) (h : sp ds Qd)
    (q : ∀ v G1 r u s', Inv X pins σ (mix σ δ H G1) s' → RelV v u → (∀ i b, At σ δ i b → G1 b = none) → RetOk X.K G G1 v r → Qd r → Q u s') : wpAny (model X.prog X.w) X.A (call (.ref f) us) Q X.xe s := by
  have hh : liftSp X.K sp vs G (fun v G1 => ∃ r, RetOk X.K G G1 v r ∧ Qd r) E0 := ⟨ds, Qd, rd, h, fun v H' r ok q => ⟨r, ok, q⟩⟩
  have hl : us.length = ps.length := by rw [← r.length]; exact F.len _ _ _ _ hh
  have hbt : BindsTo s fd ⟨us, []⟩ (ps.zip us) := by simpa using hb s us I.kIn (by simpa using hl)
  refine wpAny_call (codeAny_mono (F.run X.A X.stack s G ⟨us, []⟩ us vs _ E0 hr (hs.env0 I) hbt r hh) fun r s' hq => ?_)
  cases r with
  | error e => exact False.elim hq
  | ok fl =>
    cases fl with
    | ret u =>
      obtain ⟨v, G1, I1, rv, ⟨r, ok, q1⟩, own1⟩ := hs.behind I hq
      exact q v G1 r u s' I1 rv own1 ok q1
    | next => exact False.elim hq
    | brk => exact False.elim hq
    | cont => exact False.elim hq
def rCall (sp : Sp2) (tr : RA) (δ : List Sl) (Q : D → Prop) : Prop := tr δ fun ds => sp ds fun r => match r with
  | .val d => Q d
  | .new d => Q d
def rCallN (sp : Sp2) (tr : RA) (δ : List Sl) (Q : D → Prop) : Prop := tr δ fun ds => sp ds fun r => match r with
  | .val _ => False
  | .new d => Q d
theorem e_call (F : Fn2 X.prog X.w X.K X.mg X.base k x sp) (hr : Room k X.A) (ha : PA2 X H0 (e :: es) tr) (hg : Gl X x := by rfl) (hdb : (x == ("__debug__" : Str)) = false := by decide)
    (he : starEach (e :: es) X.env = (false, eval e X.env) :: starEach es X.env := by rfl) (hpl : (backTo pos (starEach es X.env)).any (·.1) = false := by rfl) : PE2 X H0 (.Call (.Name x p) (e :: es) [] pos) (rCall sp tr) := by
  obtain ⟨f, fd, ps, F, hm, hk, hb⟩ := F.ex
  intro pins s σ H Q I ⟨δ, G, Qd, hs, ht, kk⟩
  refine wpAny_Call_Name_kw (ld_glob I hg hm ?_ hdb)
  have hA : liftA X.K H0 tr σ H (fun vs H' => ∃ G' ds, Nx X.K H0 σ δ G H G' H' ∧ Reps X.K G' ds vs ∧ sp ds fun r => match r with | .val d => Qd d | .new d => Qd d) := ⟨δ, G, _, hs, ht, fun vs H' G' ds n r q => ⟨G', ds, n, r, q⟩⟩
  refine PySem.W.callWith_K (h₀ := X.base) I.ok.mod.kin hk (thn (ha pos pins s σ H _ I hA) fun us s1 ⟨vs, H1, I1, r, G', ds, n, rd, q⟩ => ⟨I1.kIn, ?_⟩) he hpl
  refine run_fn2 F hr hb n.hs I1 r rd q fun v G1 r u s' I2 rv own1 ok q2 => ?_
  cases r with
  | val d =>
    obtain ⟨n2, r2⟩ := n.hs.behind_val own1 ok
    exact ⟨v, _, I2, rv, kk v _ _ d (n.trans n2) r2 q2⟩
  | new d =>
    obtain ⟨G2, n2, sg, sh⟩ := n.hs.behind_new own1 ok
    obtain ⟨G3, n3, s3, r3⟩ := n2.settle
    exact ⟨v, _, I2, rv, kk v _ _ d ⟨n3, (n.g.trans sg).trans s3, n.h.trans sh⟩ r3 q2⟩
theorem n_call (F : Fn2 X.prog X.w X.K X.mg X.base k x sp) (hr : Room k X.A) (ha : PA2 X H0 (e :: es) tr) (hg : Gl X x := by rfl) (hdb : (x == ("__debug__" : Str)) = false := by decide)
    (he : starEach (e :: es) X.env = (false, eval e X.env) :: starEach es X.env := by rfl) (hpl : (backTo pos (starEach es X.env)).any (·.1) = false := by rfl) : PN2 X H0 (.Call (.Name x p) (e :: es) [] pos) (rCallN sp tr) := by
  obtain ⟨f, fd, ps, F, hm, hk, hb⟩ := F.ex
  intro pins s σ H Q I ⟨δ, G, Qd, hs, ht, kk⟩
  refine wpAny_Call_Name_kw (ld_glob I hg hm ?_ hdb)
  have hA : liftA X.K H0 tr σ H (fun vs H' => ∃ G' ds, Nx X.K H0 σ δ G H G' H' ∧ Reps X.K G' ds vs ∧ sp ds fun r => match r with | .val _ => False | .new d => Qd d) := ⟨δ, G, _, hs, ht, fun vs H' G' ds n r q => ⟨G', ds, n, r, q⟩⟩
  refine PySem.W.callWith_K (h₀ := X.base) I.ok.mod.kin hk (thn (ha pos pins s σ H _ I hA) fun us s1 ⟨vs, H1, I1, r, G', ds, n, rd, q⟩ => ⟨I1.kIn, ?_⟩) he hpl
  refine run_fn2 F hr hb n.hs I1 r rd q fun v G1 r u s' I2 rv own1 ok q2 => ?_
  cases r with
  | val d => exact q2.elim
  | new d =>
    obtain ⟨G2, n2, sg, sh⟩ := n.hs.behind_new own1 ok
    exact ⟨v, _, I2, rv, kk v _ _ d n2 (n.g.trans sg) (n.h.trans sh) q2⟩
end
end M

set_option Elab.async false
set_option linter.all false
set_option maxRecDepth 100000
set_option maxHeartbeats 4000000
namespace M
open PySem PySem.Spec PyProof.Rows L2
section
variable {prog : Program} {w : World} {A : Around} {E : Value → Shared → Prop}
theorem draw_list {it t : Addr} {items : Array Value} (hne : t ≠ it) : ∀ (n i : Nat) (s : Shared) (Q : List Value → Shared → Prop), s.heap.IsListIter it t i → s.heap.IsList t items → i + n ≤ items.size →
    (∀ h', h'.IsListIter it t (i + n) → Heap.SameBut it s.heap h' → Q ((items.toList.drop i).take n) { s with heap := h' }) → wpAny (model prog w) A (draw (.ref it) n) Q E s
  | 0, i, s, Q, hit, _, _, hQ => by
    show wpAny _ _ (pure []) Q E s
    exact wpAny_pure (by simpa using hQ s.heap hit (Heap.SameBut.refl ..))
  | n + 1, i, s, Q, hit, ht, hle, hQ => by
    have hlt : i < items.size := by omega
    show wpAny _ _ (pyNext (.ref it) >>= _) Q E s
    refine wpAny_bind (wpAny_pyNext_list_item hit ht (x := items[i]) (by simp [hlt]) fun h₁ hit₁ hs₁ => ?_)
    refine wpAny_bind (wpAny_holding (draw_list hne n (i + 1) _ _ hit₁ (ht.at fun o e => (hs₁.2 t hne).trans e) (by omega) fun h₂ hit₂ hs₂ => wpAny_pure ?_))
    have hd : items.toList.drop i = items[i] :: items.toList.drop (i + 1) := by simp [List.drop_eq_getElem_cons, hlt]
    have := hQ h₂ (by rw [show i + (n + 1) = i + 1 + n by omega]; exact hit₂) (hs₁.trans hs₂)
    rw [hd, List.take_succ_cons] at this
    exact this
theorem unpackItems_list {s : Shared} {t : Addr} {items : Array Value} {Q : List Value → Shared → Prop} (hh : A.handled = none) (ht : s.heap.IsList t items)
    (hQ : ∀ h', Heap.ExtBut s.heap.objs.size s.heap h' → Q items.toList { s with heap := h' }) : wpAny (model prog w) A (unpackItems (.ref t) items.size none) Q E s := by
  have hlt : t ≠ s.heap.objs.size := by obtain ⟨o, ho, _⟩ := ht; exact Nat.ne_of_lt (Heap.lt_size ho)
  unfold unpackItems
  refine wpAny_bind ?_
  · unfold notIterableAtAll
    refine wpAny_bind (wpAny_specialOf ht.typeIs PySem.slot_list_iter.lookup ?_)
    refine wpAny_pure ?_
    simp only [Bool.false_eq_true, if_false]
    refine wpAny_bind (wpAny_holding (wpAny_pyIter_list ht ?_))
    refine wpAny_bind (wpAny_holding (draw_list hlt items.size 0 _ _ ⟨_, Heap.get?_push_size _ rfl, rfl, rfl⟩ (ht.at fun o e => Heap.get?_push_of_some _ e) (by omega) fun h₁ hit₁ hs₁ => ?_))
    have hall : List.take items.size (List.drop 0 items.toList) = items.toList := by
      rw [List.drop_zero]; exact List.take_of_length_le (by simp)
    rw [hall]
    rw [if_neg (by simp)]
    have ht₁ : h₁.IsList t items := ht.at fun o e => (hs₁.2 t hlt).trans (Heap.get?_push_of_some _ e)
    refine wpAny_bind (wpAny_holding (wpAny_pyNext_list_end hh hit₁ ht₁ (by simp) fun h₂ he₂ => ?_))
    simp only [Option.isSome_none, Bool.false_eq_true, if_false]
    refine wpAny_pure (hQ h₂ fun b o hb e => he₂ b o hb (hs₁.extBut b o hb (Heap.get?_push_of_some _ e)))
theorem assign_Tuple_list {s : Shared} {env : Env} {elts : List Expr} {x1} {pos : Pos} {t : Addr} {items : Array Value} {Q : Unit → Shared → Prop} (hh : A.handled = none) (ht : s.heap.IsList t items)
    (hn : (assignEach elts env).length = items.size) (hstar : (assignEach elts env).findIdx? (·.1) = none)
    (h : ∀ h', Heap.ExtBut s.heap.objs.size s.heap h' → wpAny (model prog w) A (assignInOrder ((assignEach elts env).map (·.2)) items.toList) Q E { s with heap := h' }) :
    wpAny (model prog w) A (assign (.Tuple elts x1 pos) env (.ref t)) Q E s := by
  rw [PyProof.Rows.assign_Tuple]
  refine wpAny_bind (wpAny_standAt ?_)
  unfold unpack
  rw [hn, hstar]
  exact wpAny_bind (wpAny_holding (unpackItems_list hh ht h))
end
section
variable {X : Cx} {H0 : Hp} {es : List Expr} {gs : RGs} {pos : Pos}
def gLstT (K : PySem.W.Frag) (n : Nat) (t : TGs) : TG := fun v σ H Q => ∃ a xs, v = .ref a ∧ SqL K H a xs ∧ xs.length = n ∧ t xs σ H Q
theorem pg_lst {es : List Expr} {k : Nat} {t : TGs} {n : Nat} (hc : X.calm = true) (h : PGs X es t)
    (hn : (assignEach es X.env).length = n := by rfl) (hst : (assignEach es X.env).findIdx? (·.1) = none := by rfl) : PG X (.Tuple es k pos) (gLstT X.K n t) := by
  intro pins s σ H v u Q I r hw
  obtain ⟨a, xs, e1, hq, hl, hw⟩ := hw
  subst e1
  cases r
  obtain ⟨its, rv, ht, hz⟩ := I.list hq
  refine assign_Tuple_list (I.ok.hd hc) ht.isList (by simp [hn, ← hl, rv.length]) hst fun h' hx => ?_
  have I1 : L2.Inv X pins σ H { s with heap := h' } := I.kept (t' := s.toks) fun b o e => hx b o (Nat.ne_of_lt (Heap.lt_size e)) e
  exact h pins _ σ H xs _ Q I1 (by simpa using rv) hw
def gLst2 (n : Nat) (gs : RGs) (d : D) (δ : List Sl) (Q : List Sl → Prop) : Prop := match d with
  | .lst ds => ds.length = n ∧ gs ds δ Q
  | _ => False
theorem g_lst {n k : Nat} (hc : X.calm = true) (h : PGs2 X H0 es gs) (hn : (assignEach es X.env).length = n := by rfl) (hst : (assignEach es X.env).findIdx? (·.1) = none := by rfl) : PG2 X H0 (.Tuple es k pos) (gLst2 n gs) :=
  PG.weak (pg_lst (n := n) hc h hn hst) fun v σ H Q ⟨δ, G, d, Qd, hs, r, h, k⟩ => by
    cases d with
    | lst ds =>
      simp only [Rep] at r
      obtain ⟨a, vs, rfl, h2, h3⟩ := r
      exact ⟨a, vs, rfl, hs.sub.seq h2, by rw [← h3.length]; exact h.1, δ, G, ds, Qd, hs, h3, h.2, k⟩
    | _ => exact h.elim
end

/-! ### enumerate over a list -/
section
def Ite (K : PySem.W.Frag) (a : Addr) : It :=
  ⟨fun i H => ∃ xs x, SqL K H a xs ∧ xs[i]? = some x, fun i H x H' => ∃ p y, H p = none ∧ x = .ref p ∧ (∀ xs, SqL K H a xs → xs[i]? = some y) ∧ H' = upd H p (.tup [.int i, y]), fun i H => ∃ xs, SqL K H a xs ∧ xs.length ≤ i⟩
theorem turn_enum {P : Program} {w : World} {K : PySem.W.Frag} {ts : List Expr} {k : Nat} {tp : Pos} (a e it : Addr) (hne : e ≠ it) : Turn P w K (.Tuple ts k tp) (Ite K a) [e, it] e (fun i h => (∃ old, IsEnum h e it i old) ∧ h.IsListIter it a i) where
  mem := by simp
  obj := fun i h st b hb => by
    obtain ⟨⟨old, h1⟩, o, h2, c, d⟩ := st
    rcases List.mem_cons.mp hb with z | z
    · subst z; exact ⟨_, h1, fun v z => by cases z⟩
    · have z : b = it := by simpa using z
      subst z; exact ⟨o, h2, fun v z => by rw [d] at z; cases z⟩
  keep := fun i h h' st k => by
    obtain ⟨⟨old, h1⟩, h2⟩ := st
    exact ⟨⟨old, k e (by simp) _ h1⟩, h2.at fun o q => k it (by simp) o q⟩
  item := by
    intro X hP hw hK hc i pins s σ H E I hf st hg
    subst hP hw hK
    obtain ⟨xs, x, hq, hx⟩ := hg
    obtain ⟨its, rv, p, hz⟩ := I.list hq
    obtain ⟨u, hu, ru⟩ := rv.get hx
    obtain ⟨⟨old, h1⟩, h2⟩ := st
    obtain ⟨f0, f1, f2, f3, f4, f5⟩ := hf e (by simp)
    obtain ⟨g0, g1, g2, g3, g4, g5⟩ := hf it (by simp)
    have fr : H s.heap.objs.size = none := I.hok.fresh (Nat.le_refl _)
    refine wpAny_pyNext_enum_item h1 h2 p.isList (x := u) (by simpa using hu) hne fun h' ho hit' hT hsz hk => ⟨_, rfl, ?_⟩
    have elt : e < s.heap.objs.size := Heap.lt_size h1
    have ilt : it < s.heap.objs.size := by obtain ⟨o, q, _⟩ := h2; exact Heap.lt_size q
    refine wpAny_letOwnedTupleGo_enum ho fun h3 he3 hs3 => ?_
    replace hs3 : Heap.SameBut e h' h3 := hs3
    have kk : ∀ b o, b ≠ e → b ≠ it → s.heap.get? b = some o → h3.get? b = some o := fun b o hb hb' q => (hs3.2 b hb).trans (hk b o hb hb' q)
    have nit : ∀ b u, H b = some u → b ≠ e ∧ b ≠ it := fun b u q => ⟨(fun z => by rw [z, f0] at q; cases q), (fun z => by rw [z, g0] at q; cases q)⟩
    have hT3 : h3.get? s.heap.objs.size = some { cls := .type "tuple", data := .seq #[.int i s.toks, u] } := (hs3.2 _ (Nat.ne_of_gt elt)).trans hT
    refine ⟨.ref s.heap.objs.size, upd H s.heap.objs.size (.tup [.int i, x]), ?_, rfl, ⟨_, x, fr, rfl, fun ys hy => by rw [I.list_inj hy hq]; exact hx, rfl⟩, ⟨⟨u, by simpa using he3⟩, hit'.at fun o q => (hs3.2 it hne.symm).trans q⟩, fun b hb => ?_⟩
    · suffices h : L2.Inv X pins σ (upd H s.heap.objs.size (.tup [.int i, x])) { s with heap := h3, gens := s.gens, drawn := s.drawn, toks := s.toks + 1 } from h
      refine I.step (g' := s.gens) (d' := s.drawn) (ch := [e, it]) (h' := h3) (t' := s.toks + 1) (fun b hb => ?_) (fun b o _ _ hc e' _ => ?_) (fun b o _ _ hc e' _ => ⟨o.slots, ?_⟩) (fun b o hc e' n => ?_) (fun b o hc e' => ⟨o, ?_⟩) (fun b ys q => ?_) (fun b o u' q => ?_) (fun b ps q => ⟨#[], ?_⟩) (fun m hm => ?_) (fun b o q => ?_) I.bare
      · rcases List.mem_cons.mp hb with z | z
        · subst z; exact ⟨f3, f1, f4, f5⟩
        · have z : b = it := by simpa using z
          subst z; exact ⟨g3, g1, g4, g5⟩
      · exact kk b o (fun z => hc (by simp [z])) (fun z => hc (by simp [z])) e'
      · exact kk b o (fun z => hc (by simp [z])) (fun z => hc (by simp [z])) e'
      · rw [upd_ne (Nat.ne_of_lt (Heap.lt_size e'))]; exact n
      · exact kk b o (fun z => hc (by simp [z])) (fun z => hc (by simp [z])) e'
      · rw [upd_ne (ne_of_none q fr)]; exact q
      · rw [upd_ne (ne_of_none q fr)]; exact q
      · rw [upd_ne (ne_of_none q fr), q]; simp
      · obtain ⟨o, es, ep, ho', r⟩ := hm
        exact ⟨o, es, ep, kk _ o f1.symm g1.symm ho', r⟩
      · by_cases hb : b = s.heap.objs.size
        · subst hb
          rw [upd_same] at q; cases q
          exact ⟨by show 2 ≤ sizeLine; decide, [.int i s.toks, u], .cons ⟨_, rfl⟩ (.cons ru .nil), ⟨_, hT3, rfl, _, rfl⟩⟩
        · rw [upd_ne hb] at q
          refine (I.hok b o q).stay (fun c v hc z => ?_) (fun c z => ?_) (fun c ys z => ?_)
          · rcases hc with y | y
            · rw [y] at z ⊢; exact kk b v (nit b _ q).1 (nit b _ q).2 z
            · exact kk c v (nit c _ y).1 (nit c _ y).2 z
          · rw [upd_ne (ne_of_none z fr)]; exact z
          · rw [upd_ne (ne_of_none z fr)]; exact z
    · have hb' : b ≠ s.heap.objs.size := by
        rcases List.mem_cons.mp hb with z | z
        · subst z; exact Nat.ne_of_lt elt
        · have z : b = it := by simpa using z
          subst z; exact Nat.ne_of_lt ilt
      rw [upd_ne hb']; exact (hf b hb).1
  done := by
    intro X hP hw hK hc i pins s σ H E I hf st hg
    subst hP hw hK
    obtain ⟨xs, hq, hx⟩ := hg
    obtain ⟨its, rv, p, hz⟩ := I.list hq
    obtain ⟨⟨old, h1⟩, h2⟩ := st
    obtain ⟨f0, f1, f2, f3, f4, f5⟩ := hf it (by simp)
    have hl := rv.length
    exact wpAny_pyNext_enum_end (I.ok.hd hc) h1 h2 p.isList (by simp; omega) fun h' eb => ⟨rfl, I.turned (t' := s.toks) (fun b o hb e => eb b o hb e) f0 f1 f3 f4 f5⟩
  self := fun _ _ _ _ _ st h => by
    obtain ⟨⟨old, h1⟩, _⟩ := st
    exact wpAny_pyIter_enum h1 h

variable {X : Cx} {H0 : Hp}
def iEnum (K : PySem.W.Frag) (ta : TA) : TI := fun σ H R => ta σ H fun vs H1 => ∃ a, vs = [.ref a] ∧ (∃ xs, SqL K H1 a xs) ∧ R (Ite K a) H1
theorem pi_enum {ts : List Expr} {k : Nat} {tp : Pos} {a : Expr} {ta : TA} {p pos : Pos} (hg : Gl X "enumerate") (hm : X.mg "enumerate" = none) (ha : PA X [a] ta) (hs : starEach [a] X.env = [(false, eval a X.env)] := by rfl) :
    PI X (.Tuple ts k tp) (.Call (.Name "enumerate" p) [a] [] pos) (iEnum X.K ta) := by
  intro pins s σ H R I h
  refine wpAny_Call_Name_kw (ld_blt I hg hm (u := .type "enumerate") rfl ?_)
  refine PyProof.Rows.callWith_type1 (thn (ha pos pins s σ H _ I h) fun us s1 ⟨vs, H1, I1, r1, q1⟩ => ?_) hs rfl
  obtain ⟨l, e, ⟨xs, hq⟩, q⟩ := q1
  subst e
  obtain ⟨u, rfl, ru⟩ := vals1 r1
  cases ru
  obtain ⟨its, rv, pl, hz⟩ := I1.list hq
  refine call_enumerate_list pl.isList fun h' he hit hsz hk => ?_
  refine wpAny_pyIter_enum he ?_
  have I2 : L2.Inv X pins σ H1 { s1 with heap := h' } := I1.kept (t' := s1.toks) hk
  refine ⟨s1.heap.objs.size + 1, [s1.heap.objs.size + 1, s1.heap.objs.size], _, _, H1, rfl, I2, turn_enum l _ _ (Nat.succ_ne_self _), ⟨⟨_, by simpa using he⟩, hit⟩, fun b hb => ?_, q⟩
  have hb' : s1.heap.objs.size ≤ b := by
    rcases List.mem_cons.mp hb with z | z
    · rw [z]; exact Nat.le_succ _
    · have z : b = s1.heap.objs.size := by simpa using z
      rw [z]; exact Nat.le_refl _
  exact I1.fpOk hb' (I1.hok.fresh hb')
/-- the pairs of enumerate -/
def enumD (n : Nat) : List D → List D
  | [] => []
  | d :: ds => .tup [.int n, d] :: enumD (n + 1) ds
theorem enumD_length (n : Nat) (ds : List D) : (enumD n ds).length = ds.length := by
  induction ds generalizing n with
  | nil => rfl
  | cons d ds ih => simp [enumD, ih]
theorem enumD_drop : ∀ (n i : Nat) (ds : List D) (d : D), ds[i]? = some d → (enumD n ds).drop i = .tup [.int (n + i : Nat), d] :: (enumD n ds).drop (i + 1)
  | n, _, [], _, h => by simp at h
  | n, 0, d' :: ds, d, h => by simp at h; subst h; simp [enumD]
  | n, i + 1, d' :: ds, d, h => by
    have := enumD_drop (n + 1) i ds d (by simpa using h)
    simp only [enumD, List.drop_succ_cons]
    rw [this]
    simp only [Nat.add_assoc, Nat.add_comm 1 i]
def lst1 (ds : List D) (Q : List D → Prop) : Prop := match ds with
  | [.lst xs] => Q xs
  | _ => False
theorem lst1_of {ds : List D} {Q : List D → Prop} (h : lst1 ds Q) : ∃ xs, ds = [.lst xs] ∧ Q xs := by
  unfold lst1 at h
  split at h
  · exact ⟨_, rfl, h⟩
  · exact h.elim
def rForE (tr : RA) (g : RG) (tb : RS) (E : Ends2) (δ : List Sl) : Prop := tr δ fun ds => lst1 ds fun xs => loop g tb E (enumD 0 xs) δ
variable {ts : List Expr} {k : Nat} {tp p pos pos2 : Pos} {a : Expr} {tr : RA} {g : RG} {tb : RS} {body : List Stmt}
theorem s_forE (hp : PassesOwn (model X.prog X.w) X.A X.env X.xe) (hc : X.calm = true) (hgl : Gl X "enumerate") (hm : X.mg "enumerate" = none) (ha : PA2 X H0 [a] tr) (hg : PG2 X H0 (.Tuple ts k tp) g) (hb : PSs2 X H0 body tb) (hst : starEach [a] X.env = [(false, eval a X.env)] := by rfl)
    (hs : ∀ x, foldedSetIterable (.Call (.Name "enumerate" p) [a] [] pos2) X.env x = pure x := by intro _; rfl) : PS2 X H0 (.For (.Tuple ts k tp) (.Call (.Name "enumerate" p) [a] [] pos2) body [] pos) (rForE tr g tb) :=
  PS.weak (ps_for hp hc (pi_enum hgl hm ha hst) hg hb hs) fun D σ H ⟨δ, G, E, hs, ht, go⟩ => ⟨δ, G, _, hs, ht, fun vs H1 G1 ds n1 r1 q1 => by
    obtain ⟨xs, rfl, q2⟩ := lst1_of q1
    simp only [Reps, Rep] at r1
    obtain ⟨v, r, rfl, ⟨l, ws, rfl, h2, h3⟩, rfl⟩ := r1
    refine ⟨l, rfl, ⟨ws, n1.hs.sub.seq h2⟩, fun i m σ' H' => m = ws.length - i ∧ i ≤ ws.length ∧ ∃ δ' G', Hs X.K H0 σ' δ' G' H' ∧ Same G1 G' ∧ loop g tb E ((enumD 0 xs).drop i) δ', ⟨ws.length, by simp, Nat.zero_le _, δ, G1, n1.hs, Same.refl _, q2⟩, ?_⟩
    rintro i m σ' H' ⟨rfl, hi, δ', G', h', s', q'⟩
    have sq : SqL X.K H' l ws := h'.sub.seq (s'.seq h2)
    by_cases hlt : i < ws.length
    · have hx : ws[i]? = some ws[i] := by simp [hlt]
      obtain ⟨d, ed, rd⟩ := h3.getV hx
      rw [enumD_drop 0 i xs d ed] at q'
      refine .inr ⟨⟨ws, ws[i], sq, hx⟩, fun σ2 H2 => ∃ δ' G', Hs X.K H0 σ2 δ' G' H2 ∧ Same G1 G' ∧ loop g tb E ((enumD 0 xs).drop (i + 1)) δ', fun σ2 H2 z => ⟨ws.length - (i + 1), by omega, rfl, hlt, z⟩, fun x H2 ⟨p, y, hp, ex, hy, eh⟩ => ?_⟩
      subst ex eh
      have ey : ws[i] = y := by
        have := hy ws sq
        rw [hx] at this; exact Option.some.inj this
      obtain ⟨h4, s4⟩ := h'.laid (o := .tup [.int i, y]) hp
      refine ⟨δ', _, .tup [.int (0 + i : Nat), d], _, h4, ?_, q', fun σ2 H2 δ2 G2 h2' s2 q2 => ⟨δ2, G2, _, h2', q2, ⟨fun σ3 H3 δ3 G3 h3' s3 ⟨δ4, f4, q3⟩ => ⟨δ4, G3, h3'.forget f4, ((s'.trans s4).trans s2).trans s3, q3⟩, go.rt, fun σ3 H3 δ3 G3 h3' s3 q3 => go.nx σ3 H3 δ3 G3 h3' ((((n1.g.trans s').trans s4).trans s2).trans s3) q3, fun σ3 H3 δ3 G3 h3' s3 ⟨δ4, f4, q3⟩ => ⟨δ4, G3, h3'.forget f4, ((s'.trans s4).trans s2).trans s3, q3⟩⟩⟩⟩
      simp only [Rep]
      refine ⟨p, _, rfl, upd_same, Reps.cons (by simp only [Rep]; rw [Nat.zero_add]) (Reps.cons ?_ Reps.nil)⟩
      subst ey
      exact Rep.mono (s'.trans s4) _ _ rd
    · have e : i = ws.length := by omega
      subst e
      refine .inl ⟨⟨ws, sq, Nat.le_refl _⟩, go.nx σ' H' δ' G' h' (n1.g.trans s') ?_⟩
      rw [List.drop_of_length_le (by rw [enumD_length, h3.length]; exact Nat.le_refl _)] at q'
      exact q'⟩
end
end M

set_option Elab.async false
set_option linter.all false
set_option maxRecDepth 100000
set_option maxHeartbeats 4000000
namespace M
open PySem PySem.Spec PyProof.Rows L2
/-! ### calls of built-in functions; their arguments may be one's own -/
def RepsB (K : PySem.W.Frag) (G H : Hp) : List D → List V → Prop
  | [], vs => vs = []
  | d :: ds, vs => ∃ v r, vs = v :: r ∧ RepB K G H d v ∧ RepsB K G H ds r
def liftAB (K : PySem.W.Frag) (H0 : Hp) (t : RA) : TA := fun σ H Q => ∃ δ G Qd, Hs K H0 σ δ G H ∧ t δ Qd ∧ ∀ vs H' G' ds, Nx K H0 σ δ G H G' H' → RepsB K G' H' ds vs → Qd ds → Q vs H'
def PAB2 (X : Cx) (H0 : Hp) (es : List Expr) (t : RA) : Prop := PA X es (liftAB X.K H0 t)
section
variable {X : Cx} {H0 : Hp} {e : Expr} {t : RE} {pos p : Pos} {es : List Expr} {tr : RA} {x : Str} {id T : String}
theorem ab_nil : PAB2 X H0 [] rNil := PA.weak pa_nil fun σ H Q ⟨δ, G, Qd, hs, ht, k⟩ => k [] H G [] (Nx.refl hs) rfl ht
theorem ab_cons (ha : PB2 X H0 e t) (hr : PAB2 X H0 es tr) (hs : starEach (e :: es) X.env = (false, eval e X.env) :: starEach es X.env := by rfl) : PAB2 X H0 (e :: es) (rCons t tr) :=
  PA.weak (pa_cons ha hr hs) fun σ H Q ⟨δ, G, Qd, hs, ht, k⟩ => ⟨δ, G, _, hs, ht, fun v H1 G1 d n1 r1 q1 => ⟨δ, G1, _, n1.hs, q1, fun vs H2 G2 ds n2 r2 q2 => k (v :: vs) H2 G2 (d :: ds) (n1.trans n2) ⟨v, vs, rfl, r1.mono n2.g n2.h, r2⟩ q2⟩⟩
def LfC (K : PySem.W.Frag) (r : List V → Hp → VK → Prop) (r2 : List D → (D → Prop) → Prop) : Prop :=
  ∀ (H0 : Hp) (σ : L2.St) (δ : List Sl) (G H : Hp) (vs : List V) (ds : List D) (Qd : D → Prop) (Q : VK), Hs K H0 σ δ G H → RepsB K G H ds vs → r2 ds Qd → (∀ v H' G' d, Nx K H0 σ δ G H G' H' → Rep K G' d v → Qd d → Q v H') → r vs H Q
def LfN (K : PySem.W.Frag) (r : List V → Hp → VK → Prop) (r2 : List D → (D → Prop) → Prop) : Prop :=
  ∀ (H0 : Hp) (σ : L2.St) (δ : List Sl) (G H : Hp) (vs : List V) (ds : List D) (Qd : D → Prop) (Q : VK), Hs K H0 σ δ G H → RepsB K G H ds vs → r2 ds Qd → (∀ v H' G' d, Hs K H0 (some v :: σ) (.ow d :: δ) G' H' → Same G G' → Same H H' → Qd d → Q v H') → r vs H Q
def rCB (r2 : List D → (D → Prop) → Prop) (tr : RA) (δ : List Sl) (Q : D → Prop) : Prop := tr δ fun ds => r2 ds Q
variable {r : List V → Hp → VK → Prop} {r2 : List D → (D → Prop) → Prop}
theorem lift_cb (lf : LfC X.K r r2) : ∀ σ H Q, liftE X.K H0 (rCB r2 tr) σ H Q → tCB r (liftAB X.K H0 tr) σ H Q := fun σ H Q ⟨δ, G, Qd, hs, ht, k⟩ =>
  ⟨δ, G, _, hs, ht, fun vs H1 G1 ds n1 r1 q1 => lf H0 σ δ G1 H1 vs ds Qd Q n1.hs r1 q1 fun v H2 G2 d n2 rr q2 => k v H2 G2 d (n1.trans n2) rr q2⟩
theorem lift_cbn (lf : LfN X.K r r2) : ∀ σ H Q, liftN X.K H0 (rCB r2 tr) σ H Q → tCB r (liftAB X.K H0 tr) σ H Q := fun σ H Q ⟨δ, G, Qd, hs, ht, k⟩ =>
  ⟨δ, G, _, hs, ht, fun vs H1 G1 ds n1 r1 q1 => lf H0 σ δ G1 H1 vs ds Qd Q n1.hs r1 q1 fun v H2 G2 d n2 sg sh q2 => k v H2 G2 d n2 (n1.g.trans sg) (n1.h.trans sh) q2⟩
theorem e_callB (hc : CallR X (.builtin id) r) (lf : LfC X.K r r2) (hm : X.mg x = none) (hv : bootBuiltins x = some (.builtin id)) (ha : PAB2 X H0 (e :: es) tr) (hg : Gl X x := by rfl) (hn : x ≠ "__name__" := by decide) (hdb : (x == ("__debug__" : Str)) = false := by decide)
    (he : starEach (e :: es) X.env = (false, eval e X.env) :: starEach es X.env := by rfl) (hpl : (backTo pos (starEach es X.env)).any (·.1) = false := by rfl) : PE2 X H0 (.Call (.Name x p) (e :: es) [] pos) (rCB r2 tr) :=
  PE.weak (pe_callB hc hg hm hv ha hn hdb he hpl) (lift_cb lf)
theorem e_callTy (hc : CallR X (.type T) r) (lf : LfC X.K r r2) (hm : X.mg x = none) (hv : bootBuiltins x = some (.type T)) (ha : PAB2 X H0 (e :: es) tr) (hg : Gl X x := by rfl) (hn : x ≠ "__name__" := by decide) (hdb : (x == ("__debug__" : Str)) = false := by decide)
    (he : starEach (e :: es) X.env = (false, eval e X.env) :: starEach es X.env := by rfl) (hpl : (backTo pos (starEach es X.env)).any (·.1) = false := by rfl) : PE2 X H0 (.Call (.Name x p) (e :: es) [] pos) (rCB r2 tr) :=
  PE.weak (pe_callTy hc hg hm hv ha hn hdb he hpl) (lift_cb lf)
theorem n_callTy (hc : CallR X (.type T) r) (lf : LfN X.K r r2) (hm : X.mg x = none) (hv : bootBuiltins x = some (.type T)) (ha : PAB2 X H0 (e :: es) tr) (hg : Gl X x := by rfl) (hn : x ≠ "__name__" := by decide) (hdb : (x == ("__debug__" : Str)) = false := by decide)
    (he : starEach (e :: es) X.env = (false, eval e X.env) :: starEach es X.env := by rfl) (hpl : (backTo pos (starEach es X.env)).any (·.1) = false := by rfl) : PN2 X H0 (.Call (.Name x p) (e :: es) [] pos) (rCB r2 tr) :=
  PE.weak (pe_callTy hc hg hm hv ha hn hdb he hpl) (lift_cbn lf)

/-! ### len, list, sum, max, min -/
def dLen (ds : List D) (Q : D → Prop) : Prop := match ds with
  | [.lst xs] => Q (.int xs.length)
  | [.tup xs] => Q (.int xs.length)
  | _ => False
theorem lf_len {K : PySem.W.Frag} : LfC K (fun xs H Q => ∃ p ys, xs = [.ref p] ∧ (SqL K H p ys ∨ SqT K H p ys) ∧ Q (.int ys.length) H) dLen := fun H0 σ δ G H vs ds Qd Q hs r h k => by
  unfold dLen at h
  split at h
  · rename_i xs
    obtain ⟨v, rr, rfl, ⟨a, ws, rfl, h2, h3⟩, h4⟩ := r
    obtain rfl : rr = [] := h4
    exact ⟨a, ws, rfl, .inl h2, k _ H G _ (Nx.refl hs) (by simp only [Rep]; rw [h3.length]) h⟩
  · rename_i xs
    obtain ⟨v, rr, rfl, ⟨a, ws, rfl, h2, h3⟩, h4⟩ := r
    obtain rfl : rr = [] := h4
    exact ⟨a, ws, rfl, .inr (SqT.of h2), k _ H G _ (Nx.refl hs) (by simp only [Rep]; rw [h3.length]) h⟩
  · exact h.elim
theorem e_len (hm : X.mg "len" = none) (ha : PAB2 X H0 (e :: es) tr) (hg : Gl X "len" := by rfl)
    (he : starEach (e :: es) X.env = (false, eval e X.env) :: starEach es X.env := by rfl) (hpl : (backTo pos (starEach es X.env)).any (·.1) = false := by rfl) : PE2 X H0 (.Call (.Name "len" p) (e :: es) [] pos) (rCB dLen tr) :=
  e_callB call_len_seq lf_len hm PySem.boot_len ha hg (by decide) (by decide) he hpl
def dListOf (ds : List D) (Q : D → Prop) : Prop := match ds with
  | [.lst xs] => Q (.lst xs)
  | [.tup xs] => Q (.lst xs)
  | _ => False
theorem lf_list {K : PySem.W.Frag} : LfN K (fun xs H Q => ∃ p ys, xs = [.ref p] ∧ (SqL K H p ys ∨ SqT K H p ys) ∧ ∀ l, H l = none → Q (.ref l) (upd H l (.lst ys))) dListOf := fun H0 σ δ G H vs ds Qd Q hs r h k => by
  unfold dListOf at h
  split at h
  · rename_i xs
    obtain ⟨v, rr, rfl, ⟨a, ws, rfl, h2, h3⟩, h4⟩ := r
    obtain rfl : rr = [] := h4
    exact ⟨a, ws, rfl, .inl h2, fun l hl => k _ _ G (.lst xs) (hs.fresh hl ⟨ws, upd_same, h3⟩) (Same.refl _) (upd_mono hl) h⟩
  · rename_i xs
    obtain ⟨v, rr, rfl, ⟨a, ws, rfl, h2, h3⟩, h4⟩ := r
    obtain rfl : rr = [] := h4
    exact ⟨a, ws, rfl, .inr (SqT.of h2), fun l hl => k _ _ G (.lst xs) (hs.fresh hl ⟨ws, upd_same, h3⟩) (Same.refl _) (upd_mono hl) h⟩
  · exact h.elim
theorem n_list (hm : X.mg "list" = none) (ha : PAB2 X H0 (e :: es) tr) (hg : Gl X "list" := by rfl)
    (he : starEach (e :: es) X.env = (false, eval e X.env) :: starEach es X.env := by rfl) (hpl : (backTo pos (starEach es X.env)).any (·.1) = false := by rfl) : PN2 X H0 (.Call (.Name "list" p) (e :: es) [] pos) (rCB dListOf tr) :=
  n_callTy call_list_of lf_list hm rfl ha hg (by decide) (by decide) he hpl
def two? (ds : List D) (f : Int → Int → Int) (Q : D → Prop) : Prop := match ds with
  | [.int i, .int j] => Q (.int (f i j))
  | _ => False
theorem lf_two {K : PySem.W.Frag} (f : Int → Int → Int) : LfC K (fun xs H Q => ∃ i j, xs = [.int i, .int j] ∧ Q (.int (f i j)) H) (fun ds Q => two? ds f Q) := fun H0 σ δ G H vs ds Qd Q hs r h k => by
  replace h : two? ds f Qd := h
  unfold two? at h
  split at h
  · rename_i i j
    obtain ⟨v, rr, rfl, h1, v2, r3, rfl, h2, h4⟩ := r
    obtain rfl : r3 = [] := h4
    obtain rfl : v = .int i := h1
    obtain rfl : v2 = .int j := h2
    exact ⟨i, j, rfl, k _ H G _ (Nx.refl hs) (by simp only [Rep]) h⟩
  · exact h.elim
theorem e_max2 (hc : X.calm = true) (hm : X.mg "max" = none) (ha : PAB2 X H0 (e :: es) tr) (hg : Gl X "max" := by rfl)
    (he : starEach (e :: es) X.env = (false, eval e X.env) :: starEach es X.env := by rfl) (hpl : (backTo pos (starEach es X.env)).any (·.1) = false := by rfl) : PE2 X H0 (.Call (.Name "max" p) (e :: es) [] pos) (rCB (fun ds Q => two? ds (fun i j => if j > i then j else i) Q) tr) :=
  e_callB (call_max2 hc) (lf_two fun i j => if j > i then j else i) hm rfl ha hg (by decide) (by decide) he hpl
theorem e_min2 (hc : X.calm = true) (hm : X.mg "min" = none) (ha : PAB2 X H0 (e :: es) tr) (hg : Gl X "min" := by rfl)
    (he : starEach (e :: es) X.env = (false, eval e X.env) :: starEach es X.env := by rfl) (hpl : (backTo pos (starEach es X.env)).any (·.1) = false := by rfl) : PE2 X H0 (.Call (.Name "min" p) (e :: es) [] pos) (rCB (fun ds Q => two? ds (fun i j => if j < i then j else i) Q) tr) :=
  e_callB (call_min2 hc) (lf_two fun i j => if j < i then j else i) hm rfl ha hg (by decide) (by decide) he hpl

/-! ### is True, is not False: two bools -/
def bl2 (neg : Bool) (x y : D) (Q : D → Prop) : Prop := match x, y with
  | .bl i, .bl j => Q (.bl (neg != (i == j)))
  | _, _ => False
def rIsB (neg : Bool) : R2 := fun x y H Q => ∃ i j, x = .bl i ∧ y = .bl j ∧ Q (.bl (neg != (i == j))) H
theorem op_isB : OpR X (compareOp .Is) (rIsB false) := by
  intro pins s σ H x y v u Q I rx ry h
  obtain ⟨i, j, rfl, rfl, q⟩ := h
  cases rx; cases ry
  refine wpAny_is_plain (by cases i <;> cases j <;> rfl) (fin_bl I q ?_)
  cases i <;> cases j <;> rfl
theorem op_isnotB : OpR X (compareOp .IsNot) (rIsB true) := by
  intro pins s σ H x y v u Q I rx ry h
  obtain ⟨i, j, rfl, rfl, q⟩ := h
  cases rx; cases ry
  refine wpAny_isNot_plain (by cases i <;> cases j <;> rfl) (fin_bl I q ?_)
  cases i <;> cases j <;> rfl
theorem lf_isB {K : PySem.W.Frag} {neg : Bool} : Lf2 K (rIsB neg) (bl2 neg) := fun H0 σ δ G H x y dx dy Qd Q hs rx ry h k => by
  cases dx <;> cases dy <;> first | exact h.elim | skip
  rename_i i j
  obtain rfl : x = .bl i := rx
  obtain rfl : y = .bl j := ry
  exact ⟨i, j, rfl, rfl, k _ H G _ (Nx.refl hs) (by simp only [Rep]) h⟩
/-! ### < of two tuples of ints -/
def intsOf : List D → Option (List Int)
  | [] => some []
  | .int i :: r => (intsOf r).map (i :: ·)
  | _ :: _ => none
theorem intsOf_eq : ∀ {ds : List D} {ns : List Int}, intsOf ds = some ns → ds = ns.map D.int
  | [], ns, h => by cases h; rfl
  | .int i :: r, ns, h => by
    simp only [intsOf, Option.map_eq_some_iff] at h
    obtain ⟨m, e, rfl⟩ := h
    rw [intsOf_eq e]; rfl
  | .non :: _, _, h => by cases h
  | .bl _ :: _, _, h => by cases h
  | .str _ :: _, _, h => by cases h
  | .tup _ :: _, _, h => by cases h
  | .lst _ :: _, _, h => by cases h
  | .dK _ :: _, _, h => by cases h
  | .dT _ :: _, _, h => by cases h
def dLtT (x y : D) (Q : D → Prop) : Prop := match x, y with
  | .tup ds, .tup es => ∃ ns ms, ds = ns.map D.int ∧ es = ms.map D.int ∧ Q (.bl (HT.lexLt ns ms))
  | _, _ => False
theorem lf_ltT {K : PySem.W.Frag} : Lf2 K (rLtT K) dLtT := fun H0 σ δ G H x y dx dy Qd Q hs rx ry h k => by
  cases dx <;> cases dy <;> first | exact h.elim | skip
  rename_i ds es
  obtain ⟨ns, ms, rfl, rfl, h'⟩ := h
  obtain ⟨a, vs, rfl, h2, h3⟩ := rx
  obtain ⟨b, ws, rfl, h4, h5⟩ := ry
  rw [Reps.ints_inv h3] at h2
  rw [Reps.ints_inv h5] at h4
  exact ⟨a, b, ns, ms, rfl, rfl, SqT.of h2, SqT.of h4, k _ H G _ (Nx.refl hs) (by simp only [Rep]) h'⟩
end
/-! ### append, reverse on what is one's own -/
section
variable {X : Cx} {H0 : Hp} {e : Expr} {t : RE} {pos cpos apos p : Pos} {x : Str}
def rApp (i : Nat) (te : RE) (E : Ends2) (δ : List Sl) : Prop := match δ[i]? with
  | some (.ow (.lst ds)) => te δ fun d => ds.length < sizeLine ∧ E.nx (δ.set i (.ow (.lst (ds ++ [d]))))
  | _ => False
theorem s_app (i : Nat) (he : PE2 X H0 e t) (hN : X.N[i]? = some x := by rfl) (hv : Vis X.env.scope x := by first | exact Or.inl rfl | exact Or.inr (Or.inl rfl) | exact Or.inr (Or.inr rfl)) (hd : (x == ("__debug__" : Str)) = false := by decide)
    (hcd : (x == ("__classdict__" : Str)) = false := by decide)
    (hbase : attributeBase (.Name x p) "append" X.env (eval (.Name x p) X.env) = eval (.Name x p) X.env := by rfl)
    (hfew : ((backTo cpos (starEach [e] X.env)).all (fun x => !x.1) && (backToKw cpos (keywordEach [] X.env)).all (fun x => x.1.isSome)
      && decide ([e].length + ([] : List Keyword).length + (if ([] : List Keyword).isEmpty then 0 else 1) < 30)) = true := by rfl)
    (hline : (apos.endLine == cpos.line) = true := by rfl) (hs : starEach [e] X.env = (false, eval e X.env) :: starEach [] X.env := by rfl) (hplain : (backTo cpos (starEach [] X.env)).any (·.1) = false := by rfl)
    (hsw : swapsWith (.Call (.Attribute (.Name x p) "append" apos) [e] [] cpos) none pos.line X.env = pure false := by rfl) :
    PS2 X H0 (.Expr (.Call (.Attribute (.Name x p) "append" apos) [e] [] cpos) pos) (rApp i t) :=
  PS.weak (ps_expr (pe_bm PySem.F.plainAttrs_list PySem.F.slot_list_append PySem.F.type_list_append mt_append (pe_var hN hv hd hcd) (pa_cons he pa_nil hs) hbase hfew hline hs hplain) hsw) fun D σ H ⟨δ, G, E, hs, ht, go⟩ => by
    unfold rApp at ht
    split at ht
    · rename_i ds e0
      obtain ⟨q, e1, vs, h1, h2⟩ := hs.ow i _ e0
      refine ⟨.ref q, e1, .inl ⟨rfl, vs, SqL.of h1⟩, δ, G, _, hs, ht, fun v H1 G1 d n1 r1 q1 => ?_⟩
      obtain ⟨q', e1', vs', h1', h2'⟩ := n1.hs.ow i _ e0
      rw [e1] at e1'; cases e1'
      refine ⟨q, vs', v, rfl, rfl, h1', by rw [← h2'.length]; exact q1.1, ?_⟩
      exact go.nx _ _ _ G1 (n1.hs.write (d' := .lst (ds ++ [d])) e0 e1 ⟨_, upd_same, Reps.append h2' (Reps.cons r1 Reps.nil)⟩) n1.g q1.2
    · exact ht.elim
end
end M

set_option Elab.async false
set_option linter.all false
set_option maxRecDepth 100000
set_option maxHeartbeats 4000000
namespace M
open PySem PySem.Spec PyProof.Rows L2
/-- a loop by what holds ahead of each turn -/
theorem loop_ind {g : RG} {tb : RS} {E : Ends2} (I : List D → List Sl → Prop) (fin : ∀ δ, I [] δ → E.nx δ)
    (step : ∀ d r δ (L : List Sl → Prop), (∀ δ2 δ3, I r δ3 → Fg δ2 δ3 → L δ2) → I (d :: r) δ → g d δ fun δ1 => tb { nx := L, rt := E.rt, bk := E.nx, ct := L } δ1) : ∀ ds δ, I ds δ → loop g tb E ds δ
  | [], δ, h => fin δ h
  | d :: r, δ, h => step d r δ (fun δ2 => ∃ δ3, Fg δ2 δ3 ∧ loop g tb E r δ3) (fun δ2 δ3 h' f => ⟨δ3, f, loop_ind I fin step r δ3 h'⟩) h
theorem gSet_ok {i : Nat} {d : D} {δ : List Sl} {Q : List Sl → Prop} {l : Sl} (e : δ[i]? = some l) (nl : l.locked = false) (q : Q (δ.set i (.fr d))) : gSet i d δ Q := by
  unfold gSet
  rw [e]
  cases l with
  | lk p d => cases nl
  | _ => exact q
theorem cmulR {i j : Int} (h1 : -(2 ^ 64) < j := by decide) (h2 : j < 2 ^ 64 := by decide) : CMul i j := .inr ⟨h1, h2⟩
theorem cmulL {i j : Int} (h1 : -(2 ^ 64) < i := by decide) (h2 : i < 2 ^ 64 := by decide) : CMul i j := .inl ⟨h1, h2⟩
theorem cpow {i j : Int} (h1 : 0 ≤ j := by decide) (h2 : j ≤ 1000000 := by decide) (h3 : i.natAbs < 2 ^ 64 := by decide) : CPow i j := ⟨h1, h2, h3⟩
theorem atI_map {ns : List Int} {n : Nat} (h : n < ns.length) : atI (ns.map D.int) (n : Int) = some (.int (ns.getD n 0)) := atI_nat (by simp [h])
theorem size1000 {n : Nat} (h : n ≤ 1000) : n ≤ sizeLine := Nat.le_of_lt (small1000 h)
end M
namespace M
theorem intsOf_map (ns : List Int) : intsOf (ns.map D.int) = some ns := by
  induction ns with
  | nil => rfl
  | cons n ns ih => simp only [List.map_cons, intsOf, ih, Option.map_some]
theorem intsOf_nil : intsOf [] = some [] := rfl
theorem intsOf_cons (i : Int) (r : List D) : intsOf (.int i :: r) = (intsOf r).map (i :: ·) := rfl
end M
namespace M
section
variable {c : RT} {t u : RS} {E : Ends2} {δ : List Sl}
theorem rif_true (h : ∀ Q : Bool → Prop, Q true → c δ Q) (k : t E δ) : rIf c t u E δ := ⟨h _ (Two.t k)⟩
theorem rif_false (h : ∀ Q : Bool → Prop, Q false → c δ Q) (k : u E δ) : rIf c t u E δ := ⟨h _ (Two.f k)⟩
theorem rif_by {b : Bool} (h : ∀ Q : Bool → Prop, Q b → c δ Q) (k1 : b = true → t E δ) (k2 : b = false → u E δ) : rIf c t u E δ := ⟨h _ ⟨k1, k2⟩⟩
end
end M

set_option Elab.async false
set_option linter.all false
set_option maxRecDepth 100000
set_option maxHeartbeats 4000000
namespace M
open PySem PySem.Spec PyProof.Rows L2
/-- a test comes to b -/
def RdT (t : RT) (δ : List Sl) (b : Bool) : Prop := ∀ Q : Bool → Prop, Q b → t δ Q
/-- an expression comes to d -/
def RdE (t : RE) (δ : List Sl) (d : D) : Prop := ∀ Q : D → Prop, Q d → t δ Q
section
variable {δ : List Sl} {u v : RT} {ta tb : RE} {b1 b2 : Bool}
theorem or_by (h1 : RdT u δ b1) (h2 : b1 = false → RdT v δ b2) : RdT (rOr u v) δ (b1 || b2) := fun Q q => h1 _ ⟨(fun e => by subst e; exact q), (fun e => by subst e; exact h2 rfl Q q)⟩
theorem and_by (h1 : RdT u δ b1) (h2 : b1 = true → RdT v δ b2) : RdT (rAnd u v) δ (b1 && b2) := fun Q q => h1 _ ⟨(fun e => by subst e; exact h2 rfl Q q), (fun e => by subst e; exact q)⟩
theorem not_by (h1 : RdT u δ b1) : RdT (rNot u) δ (!b1) := fun Q q => h1 _ q
theorem orV_by (h1 : RdE ta δ (.bl b1)) (h2 : b1 = false → RdE tb δ (.bl b2)) : RdE (rOrV ta tb) δ (.bl (b1 || b2)) := fun Q q => h1 _ ⟨(fun e => by subst e; exact q), (fun e => by subst e; exact h2 rfl Q q)⟩
theorem andV_by (h1 : RdE ta δ (.bl b1)) (h2 : b1 = true → RdE tb δ (.bl b2)) : RdE (rAndV ta tb) δ (.bl (b1 && b2)) := fun Q q => h1 _ ⟨(fun e => by subst e; exact h2 rfl Q q), (fun e => by subst e; exact q)⟩
theorem notV_by (h1 : RdE ta δ (.bl b1)) : RdE (rNotV ta) δ (.bl (!b1)) := fun Q q => h1 _ q
theorem test_by (h : RdE ta δ (.bl b1)) : RdT (rTest ta) δ b1 := fun Q q => h _ q
/-- shown false, or true -/
theorem RdT.eq (h : RdT u δ b1) (e : b1 = b2) : RdT u δ b2 := e ▸ h
theorem RdE.eq {d d' : D} (h : RdE ta δ d) (e : d = d') : RdE ta δ d' := e ▸ h
theorem or_ff (h1 : RdT u δ false) (h2 : RdT v δ false) : RdT (rOr u v) δ false := or_by h1 fun _ => h2
theorem and_tt (h1 : RdT u δ true) (h2 : RdT v δ true) : RdT (rAnd u v) δ true := and_by h1 fun _ => h2
theorem and_f (h1 : RdT u δ false) : RdT (rAnd u v) δ false := fun Q q => h1 _ (Two.f q)
theorem or_t (h1 : RdT u δ true) : RdT (rOr u v) δ true := fun Q q => h1 _ (Two.t q)
theorem andV_tt (h1 : RdE ta δ (.bl true)) (h2 : RdE tb δ (.bl true)) : RdE (rAndV ta tb) δ (.bl true) := andV_by h1 fun _ => h2
theorem andV_f (h1 : RdE ta δ (.bl false)) : RdE (rAndV ta tb) δ (.bl false) := fun Q q => h1 _ (Two.f q)
theorem orV_t (h1 : RdE ta δ (.bl true)) : RdE (rOrV ta tb) δ (.bl true) := fun Q q => h1 _ (Two.t q)
theorem orV_ff (h1 : RdE ta δ (.bl false)) (h2 : RdE tb δ (.bl false)) : RdE (rOrV ta tb) δ (.bl false) := orV_by h1 fun _ => h2
end
section
variable {c : RT} {t u : RS} {E : Ends2} {δ : List Sl} {te : RE}
theorem if_t (h : RdT c δ true) (k : t E δ) : rIf c t u E δ := ⟨h _ (Two.t k)⟩
theorem if_f (h : RdT c δ false) (k : u E δ) : rIf c t u E δ := ⟨h _ (Two.f k)⟩
theorem if_by {b : Bool} (h : RdT c δ b) (k1 : b = true → t E δ) (k2 : b = false → u E δ) : rIf c t u E δ := ⟨h _ ⟨k1, k2⟩⟩
theorem if_p {p : Prop} [Decidable p] (h : RdT c δ (decide p)) (k1 : p → t E δ) (k2 : ¬ p → u E δ) : rIf c t u E δ := ⟨h _ (Two.dec k1 k2)⟩
theorem if_eq {p : Prop} [Decidable p] (h : RdT c δ (false != decide p)) (k1 : p → t E δ) (k2 : ¬ p → u E δ) : rIf c t u E δ := if_p (h.eq (by cases decide p <;> rfl)) k1 k2
theorem if_ne {p : Prop} [Decidable p] (h : RdT c δ (true != decide p)) (k1 : ¬ p → t E δ) (k2 : p → u E δ) : rIf c t u E δ := if_p (h.eq (b2 := decide (¬ p)) (by by_cases hp : p <;> simp [hp])) k1 (fun z => k2 (Decidable.of_not_not z))
theorem ret_by {d : D} (h : RdE te δ d) (q : E.rt (.val d) δ) : rRet te E δ := h _ q
end
/-- drawn figures: each from 0 up to below its size -/
inductive Drawn : List Int → List Int → Prop where
  | nil : Drawn [] []
  | cons {d s : Int} {ds ss : List Int} (h0 : 0 ≤ d) (h1 : d < s) (h : Drawn ds ss) : Drawn (d :: ds) (s :: ss)
theorem Drawn.one {s1 : Int} {P : List Int → Prop} (h : ∀ a : Int, 0 ≤ a → a < s1 → P [a]) : ∀ out, Drawn out [s1] → P out := fun out w => by
  cases w with | cons a0 a1 w => cases w with | nil => exact h _ a0 a1
theorem Drawn.two {s1 s2 : Int} {P : List Int → Prop} (h : ∀ a b : Int, 0 ≤ a → a < s1 → 0 ≤ b → b < s2 → P [a, b]) : ∀ out, Drawn out [s1, s2] → P out := fun out w => by
  cases w with | cons a0 a1 w => cases w with | cons b0 b1 w => cases w with | nil => exact h _ _ a0 a1 b0 b1
theorem Drawn.three {s1 s2 s3 : Int} {P : List Int → Prop} (h : ∀ a b c : Int, 0 ≤ a → a < s1 → 0 ≤ b → b < s2 → 0 ≤ c → c < s3 → P [a, b, c]) : ∀ out, Drawn out [s1, s2, s3] → P out := fun out w => by
  cases w with | cons a0 a1 w => cases w with | cons b0 b1 w => cases w with | cons c0 c1 w => cases w with | nil => exact h _ _ _ a0 a1 b0 b1 c0 c1
theorem Drawn.four {s1 s2 s3 s4 : Int} {P : List Int → Prop} (h : ∀ a b c d : Int, 0 ≤ a → a < s1 → 0 ≤ b → b < s2 → 0 ≤ c → c < s3 → 0 ≤ d → d < s4 → P [a, b, c, d]) : ∀ out, Drawn out [s1, s2, s3, s4] → P out := fun out w => by
  cases w with | cons a0 a1 w => cases w with | cons b0 b1 w => cases w with | cons c0 c1 w => cases w with | cons d0 d1 w => cases w with | nil => exact h _ _ _ _ a0 a1 b0 b1 c0 c1 d0 d1
theorem Drawn.six {s1 s2 s3 s4 s5 s6 : Int} {P : List Int → Prop} (h : ∀ a b c d e f : Int, 0 ≤ a → a < s1 → 0 ≤ b → b < s2 → 0 ≤ c → c < s3 → 0 ≤ d → d < s4 → 0 ≤ e → e < s5 → 0 ≤ f → f < s6 → P [a, b, c, d, e, f]) : ∀ out, Drawn out [s1, s2, s3, s4, s5, s6] → P out := fun out w => by
  cases w with | cons a0 a1 w => cases w with | cons b0 b1 w => cases w with | cons c0 c1 w => cases w with | cons d0 d1 w => cases w with | cons e0 e1 w => cases w with | cons f0 f1 w => cases w with | nil => exact h _ _ _ _ _ _ a0 a1 b0 b1 c0 c1 d0 d1 e0 e1 f0 f1
theorem Drawn.snoc {out ss : List Int} {d s : Int} (h : Drawn out ss) (h0 : 0 ≤ d) (h1 : d < s) : Drawn (out ++ [d]) (ss ++ [s]) := by
  induction h with
  | nil => exact .cons h0 h1 .nil
  | cons a b _ ih => exact .cons a b ih
theorem cpos {n : Int} (h : 0 < n := by decide) : 0 < n := h
theorem sz1 : 1 ≤ sizeLine := by decide
theorem sz2 : 2 ≤ sizeLine := by decide
theorem sz3 : 3 ≤ sizeLine := by decide
theorem sz4 : 4 ≤ sizeLine := by decide
theorem sz5 : 5 ≤ sizeLine := by decide
theorem sz6 : 6 ≤ sizeLine := by decide
theorem sz7 : 7 ≤ sizeLine := by decide
theorem sz8 : 8 ≤ sizeLine := by decide
theorem sz9 : 9 ≤ sizeLine := by decide
theorem sz10 : 10 ≤ sizeLine := by decide
theorem sz11 : 11 ≤ sizeLine := by decide
theorem sz12 : 12 ≤ sizeLine := by decide
theorem size_of {n : Nat} (h : n ≤ 1000) : n ≤ sizeLine := Nat.le_of_lt (small1000 h)
end M

set_option Elab.async false
set_option linter.all false
set_option maxRecDepth 100000
set_option maxHeartbeats 4000000
namespace M
open PySem PySem.Spec PyProof.Rows L2
/-! ### == of data without dicts -/
mutual
def eqD : D → D → Bool
  | .non, y => match y with
    | .non => true
    | _ => false
  | .bl a, y => match y with
    | .bl b => a == b
    | .int b => (if a then 1 else 0) == b
    | _ => false
  | .int a, y => match y with
    | .bl b => a == (if b then 1 else 0)
    | .int b => a == b
    | _ => false
  | .str a, y => match y with
    | .str b => a == b
    | _ => false
  | .tup xs, y => match y with
    | .tup ys => eqDs xs ys
    | _ => false
  | .lst xs, y => match y with
    | .lst ys => eqDs xs ys
    | _ => false
  | .dK _, _ => false
  | .dT _, _ => false
def eqDs : List D → List D → Bool
  | [], ys => match ys with
    | [] => true
    | _ => false
  | x :: xs, ys => match ys with
    | y :: ys => eqD x y && eqDs xs ys
    | _ => false
end
/-- no dict in it, and so deep at most -/
def plainD : Nat → D → Bool
  | _, .non => true
  | _, .bl _ => true
  | _, .int _ => true
  | _, .str _ => true
  | n + 1, .tup xs => xs.all (plainD n)
  | n + 1, .lst xs => xs.all (plainD n)
  | _, _ => false
theorem eqDs_len : ∀ {xs ys : List D}, eqDs xs ys = true → xs.length = ys.length
  | [], [], _ => rfl
  | [], _ :: _, h => by simp [eqDs] at h
  | _ :: _, [], h => by simp [eqDs] at h
  | x :: xs, y :: ys, h => by
    simp only [eqDs, Bool.and_eq_true] at h
    simp [eqDs_len h.2]
theorem eqDs_range : ∀ (xs ys : List D), xs.length = ys.length → (List.range xs.length).all (fun j => eqD (xs.getD j .non) (ys.getD j .non)) = eqDs xs ys
  | [], [], _ => rfl
  | [], _ :: _, h => by simp at h
  | _ :: _, [], h => by simp at h
  | x :: xs, y :: ys, h => by
    have ih := eqDs_range xs ys (by simpa using h)
    rw [List.length_cons, List.range_succ_eq_map, List.all_cons, List.all_map, eqDs]
    rw [← ih]
    rfl
mutual
theorem eqD_self : ∀ (n : Nat) (d : D), plainD n d = true → eqD d d = true
  | _, .non, _ => by simp [eqD]
  | _, .bl _, _ => by simp [eqD]
  | _, .int _, _ => by simp [eqD]
  | _, .str _, _ => by simp [eqD]
  | 0, .tup _, h => by simp [plainD] at h
  | 0, .lst _, h => by simp [plainD] at h
  | n + 1, .tup xs, h => by simp only [plainD] at h; simp only [eqD]; exact eqDs_self n xs h
  | n + 1, .lst xs, h => by simp only [plainD] at h; simp only [eqD]; exact eqDs_self n xs h
  | n, .dK _, h => by cases n <;> simp [plainD] at h
  | n, .dT _, h => by cases n <;> simp [plainD] at h
theorem eqDs_self : ∀ (n : Nat) (xs : List D), xs.all (plainD n) = true → eqDs xs xs = true
  | _, [], _ => by simp [eqDs]
  | n, x :: xs, h => by
    rw [List.all_cons, Bool.and_eq_true] at h
    simp only [eqDs, Bool.and_eq_true]
    exact ⟨eqD_self n x h.1, eqDs_self n xs h.2⟩
end
section
variable {X : Cx} {pins : List (Addr × Obj)} {σ : L2.St} {H G : Hp} {s : Shared}
open SeqAt
theorem lst_tup_apart {K : PySem.W.Frag} {a : Addr} {xs ys : List V} (I : L2.Inv X pins σ H s) (h1 : SqL X.K H a xs) (h2 : SqT X.K H a ys) : False := by
  obtain ⟨its, r, pl, _⟩ := I.list h1
  obtain ⟨its', r', pt, _⟩ := I.tuple h2
  exact ne_of_list_tuple pl.isList pt rfl
mutual
/-- one value of the heap stands for equal data alone -/
theorem rep_eq (I : L2.Inv X pins σ H s) : ∀ (n : Nat) (d d' : D) (v : V), plainD n d = true → plainD n d' = true → Rep X.K H d v → Rep X.K H d' v → eqD d d' = true := fun n d d' v p p' r r' => by
  cases d with
  | dK _ => cases n <;> simp [plainD] at p
  | dT _ => cases n <;> simp [plainD] at p
  | non => cases d' <;> simp_all [Rep, eqD]
  | bl b => cases d' <;> simp_all [Rep, eqD]
  | int b => cases d' <;> simp_all [Rep, eqD]
  | str b => cases d' <;> simp_all [Rep, eqD]
  | tup xs =>
    simp only [Rep] at r
    obtain ⟨a, vs, rfl, h1, h2⟩ := r
    cases d' with
    | tup ys =>
      simp only [Rep] at r'
      obtain ⟨a', ws, e, h3, h4⟩ := r'
      cases e
      obtain rfl := I.tuple_inj (SqT.of h1) (SqT.of h3)
      cases n with
      | zero => simp [plainD] at p
      | succ n =>
        simp only [plainD] at p p'
        simp only [eqD]
        exact reps_eq I n xs ys _ p p' h2 h4
    | lst ys =>
      simp only [Rep] at r'
      obtain ⟨a', ws, e, h3, h4⟩ := r'
      cases e
      exact (lst_tup_apart (K := X.K) I h3 (SqT.of h1)).elim
    | dK _ => cases n <;> simp [plainD] at p'
    | dT _ => cases n <;> simp [plainD] at p'
    | _ => simp [Rep] at r'
  | lst xs =>
    simp only [Rep] at r
    obtain ⟨a, vs, rfl, h1, h2⟩ := r
    cases d' with
    | lst ys =>
      simp only [Rep] at r'
      obtain ⟨a', ws, e, h3, h4⟩ := r'
      cases e
      obtain rfl := I.list_inj h1 h3
      cases n with
      | zero => simp [plainD] at p
      | succ n =>
        simp only [plainD] at p p'
        simp only [eqD]
        exact reps_eq I n xs ys _ p p' h2 h4
    | tup ys =>
      simp only [Rep] at r'
      obtain ⟨a', ws, e, h3, h4⟩ := r'
      cases e
      exact (lst_tup_apart (K := X.K) I h1 (SqT.of h3)).elim
    | dK _ => cases n <;> simp [plainD] at p'
    | dT _ => cases n <;> simp [plainD] at p'
    | _ => simp [Rep] at r'
termination_by n => (n, 0)
theorem reps_eq (I : L2.Inv X pins σ H s) : ∀ (n : Nat) (xs ys : List D) (vs : List V), xs.all (plainD n) = true → ys.all (plainD n) = true → Reps X.K H xs vs → Reps X.K H ys vs → eqDs xs ys = true
  | n, [], ys, vs, _, _, h1, h2 => by
    simp only [Reps] at h1; subst h1
    cases ys with
    | nil => simp [eqDs]
    | cons y ys => simp [Reps] at h2
  | n, x :: xs, ys, vs, p, p', h1, h2 => by
    simp only [Reps] at h1
    obtain ⟨v, r, rfl, h3, h4⟩ := h1
    cases ys with
    | nil => simp [Reps] at h2
    | cons y ys =>
      simp only [Reps] at h2
      obtain ⟨v', r', e, h5, h6⟩ := h2
      cases e
      rw [List.all_cons, Bool.and_eq_true] at p p'
      simp only [eqDs, Bool.and_eq_true]
      exact ⟨rep_eq I n x y v p.1 p'.1 h3 h5, reps_eq I n xs ys r p.2 p'.2 h4 h6⟩
termination_by n xs => (n, xs.length + 1)
end
end
end M

set_option Elab.async false
set_option linter.all false
set_option maxRecDepth 100000
set_option maxHeartbeats 4000000
namespace M
open PySem PySem.Spec PyProof.Rows L2
section
variable {X : Cx} {pins : List (Addr × Obj)} {σ : L2.St} {H G : Hp} {s : Shared}
open SeqAt
/-- items of two rows of data, side by side -/
theorem items_eq {A : Around} {n : Nat} {xs ys : List D} {vs ws : List V} {its its2 : List Value} (hx : Reps X.K H xs vs) (hy : Reps X.K H ys ws) (rx : Vals vs its) (ry : Vals ws its2) (px : xs.all (plainD n) = true) (py : ys.all (plainD n) = true)
    (ih : ∀ d d' v v' u u', plainD n d = true → plainD n d' = true → Rep X.K H d v → Rep X.K H d' v' → L2.RelV v u → L2.RelV v' u' → EqAt A s u u' (eqD d d')) :
    ∀ j (h1 : j < its.toArray.size) (h2 : j < its2.toArray.size), EqAt A s its.toArray[j] its2.toArray[j] (eqD (xs.getD j .non) (ys.getD j .non)) := by
  intro j h1 h2
  have l1 : its.length = xs.length := by rw [← rx.length, hx.length]
  have l2 : its2.length = ys.length := by rw [← ry.length, hy.length]
  have h1' : j < xs.length := by simpa [l1] using h1
  have h2' : j < ys.length := by simpa [l2] using h2
  obtain ⟨v, ev, rv⟩ := hx.get (i := j) (d := xs[j]) (by simp [h1'])
  obtain ⟨v', ev', rv'⟩ := hy.get (i := j) (d := ys[j]) (by simp [h2'])
  obtain ⟨u, eu, ru⟩ := rx.get ev
  obtain ⟨u', eu', ru'⟩ := ry.get ev'
  have e1 : its.toArray[j] = u := by
    have : its[j]? = some its[j] := by simp [l1, h1']
    rw [this] at eu; simpa using eu
  have e2 : its2.toArray[j] = u' := by
    have : its2[j]? = some its2[j] := by simp [l2, h2']
    rw [this] at eu'; simpa using eu'
  have g1 : xs.getD j .non = xs[j] := by simp [List.getD, h1']
  have g2 : ys.getD j .non = ys[j] := by simp [List.getD, h2']
  rw [e1, e2, g1, g2]
  exact ih _ _ v v' u u' (List.all_eq_true.mp px _ (List.getElem_mem h1')) (List.all_eq_true.mp py _ (List.getElem_mem h2')) rv rv' ru ru'
theorem lists_at {A : Around} {n : Nat} {xs ys : List D} {vs ws : List V} {a b : Addr} (I : L2.Inv X pins σ H s) (ha : SqL X.K H a vs) (hb : SqL X.K H b ws) (hx : Reps X.K H xs vs) (hy : Reps X.K H ys ws) (px : xs.all (plainD n) = true) (py : ys.all (plainD n) = true) (hu : A.units < cLine)
    (ih : ∀ d d' v v' u u', plainD n d = true → plainD n d' = true → Rep X.K H d v → Rep X.K H d' v' → L2.RelV v u → L2.RelV v' u' → EqAt A.in1 s u u' (eqD d d')) : RcAt A s (.ref a) (.ref b) (eqDs xs ys) ∧ RcNeAt A s (.ref a) (.ref b) (!eqDs xs ys) := by
  obtain ⟨its, rx, pl, _⟩ := I.list ha
  obtain ⟨its2, ry, pl2, _⟩ := I.list hb
  have l1 : its.length = xs.length := by rw [← rx.length, hx.length]
  have l2 : its2.length = ys.length := by rw [← ry.length, hy.length]
  by_cases hl : xs.length = ys.length
  · have e := eqDs_range xs ys hl
    have it := items_eq hx hy rx ry px py ih
    rw [← e, ← l1]
    exact ⟨RcAt.lists pl.isList pl2.isList (by simp [l1, l2, hl]) hu it, RcNeAt.lists pl.isList pl2.isList (by simp [l1, l2, hl]) hu it⟩
  · have e : eqDs xs ys = false := by
      cases q : eqDs xs ys with
      | false => rfl
      | true => exact absurd (eqDs_len q) hl
    rw [e]
    exact ⟨RcAt.lists_lengths pl.isList pl2.isList (by simp [l1, l2, hl]) hu, RcNeAt.lists_lengths pl.isList pl2.isList (by simp [l1, l2, hl]) hu⟩
theorem tuples_at {A : Around} {n : Nat} {xs ys : List D} {vs ws : List V} {a b : Addr} (I : L2.Inv X pins σ H s) (ha : SqT X.K H a vs) (hb : SqT X.K H b ws) (hx : Reps X.K H xs vs) (hy : Reps X.K H ys ws) (px : xs.all (plainD n) = true) (py : ys.all (plainD n) = true) (hu : A.units < cLine)
    (ih : ∀ d d' v v' u u', plainD n d = true → plainD n d' = true → Rep X.K H d v → Rep X.K H d' v' → L2.RelV v u → L2.RelV v' u' → EqAt A.in1 s u u' (eqD d d')) : RcAt A s (.ref a) (.ref b) (eqDs xs ys) ∧ RcNeAt A s (.ref a) (.ref b) (!eqDs xs ys) := by
  obtain ⟨its, rx, pl, _⟩ := I.tuple ha
  obtain ⟨its2, ry, pl2, _⟩ := I.tuple hb
  have l1 : its.length = xs.length := by rw [← rx.length, hx.length]
  have l2 : its2.length = ys.length := by rw [← ry.length, hy.length]
  have it := items_eq hx hy rx ry px py ih
  have e : ((List.range (min its.toArray.size its2.toArray.size)).all (fun j => eqD (xs.getD j .non) (ys.getD j .non)) && its.toArray.size == its2.toArray.size) = eqDs xs ys := by
    simp only [List.size_toArray, l1, l2]
    by_cases hl : xs.length = ys.length
    · rw [← eqDs_range xs ys hl, ← hl, Nat.min_self]; simp
    · have e : eqDs xs ys = false := by
        cases q : eqDs xs ys with
        | false => rfl
        | true => exact absurd (eqDs_len q) hl
      rw [e, beq_false_of_ne hl, Bool.and_false]
  have r1 := RcAt.tuples pl pl2 hu it
  have r2 := RcNeAt.tuples pl pl2 hu it
  rw [e] at r1
  refine ⟨r1, ?_⟩
  first | (rw [e] at r2; exact r2) | (rw [← e]; exact r2)
/-- == and != of data -/
theorem both_at (I : L2.Inv X pins σ H s) : ∀ (n : Nat) (A : Around) (d d' : D) (v v' : V) (u u' : Value), A.units + n < cLine → plainD n d = true → plainD n d' = true → Rep X.K H d v → Rep X.K H d' v' → L2.RelV v u → L2.RelV v' u' →
    (RcAt A s u u' (eqD d d') ∧ RcNeAt A s u u' (!eqD d d')) ∧ EqAt A s u u' (eqD d d') := by
  intro n
  induction n with
  | zero =>
    intro A d d' v v' u u' hu p p' r r' ru ru'
    cases d <;> (try simp [plainD] at p) <;> cases d' <;> (try simp [plainD] at p')
    all_goals
      simp only [Rep] at r r'
      subst r r'
      simp only [L2.RelV] at ru ru'
      first | (subst ru) | (obtain ⟨t, rfl⟩ := ru)
      first | (subst ru') | (obtain ⟨t', rfl⟩ := ru')
      simp only [eqD]
    · exact ⟨⟨.none_none, .none_none⟩, .same _⟩
    · exact ⟨⟨.none_bool _, .none_bool _⟩, .none_bool _⟩
    · exact ⟨⟨.none_int _ _, .none_int _ _⟩, .none_int _ _⟩
    · exact ⟨⟨.none_str _ _, .none_str _ _⟩, .none_str _ _⟩
    · exact ⟨⟨.bool_none _, .bool_none _⟩, .bool_none _⟩
    · exact ⟨⟨.bool_bool _ _, .bool_bool _ _⟩, .bool_bool _ _⟩
    · exact ⟨⟨.bool_int _ _ _, .bool_int _ _ _⟩, .bool_int _ _ _⟩
    · exact ⟨⟨.bool_str _ _ _, .bool_str _ _ _⟩, .bool_str _ _ _⟩
    · exact ⟨⟨.int_none _ _, .int_none _ _⟩, .int_none _ _⟩
    · exact ⟨⟨.int_bool _ _ _, .int_bool _ _ _⟩, .int_bool _ _ _⟩
    · exact ⟨⟨.int_int _ _ _ _, .int_int _ _ _ _⟩, .int_int _ _ _ _⟩
    · exact ⟨⟨.int_str _ _ _ _, .int_str _ _ _ _⟩, .int_str _ _ _ _⟩
    · exact ⟨⟨.str_none _ _, .str_none _ _⟩, .str_none _ _⟩
    · exact ⟨⟨.str_bool _ _ _, .str_bool _ _ _⟩, .str_bool _ _ _⟩
    · exact ⟨⟨.str_int _ _ _ _, .str_int _ _ _ _⟩, .str_int _ _ _ _⟩
    · exact ⟨⟨.str_str _ _ _ _, .str_str _ _ _ _⟩, .str_str _ _ _ _⟩
  | succ n ih =>
    intro A d d' v v' u u' hu p p' r r' ru ru'
    have hu0 : A.units < cLine := by omega
    have ihe : ∀ d d' v v' u u', plainD n d = true → plainD n d' = true → Rep X.K H d v → Rep X.K H d' v' → L2.RelV v u → L2.RelV v' u' → EqAt A.in1 s u u' (eqD d d') := fun d d' v v' u u' a b c e f g => (ih A.in1 d d' v v' u u' (by show A.units + 1 + n < cLine; omega) a b c e f g).2
    have refs : ∀ {a b : Addr} {k : Bool}, RcAt A s (.ref a) (.ref b) k → (a = b → k = true) → EqAt A s (.ref a) (.ref b) k := fun {a b k} h e => by
      by_cases hab : a = b
      · subst hab; rw [e rfl]; exact .same _
      · exact .of_refs hab h
    cases d with
    | dK _ => simp [plainD] at p
    | dT _ => simp [plainD] at p
    | tup xs =>
      have r0 := r
      simp only [Rep] at r
      obtain ⟨a, vs, rfl, h1, h2⟩ := r
      simp only [L2.RelV] at ru; subst ru
      obtain ⟨its, rx, pt, _⟩ := I.tuple (SqT.of h1)
      simp only [plainD] at p
      cases d' with
      | dK _ => simp [plainD] at p'
      | dT _ => simp [plainD] at p'
      | tup ys =>
        have r0' := r'
        have p0' := p'
        simp only [Rep] at r'
        obtain ⟨b, ws, rfl, h3, h4⟩ := r'
        simp only [L2.RelV] at ru'; subst ru'
        simp only [plainD] at p'
        have t := tuples_at I (SqT.of h1) (SqT.of h3) h2 h4 p p' hu0 ihe
        simp only [eqD]
        refine ⟨t, refs t.1 fun e => ?_⟩
        subst e
        have := rep_eq I (n + 1) (.tup xs) (.tup ys) _ (by simpa only [plainD] using p) p0' r0 r0'
        simpa only [eqD] using this
      | lst ys =>
        simp only [Rep] at r'
        obtain ⟨b, ws, rfl, h3, h4⟩ := r'
        simp only [L2.RelV] at ru'; subst ru'
        obtain ⟨its2, ry, pl, _⟩ := I.list h3
        simp only [eqD]
        exact ⟨⟨.tuple_list pt pl.isList hu0, .tuple_list pt pl.isList hu0⟩, .tuple_list pt pl.isList hu0⟩
      | non => simp only [Rep] at r'; subst r'; simp only [L2.RelV] at ru'; subst ru'; simp only [eqD]; exact ⟨⟨.tuple_none pt hu0, .tuple_none pt hu0⟩, .tuple_none pt hu0⟩
      | bl b => simp only [Rep] at r'; subst r'; simp only [L2.RelV] at ru'; subst ru'; simp only [eqD]; exact ⟨⟨.tuple_bool _ pt hu0, .tuple_bool _ pt hu0⟩, .tuple_bool _ pt hu0⟩
      | int b => simp only [Rep] at r'; subst r'; simp only [L2.RelV] at ru'; obtain ⟨t', rfl⟩ := ru'; simp only [eqD]; exact ⟨⟨.tuple_int _ _ pt hu0, .tuple_int _ _ pt hu0⟩, .tuple_int _ _ pt hu0⟩
      | str b => simp only [Rep] at r'; subst r'; simp only [L2.RelV] at ru'; obtain ⟨t', rfl⟩ := ru'; simp only [eqD]; exact ⟨⟨.tuple_str _ _ pt hu0, .tuple_str _ _ pt hu0⟩, .tuple_str _ _ pt hu0⟩
    | lst xs =>
      have r0 := r
      simp only [Rep] at r
      obtain ⟨a, vs, rfl, h1, h2⟩ := r
      simp only [L2.RelV] at ru; subst ru
      obtain ⟨its, rx, pl, _⟩ := I.list h1
      have pt := pl.isList
      simp only [plainD] at p
      cases d' with
      | dK _ => simp [plainD] at p'
      | dT _ => simp [plainD] at p'
      | lst ys =>
        have r0' := r'
        have p0' := p'
        simp only [Rep] at r'
        obtain ⟨b, ws, rfl, h3, h4⟩ := r'
        simp only [L2.RelV] at ru'; subst ru'
        simp only [plainD] at p'
        have t := lists_at I h1 h3 h2 h4 p p' hu0 ihe
        simp only [eqD]
        refine ⟨t, refs t.1 fun e => ?_⟩
        subst e
        have := rep_eq I (n + 1) (.lst xs) (.lst ys) _ (by simpa only [plainD] using p) p0' r0 r0'
        simpa only [eqD] using this
      | tup ys =>
        simp only [Rep] at r'
        obtain ⟨b, ws, rfl, h3, h4⟩ := r'
        simp only [L2.RelV] at ru'; subst ru'
        obtain ⟨its2, ry, pt2, _⟩ := I.tuple (SqT.of h3)
        simp only [eqD]
        exact ⟨⟨.list_tuple pt pt2 hu0, .list_tuple pt pt2 hu0⟩, .list_tuple pt pt2 hu0⟩
      | non => simp only [Rep] at r'; subst r'; simp only [L2.RelV] at ru'; subst ru'; simp only [eqD]; exact ⟨⟨.list_none pt hu0, .list_none pt hu0⟩, .list_none pt hu0⟩
      | bl b => simp only [Rep] at r'; subst r'; simp only [L2.RelV] at ru'; subst ru'; simp only [eqD]; exact ⟨⟨.list_bool _ pt hu0, .list_bool _ pt hu0⟩, .list_bool _ pt hu0⟩
      | int b => simp only [Rep] at r'; subst r'; simp only [L2.RelV] at ru'; obtain ⟨t', rfl⟩ := ru'; simp only [eqD]; exact ⟨⟨.list_int _ _ pt hu0, .list_int _ _ pt hu0⟩, .list_int _ _ pt hu0⟩
      | str b => simp only [Rep] at r'; subst r'; simp only [L2.RelV] at ru'; obtain ⟨t', rfl⟩ := ru'; simp only [eqD]; exact ⟨⟨.list_str _ _ pt hu0, .list_str _ _ pt hu0⟩, .list_str _ _ pt hu0⟩
    | non =>
      cases d' with
      | tup ys =>
        simp only [Rep] at r r'; subst r
        obtain ⟨b, ws, rfl, h3, h4⟩ := r'
        simp only [L2.RelV] at ru ru'; subst ru ru'
        obtain ⟨_, _, pt, _⟩ := I.tuple (SqT.of h3)
        simp only [eqD]; exact ⟨⟨.none_tuple pt hu0, .none_tuple pt hu0⟩, .none_tuple pt hu0⟩
      | lst ys =>
        simp only [Rep] at r r'; subst r
        obtain ⟨b, ws, rfl, h3, h4⟩ := r'
        simp only [L2.RelV] at ru ru'; subst ru ru'
        obtain ⟨_, _, pl, _⟩ := I.list h3
        simp only [eqD]; exact ⟨⟨.none_list pl.isList hu0, .none_list pl.isList hu0⟩, .none_list pl.isList hu0⟩
      | dK _ => simp [plainD] at p'
      | dT _ => simp [plainD] at p'
      | _ => exact ih A _ _ v v' u u' (by omega) (by cases n <;> rfl) (by cases n <;> rfl) r r' ru ru'
    | bl x =>
      cases d' with
      | tup ys =>
        simp only [Rep] at r r'; subst r
        obtain ⟨b, ws, rfl, h3, h4⟩ := r'
        simp only [L2.RelV] at ru ru'; subst ru ru'
        obtain ⟨_, _, pt, _⟩ := I.tuple (SqT.of h3)
        simp only [eqD]; exact ⟨⟨.bool_tuple _ pt hu0, .bool_tuple _ pt hu0⟩, .bool_tuple _ pt hu0⟩
      | lst ys =>
        simp only [Rep] at r r'; subst r
        obtain ⟨b, ws, rfl, h3, h4⟩ := r'
        simp only [L2.RelV] at ru ru'; subst ru ru'
        obtain ⟨_, _, pl, _⟩ := I.list h3
        simp only [eqD]; exact ⟨⟨.bool_list _ pl.isList hu0, .bool_list _ pl.isList hu0⟩, .bool_list _ pl.isList hu0⟩
      | dK _ => simp [plainD] at p'
      | dT _ => simp [plainD] at p'
      | _ => exact ih A _ _ v v' u u' (by omega) (by cases n <;> rfl) (by cases n <;> rfl) r r' ru ru'
    | int x =>
      cases d' with
      | tup ys =>
        simp only [Rep] at r r'; subst r
        obtain ⟨b, ws, rfl, h3, h4⟩ := r'
        simp only [L2.RelV] at ru ru'; obtain ⟨t, rfl⟩ := ru; subst ru'
        obtain ⟨_, _, pt, _⟩ := I.tuple (SqT.of h3)
        simp only [eqD]; exact ⟨⟨.int_tuple _ _ pt hu0, .int_tuple _ _ pt hu0⟩, .int_tuple _ _ pt hu0⟩
      | lst ys =>
        simp only [Rep] at r r'; subst r
        obtain ⟨b, ws, rfl, h3, h4⟩ := r'
        simp only [L2.RelV] at ru ru'; obtain ⟨t, rfl⟩ := ru; subst ru'
        obtain ⟨_, _, pl, _⟩ := I.list h3
        simp only [eqD]; exact ⟨⟨.int_list _ _ pl.isList hu0, .int_list _ _ pl.isList hu0⟩, .int_list _ _ pl.isList hu0⟩
      | dK _ => simp [plainD] at p'
      | dT _ => simp [plainD] at p'
      | _ => exact ih A _ _ v v' u u' (by omega) (by cases n <;> rfl) (by cases n <;> rfl) r r' ru ru'
    | str x =>
      cases d' with
      | tup ys =>
        simp only [Rep] at r r'; subst r
        obtain ⟨b, ws, rfl, h3, h4⟩ := r'
        simp only [L2.RelV] at ru ru'; obtain ⟨t, rfl⟩ := ru; subst ru'
        obtain ⟨_, _, pt, _⟩ := I.tuple (SqT.of h3)
        simp only [eqD]; exact ⟨⟨.str_tuple _ _ pt hu0, .str_tuple _ _ pt hu0⟩, .str_tuple _ _ pt hu0⟩
      | lst ys =>
        simp only [Rep] at r r'; subst r
        obtain ⟨b, ws, rfl, h3, h4⟩ := r'
        simp only [L2.RelV] at ru ru'; obtain ⟨t, rfl⟩ := ru; subst ru'
        obtain ⟨_, _, pl, _⟩ := I.list h3
        simp only [eqD]; exact ⟨⟨.str_list _ _ pl.isList hu0, .str_list _ _ pl.isList hu0⟩, .str_list _ _ pl.isList hu0⟩
      | dK _ => simp [plainD] at p'
      | dT _ => simp [plainD] at p'
      | _ => exact ih A _ _ v v' u u' (by omega) (by cases n <;> rfl) (by cases n <;> rfl) r r' ru ru'
end
/-! ### the rules -/
section
variable {X : Cx}
def rEqU (K : PySem.W.Frag) (neg : Bool) : R2 := fun x y H Q => ∃ d d', plainD 60 d = true ∧ plainD 60 d' = true ∧ Rep K H d x ∧ Rep K H d' y ∧ Q (.bl (neg != eqD d d')) H
theorem op_eqD (hu : X.A.units + 64 < cLine) : OpR X (compareOp .Eq) (rEqU X.K false) := by
  intro pins s σ H x y v u Q I rx ry h
  obtain ⟨d, d', p, p', r, r', q⟩ := h
  exact (both_at I 60 X.A d d' x y v u (by omega) p p' r r' rx ry).1.1 X.prog X.w X.xe _ ⟨.bl _, H, I, rfl, by simpa using q⟩
theorem op_neD (hu : X.A.units + 64 < cLine) : OpR X (compareOp .NotEq) (rEqU X.K true) := by
  intro pins s σ H x y v u Q I rx ry h
  obtain ⟨d, d', p, p', r, r', q⟩ := h
  exact (both_at I 60 X.A d d' x y v u (by omega) p p' r r' rx ry).1.2 X.prog X.w X.xe _ ⟨.bl _, H, I, rfl, by simpa using q⟩
def dEqU (neg : Bool) (x y : D) (Q : D → Prop) : Prop := plainD 60 x = true ∧ plainD 60 y = true ∧ Q (.bl (neg != eqD x y))
theorem lf_eqU {K : PySem.W.Frag} {neg : Bool} : Lf2 K (rEqU K neg) (dEqU neg) := fun H0 σ δ G H x y dx dy Qd Q hs rx ry h k =>
  ⟨dx, dy, h.1, h.2.1, rx.all hs.sub, ry.all hs.sub, k _ H G _ (Nx.refl hs) (by simp only [Rep]) h.2.2⟩
end
end M

set_option Elab.async false
set_option linter.all false
set_option maxRecDepth 100000
set_option maxHeartbeats 4000000
namespace M
open PySem PySem.Spec PyProof.Rows L2
/-! ### isinstance(x, T), T a built-in type -/
def kindD : D → String
  | .non => "NoneType"
  | .bl _ => "bool"
  | .int _ => "int"
  | .str _ => "str"
  | .tup _ => "tuple"
  | .lst _ => "list"
  | .dK _ => "dict"
  | .dT _ => "dict"
def isKind (k T : String) : Bool := k == T || (k == "bool" && T == "int")
structure KindOk (K : PySem.W.Frag) (T : String) : Prop where
  h : ∀ k ∈ ["NoneType", "bool", "int", "str", "tuple", "list", "dict"], PySem.W.kitOne K (.type k) (.type T) = some (isKind k T)
section
variable {X : Cx} {H0 : Hp} {e : Expr} {t : RE} {pos p p2 : Pos} {T : String} {x : Str}
theorem isi_ok {pins : List (Addr × Obj)} {σ : L2.St} {H : Hp} {s : Shared} {d : D} {v : V} {u : Value} {Q : Value → Shared → Prop} {E : Value → Shared → Prop} {A : Around} (k : KindOk X.K T) (I : L2.Inv X pins σ H s) (r : Rep X.K H d v) (ru : L2.RelV v u) (h : ∀ tk, Q (.bool (isKind (kindD d) T)) { s with toks := tk }) :
    wpAny (model X.prog X.w) A (call (.builtin "isinstance") [u, .type T]) Q E s := by
  cases d with
  | non => simp only [Rep] at r; subst r; cases (show u = Value.none from ru); exact PySem.W.kia_one PySem.W.kitx_none I.kIn True.intro (k.h _ (by simp)) (fun z => nomatch z) h
  | bl b => simp only [Rep] at r; subst r; cases (show u = Value.bool b from ru); exact PySem.W.kia_one PySem.W.kitx_bool I.kIn True.intro (k.h _ (by simp)) (fun z => nomatch z) h
  | int b => simp only [Rep] at r; subst r; obtain ⟨t, q⟩ := (show ∃ t, u = Value.int b t from ru); cases q; exact PySem.W.kia_one PySem.W.kitx_int I.kIn True.intro (k.h _ (by simp)) (fun z => nomatch z) h
  | str b => simp only [Rep] at r; subst r; obtain ⟨t, q⟩ := (show ∃ t, u = Value.str b t from ru); cases q; exact PySem.W.kia_one PySem.W.kitx_str I.kIn True.intro (k.h _ (by simp)) (fun z => nomatch z) h
  | tup xs =>
    simp only [Rep] at r
    obtain ⟨a, vs, rfl, h1, _⟩ := r
    cases (show u = Value.ref a from ru)
    obtain ⟨_, _, ⟨o, h2, h3, _⟩, _⟩ := I.tuple (SqT.of h1)
    exact PySem.W.kia_one PySem.W.kitx_tuple I.kIn ⟨o, h2, h3⟩ (k.h _ (by simp)) (fun z => nomatch z) h
  | lst xs =>
    simp only [Rep] at r
    obtain ⟨a, vs, rfl, h1, _⟩ := r
    cases (show u = Value.ref a from ru)
    obtain ⟨_, _, ⟨o, n, h2, h3, _⟩, _⟩ := I.list h1
    exact PySem.W.kia_one PySem.W.kitx_list I.kIn ⟨o, h2, h3⟩ (k.h _ (by simp)) (fun z => nomatch z) h
  | dK xs =>
    simp only [Rep] at r
    obtain ⟨a, vs, rfl, h1, _⟩ := r
    cases (show u = Value.ref a from ru)
    exact isinst_ok (x := .ref a) I rfl (.dK h1) (k.h _ (by simp)) h
  | dT xs =>
    simp only [Rep] at r
    obtain ⟨a, vs, rfl, h1, _⟩ := r
    cases (show u = Value.ref a from ru)
    exact isinst_ok (x := .ref a) I rfl (.dT h1) (k.h _ (by simp)) h
def rIsiV (K : PySem.W.Frag) (T : String) : List V → Hp → VK → Prop := fun xs H Q => ∃ d v, xs = [v, .ty T] ∧ Rep K H d v ∧ Q (.bl (isKind (kindD d) T)) H
theorem call_isi (k : KindOk X.K T) : CallR X (.builtin "isinstance") (rIsiV X.K T) := by
  intro pins s σ H xs us Q I r h
  obtain ⟨d, v, rfl, rd, q⟩ := h
  cases r with
  | cons r1 r =>
    cases r with
    | cons r2 r =>
      cases r with
      | nil =>
        cases (show _ = Value.type T from r2)
        exact isi_ok k I rd r1 fun tk => ⟨.bl _, H, I.tok _, rfl, q⟩
def rIsi (T : String) (te : RE) (δ : List Sl) (Q : D → Prop) : Prop := te δ fun d => Q (.bl (isKind (kindD d) T))
theorem e_isi (k : KindOk X.K T) (hm : X.mg "isinstance" = none) (hm2 : X.mg x = none) (ha : PB2 X H0 e t) (hv : bootBuiltins x = some (.type T) := by rfl) (hg : Gl X "isinstance" := by rfl) (hg2 : Gl X x := by rfl) (hn : x ≠ "__name__" := by decide) (hdb : (x == ("__debug__" : Str)) = false := by decide)
    (he : starEach (e :: [.Name x p2]) X.env = (false, eval e X.env) :: starEach [.Name x p2] X.env := by rfl) (he2 : starEach [.Name x p2] X.env = (false, eval (.Name x p2) X.env) :: starEach [] X.env := by rfl)
    (hpl : (backTo pos (starEach [.Name x p2] X.env)).any (·.1) = false := by rfl) : PE2 X H0 (.Call (.Name "isinstance" p) [e, .Name x p2] [] pos) (rIsi T t) :=
  PE.weak (pe_callB (call_isi k) hg hm rfl (pa_cons ha (pa_cons (pe_bltn hg2 hm2 hv (v := .ty T) rfl hn hdb) pa_nil he2) he) (by decide) (by decide) he hpl) fun σ H Q ⟨δ, G, Qd, hs, ht, kk⟩ =>
    ⟨δ, G, _, hs, ht, fun v H1 G1 d n1 r1 q1 => ⟨d, v, rfl, r1.all n1.hs.sub, kk _ H1 G1 _ n1 (by simp only [Rep]) q1⟩⟩
end

/-! ### sum of a list of ints -/
theorem vals_ints : ∀ {ns : List Int} {us : List Value}, Vals (ns.map V.int) us → ∃ xs : List (Int × Tok), us = xs.map (fun p => .int p.1 p.2) ∧ xs.map (·.1) = ns
  | [], us, r => by cases r; exact ⟨[], rfl, rfl⟩
  | n :: ns, us, r => by
    cases r with
    | cons r1 r2 =>
      obtain ⟨t, rfl⟩ := (show ∃ t, _ = Value.int n t from r1)
      obtain ⟨xs, rfl, h⟩ := vals_ints r2
      exact ⟨(n, t) :: xs, rfl, by simp [h]⟩
theorem preSum_list (xs : List (Int × Tok)) : ∀ k, preSum (numAt xs.toArray) k = ((xs.take k).map (·.1)).sum
  | 0 => rfl
  | k + 1 => by
    rw [preSum, preSum_list xs k]
    by_cases h : k < xs.length
    · have e : xs.take (k + 1) = xs.take k ++ [xs[k]] := by rw [List.take_succ]; simp [h]
      rw [e, List.map_append, List.sum_append]; simp [numAt, h]
    · rw [List.take_of_length_le (by omega), List.take_of_length_le (by omega)]
      simp [numAt, Nat.le_of_not_lt h]
section
variable {X : Cx} {H0 : Hp} {e : Expr} {es : List Expr} {tr : RA} {pos p : Pos}
def rSumV (K : PySem.W.Frag) : List V → Hp → VK → Prop := fun xs H Q => ∃ a ns, xs = [.ref a] ∧ SqL K H a (List.map V.int ns) ∧ Q (.int ns.sum) H
theorem call_sum (hc : X.calm = true) : CallR X (.builtin "sum") (rSumV X.K) := by
  intro pins s σ H xs us Q I r h
  obtain ⟨a, ns, rfl, hq, q⟩ := h
  cases r with
  | cons r1 r =>
    cases r
    cases (show _ = Value.ref a from r1)
    obtain ⟨its, rv, pl, _⟩ := I.list hq
    obtain ⟨ps, rfl, hp⟩ := vals_ints rv
    refine sum_intListG (xs := ps.toArray) (I.ok.hd hc) (by simpa [intItems] using pl.isList) fun h' tk t' hk => ⟨.int ns.sum, H, ?_, ⟨t', ?_⟩, q⟩
    · exact I.kept (t' := tk) hk
    · rw [preSum_list, List.take_of_length_le (by simp), hp]
def dSum (ds : List D) (Q : D → Prop) : Prop := ∃ ns : List Int, ds = [.lst (ns.map D.int)] ∧ Q (.int ns.sum)
theorem lf_sum {K : PySem.W.Frag} : LfC K (rSumV K) dSum := fun H0 σ δ G H vs ds Qd Q hs r h k => by
  obtain ⟨ns, rfl, q⟩ := h
  obtain ⟨v, rr, rfl, ⟨a, ws, rfl, h2, h3⟩, h4⟩ := r
  obtain rfl : rr = [] := h4
  rw [Reps.ints_inv h3] at h2
  exact ⟨a, ns, rfl, h2, k _ H G _ (Nx.refl hs) (by simp only [Rep]) q⟩
theorem e_sum (hc : X.calm = true) (hm : X.mg "sum" = none) (ha : PAB2 X H0 (e :: es) tr) (hg : Gl X "sum" := by rfl)
    (he : starEach (e :: es) X.env = (false, eval e X.env) :: starEach es X.env := by rfl) (hpl : (backTo pos (starEach es X.env)).any (·.1) = false := by rfl) : PE2 X H0 (.Call (.Name "sum" p) (e :: es) [] pos) (rCB dSum tr) :=
  e_callB (call_sum hc) lf_sum hm rfl ha hg (by decide) (by decide) he hpl
end

/-! ### x += e, x -= e of ints -/
section
variable {X : Cx} {H0 : Hp} {e : Expr} {te : RE} {pos pos' : Pos} {x : Str}
def rAug (f : Int → Int → Int) (i : Nat) (te : RE) (E : Ends2) (δ : List Sl) : Prop := match δ[i]? with
  | some (.fr (.int a)) => te δ fun d => match d with
    | .int b => E.nx (δ.set i (.fr (.int (f a b))))
    | _ => False
  | _ => False
theorem s_aug {op : Operator} {f : Int → Int → Int} (ho : PIp X op (ipI f)) (i : Nat) (hN : X.N.Nodup) (he : PE2 X H0 e te) (hi : X.N[i]? = some x := by rfl) (hx : Loc X.env.scope x := by first | exact Or.inl rfl | exact Or.inr rfl)
    (hf : X.fn x = true ∨ X.env.scope.names.lookup x = some .local := by first | exact .inl rfl | exact .inr rfl | assumption) : PS2 X H0 (.AugAssign (.Name x pos') op e pos) (rAug f i te) :=
  PS.weak (ps_aug hN hi hx he ho hf) fun D σ H ⟨δ, G, E, hs, ht, g⟩ => by
    unfold rAug at ht
    split at ht
    · rename_i a ea
      obtain ⟨v, e1, r⟩ := hs.fr i _ ea
      obtain rfl : v = .int a := by simpa only [Rep] using r
      refine ⟨_, e1, δ, G, _, hs, ht, fun v H1 G1 d n1 r1 q1 => ?_⟩
      cases d with
      | int b =>
        obtain rfl : v = .int b := by simpa only [Rep] using r1
        obtain ⟨G', h', s'⟩ := n1.hs.put (d := .int (f a b)) (v := .int (f a b)) ea rfl (by simp only [Rep])
        exact ⟨a, b, rfl, rfl, g.nx _ H1 _ G' h' (n1.g.trans s') q1⟩
      | _ => exact q1.elim
    · exact ht.elim
theorem s_augadd (i : Nat) (hN : X.N.Nodup) (he : PE2 X H0 e te) (hi : X.N[i]? = some x := by rfl) (hx : Loc X.env.scope x := by first | exact Or.inl rfl | exact Or.inr rfl)
    (hf : X.fn x = true ∨ X.env.scope.names.lookup x = some .local := by first | exact .inl rfl | exact .inr rfl | assumption) : PS2 X H0 (.AugAssign (.Name x pos') .Add e pos) (rAug (fun i j => i + j) i te) := s_aug ip_add i hN he hi hx hf
theorem s_augsub (i : Nat) (hN : X.N.Nodup) (he : PE2 X H0 e te) (hi : X.N[i]? = some x := by rfl) (hx : Loc X.env.scope x := by first | exact Or.inl rfl | exact Or.inr rfl)
    (hf : X.fn x = true ∨ X.env.scope.names.lookup x = some .local := by first | exact .inl rfl | exact .inr rfl | assumption) : PS2 X H0 (.AugAssign (.Name x pos') .Sub e pos) (rAug (fun i j => i - j) i te) := s_aug ip_sub i hN he hi hx hf
end
theorem mem7 {P : String → Prop} (h1 : P "NoneType") (h2 : P "bool") (h3 : P "int") (h4 : P "str") (h5 : P "tuple") (h6 : P "list") (h7 : P "dict") : ∀ k ∈ ["NoneType", "bool", "int", "str", "tuple", "list", "dict"], P k := by
  intro k hk
  simp only [List.mem_cons, List.not_mem_nil, or_false] at hk
  rcases hk with rfl | rfl | rfl | rfl | rfl | rfl | rfl
  all_goals assumption
theorem kind_int (K : PySem.W.Frag) : KindOk K "int" := ⟨mem7 (by first | rfl | kernel_rfl) (by first | rfl | kernel_rfl) (by first | rfl | kernel_rfl) (by first | rfl | kernel_rfl) (by first | rfl | kernel_rfl) (by first | rfl | kernel_rfl) (by first | rfl | kernel_rfl)⟩
theorem kind_bool (K : PySem.W.Frag) : KindOk K "bool" := ⟨mem7 (by first | rfl | kernel_rfl) (by first | rfl | kernel_rfl) (by first | rfl | kernel_rfl) (by first | rfl | kernel_rfl) (by first | rfl | kernel_rfl) (by first | rfl | kernel_rfl) (by first | rfl | kernel_rfl)⟩
theorem kind_str (K : PySem.W.Frag) : KindOk K "str" := ⟨mem7 (by first | rfl | kernel_rfl) (by first | rfl | kernel_rfl) (by first | rfl | kernel_rfl) (by first | rfl | kernel_rfl) (by first | rfl | kernel_rfl) (by first | rfl | kernel_rfl) (by first | rfl | kernel_rfl)⟩
theorem kind_tuple (K : PySem.W.Frag) : KindOk K "tuple" := ⟨mem7 (by first | rfl | kernel_rfl) (by first | rfl | kernel_rfl) (by first | rfl | kernel_rfl) (by first | rfl | kernel_rfl) (by first | rfl | kernel_rfl) (by first | rfl | kernel_rfl) (by first | rfl | kernel_rfl)⟩
theorem kind_list (K : PySem.W.Frag) : KindOk K "list" := ⟨mem7 (by first | rfl | kernel_rfl) (by first | rfl | kernel_rfl) (by first | rfl | kernel_rfl) (by first | rfl | kernel_rfl) (by first | rfl | kernel_rfl) (by first | rfl | kernel_rfl) (by first | rfl | kernel_rfl)⟩
theorem kind_dict (K : PySem.W.Frag) : KindOk K "dict" := ⟨mem7 (by first | rfl | kernel_rfl) (by first | rfl | kernel_rfl) (by first | rfl | kernel_rfl) (by first | rfl | kernel_rfl) (by first | rfl | kernel_rfl) (by first | rfl | kernel_rfl) (by first | rfl | kernel_rfl)⟩
end M

set_option Elab.async false
set_option linter.all false
set_option maxRecDepth 100000
set_option maxHeartbeats 4000000
namespace M
open PySem PySem.Spec PyProof.Rows L2
theorem sIx_nat {len dflt n : Nat} : HT.sIx len dflt (some (n : Int)) = min n len := by
  unfold HT.sIx
  first | (simp; omega) | (simp; done) | (split <;> omega) | skip
theorem cut_to {xs : List D} {n : Nat} : cutD xs none (some (n : Int)) = xs.take n := by
  unfold cutD
  rw [sIx_nat]
  have : HT.sIx xs.length 0 none = 0 := rfl
  rw [this, List.drop_zero, Nat.sub_zero, ← List.take_length (l := xs), List.take_take, List.length_take]
  simp
theorem cut_from {xs : List D} {n : Nat} : cutD xs (some (n : Int)) none = xs.drop n := by
  unfold cutD
  rw [sIx_nat]
  have : HT.sIx xs.length xs.length none = xs.length := rfl
  rw [this]
  by_cases h : n ≤ xs.length
  · rw [Nat.min_eq_left h, List.take_of_length_le (by simp)]
  · rw [Nat.min_eq_right (by omega), List.drop_length, List.drop_of_length_le (by omega)]; simp
theorem cut_mid {xs : List D} {a b : Nat} : cutD xs (some (a : Int)) (some (b : Int)) = (xs.drop a).take (b - a) := by
  unfold cutD
  rw [sIx_nat, sIx_nat]
  by_cases h : a ≤ xs.length
  · rw [Nat.min_eq_left h]
    by_cases h2 : b ≤ xs.length
    · rw [Nat.min_eq_left h2]
    · rw [Nat.min_eq_right (by omega), List.take_of_length_le (by simp), List.take_of_length_le (by simp; omega)]
  · have e : min a xs.length = xs.length := by omega
    rw [e, List.drop_length, List.drop_of_length_le (by omega)]; simp
end M
namespace M
theorem plain_ints (k : Nat) (ns : List Int) : plainD (k + 1) (.lst (ns.map D.int)) = true := by
  simp only [plainD, List.all_map, List.all_eq_true]
  intro x _; cases k <;> rfl
theorem eq_self60 {d : D} (h : plainD 60 d = true) : eqD d d = true := eqD_self 60 d h
end M
namespace M
theorem Drawn.seven {s1 s2 s3 s4 s5 s6 s7 : Int} {P : List Int → Prop} (h : ∀ a b c d e f g : Int, 0 ≤ a → a < s1 → 0 ≤ b → b < s2 → 0 ≤ c → c < s3 → 0 ≤ d → d < s4 → 0 ≤ e → e < s5 → 0 ≤ f → f < s6 → 0 ≤ g → g < s7 → P [a, b, c, d, e, f, g]) : ∀ out, Drawn out [s1, s2, s3, s4, s5, s6, s7] → P out := fun out w => by
  cases w with | cons a0 a1 w => cases w with | cons b0 b1 w => cases w with | cons c0 c1 w => cases w with | cons d0 d1 w => cases w with | cons e0 e1 w => cases w with | cons f0 f1 w => cases w with | cons g0 g1 w => cases w with | nil => exact h _ _ _ _ _ _ _ a0 a1 b0 b1 c0 c1 d0 d1 e0 e1 f0 f1 g0 g1
end M

set_option Elab.async false
set_option linter.all false
set_option maxRecDepth 100000
set_option maxHeartbeats 4000000
namespace M
open PySem PySem.Spec PyProof.Rows L2
/-! ### tables of data -/
section
variable {κ : Type} [DecidableEq κ]
def valD (kvs : List (κ × D)) (k : κ) : Option D := (kvs.find? fun kv => decide (kv.1 = k)).map (·.2)
def putD (kvs : List (κ × D)) (k : κ) (d : D) : List (κ × D) :=
  if (kvs.any fun kv => decide (kv.1 = k)) = true then kvs.map (fun kv => if kv.1 = k then (kv.1, d) else kv) else kvs ++ [(k, d)]
theorem valD_nil {k : κ} : valD ([] : List (κ × D)) k = none := rfl
theorem valD_pos {p : κ × D} {r : List (κ × D)} {k : κ} (e : p.1 = k) : valD (p :: r) k = some p.2 := by simp [valD, List.find?_cons, e]
theorem valD_neg {p : κ × D} {r : List (κ × D)} {k : κ} (e : ¬ p.1 = k) : valD (p :: r) k = valD r k := by simp [valD, List.find?_cons, e]
theorem valD_any (k : κ) : ∀ kvs : List (κ × D), (kvs.any fun kv => decide (kv.1 = k)) = (valD kvs k).isSome
  | [] => rfl
  | p :: r => by
    rw [List.any_cons]
    by_cases e : p.1 = k
    · rw [valD_pos e]; simp [e]
    · rw [valD_neg e]; simp [e, valD_any k r]
theorem valD_mapNe (k j : κ) (d : D) : ∀ kvs : List (κ × D), valD (kvs.map fun kv => if kv.1 = k then (kv.1, d) else kv) j = (valD kvs j).map fun x => if j = k then d else x
  | [] => rfl
  | p :: r => by
    have ih := valD_mapNe k j d r
    rw [List.map_cons]
    by_cases h1 : p.1 = k
    · rw [if_pos h1]
      by_cases h2 : p.1 = j
      · rw [valD_pos (p := (p.1, d)) h2, valD_pos h2]
        simp [← h2, h1]
      · rw [valD_neg (p := (p.1, d)) h2, valD_neg h2, ih]
    · rw [if_neg h1]
      by_cases h2 : p.1 = j
      · have : ¬ j = k := fun z => h1 (h2.trans z)
        rw [valD_pos h2, valD_pos h2]; simp [this]
      · rw [valD_neg h2, valD_neg h2, ih]
theorem valD_append (k : κ) (a b : List (κ × D)) : valD (a ++ b) k = (valD a k).or (valD b k) := by
  induction a with
  | nil => simp [valD_nil]
  | cons p r ih =>
    rw [List.cons_append]
    by_cases e : p.1 = k
    · rw [valD_pos e, valD_pos e]; rfl
    · rw [valD_neg e, valD_neg e, ih]
/-- what is found behind a store -/
theorem valD_put (kvs : List (κ × D)) (k j : κ) (d : D) : valD (putD kvs k d) j = if j = k then some d else valD kvs j := by
  unfold putD
  split
  · rename_i h
    rw [valD_any] at h
    rw [valD_mapNe]
    by_cases e : j = k
    · subst e
      rw [if_pos rfl]
      obtain ⟨x, hx⟩ := Option.isSome_iff_exists.mp h
      rw [hx]; simp
    · rw [if_neg e]
      cases valD kvs j with
      | none => rfl
      | some x => simp [e]
  · rename_i h
    rw [valD_any] at h
    rw [valD_append]
    by_cases e : j = k
    · subst e
      rw [if_pos rfl]
      have : valD kvs j = none := by
        cases q : valD kvs j with
        | none => rfl
        | some x => rw [q] at h; simp at h
      rw [this, valD_pos (p := (j, d)) rfl]; rfl
    · rw [if_neg e, valD_neg (p := (k, d)) (fun z => e z.symm), valD_nil]; cases valD kvs j <;> rfl
theorem putD_length (kvs : List (κ × D)) (k : κ) (d : D) : (putD kvs k d).length ≤ kvs.length + 1 := by
  unfold putD
  split
  · simp
  · simp
end
section
variable {K : PySem.W.Frag} {H : Hp}
theorem RepK.val : ∀ {kvs : List (Key × D)} {kws : List (Key × V)}, RepK K H kvs kws → ∀ k, match valD kvs k with
    | some d => ∃ v, valV kws k = some v ∧ Rep K H d v
    | none => valV kws k = none
  | [], kws, h, k => by simp only [RepK] at h; subst h; rfl
  | (k0, d) :: r, kws, h, k => by
    simp only [RepK] at h
    obtain ⟨v, q, rfl, h1, h2⟩ := h
    by_cases e : k0 = k
    · rw [valD_pos (p := (k0, d)) e]
      exact ⟨v, valV_pos (p := (k0, v)) e, h1⟩
    · rw [valD_neg (p := (k0, d)) e, valV_neg (p := (k0, v)) e]
      exact RepK.val h2 k
theorem RepK.valS {kvs : List (Key × D)} {kws : List (Key × V)} (h : RepK K H kvs kws) {k : Key} {d : D} (e : valD kvs k = some d) : ∃ v, valV kws k = some v ∧ Rep K H d v := by
  have := h.val k
  rw [e] at this; exact this
theorem RepK.valN {kvs : List (Key × D)} {kws : List (Key × V)} (h : RepK K H kvs kws) {k : Key} (e : valD kvs k = none) : valV kws k = none := by
  have := h.val k
  rw [e] at this; exact this
theorem RepK.isSome {kvs : List (Key × D)} {kws : List (Key × V)} (h : RepK K H kvs kws) (k : Key) : (valV kws k).isSome = (valD kvs k).isSome := by
  cases e : valD kvs k with
  | none => rw [h.valN e]; rfl
  | some d => obtain ⟨v, e', _⟩ := h.valS e; rw [e']; rfl
theorem RepK.map {k : Key} {d : D} {v : V} (r : Rep K H d v) : ∀ {kvs : List (Key × D)} {kws : List (Key × V)}, RepK K H kvs kws → RepK K H (kvs.map fun kv => if kv.1 = k then (kv.1, d) else kv) (kws.map fun kv => if kv.1 = k then (kv.1, v) else kv)
  | [], kws, h => by simp only [RepK] at h; subst h; simp [RepK]
  | (k0, d0) :: r0, kws, h => by
    simp only [RepK] at h
    obtain ⟨v0, q, rfl, h1, h2⟩ := h
    rw [List.map_cons, List.map_cons]
    by_cases e : k0 = k
    · rw [if_pos e, if_pos e]; simp only [RepK]; exact ⟨v, _, rfl, r, RepK.map r h2⟩
    · rw [if_neg e, if_neg e]; simp only [RepK]; exact ⟨v0, _, rfl, h1, RepK.map r h2⟩
theorem RepK.append : ∀ {kvs es : List (Key × D)} {kws fs : List (Key × V)}, RepK K H kvs kws → RepK K H es fs → RepK K H (kvs ++ es) (kws ++ fs)
  | [], es, kws, fs, h, g => by simp only [RepK] at h; subst h; exact g
  | (k0, d0) :: r0, es, kws, fs, h, g => by
    simp only [RepK] at h
    obtain ⟨v0, q, rfl, h1, h2⟩ := h
    rw [List.cons_append, List.cons_append]
    simp only [RepK]; exact ⟨v0, _, rfl, h1, RepK.append h2 g⟩
theorem RepK.put {kvs : List (Key × D)} {kws : List (Key × V)} {k : Key} {d : D} {v : V} (h : RepK K H kvs kws) (r : Rep K H d v) : RepK K H (putD kvs k d) (putK kws k v) := by
  unfold putD putK
  rw [valD_any, valV_any, h.isSome]
  split
  · exact h.map r
  · exact h.append (by simp only [RepK]; exact ⟨v, [], rfl, r, rfl⟩)
end
section
variable {K : PySem.W.Frag} {H : Hp}
theorem RepT.val : ∀ {kvs : List (List Key × D)} {kws : List (List Key × V)}, RepT K H kvs kws → ∀ k, match valD kvs k with
    | some d => ∃ v, valV kws k = some v ∧ Rep K H d v
    | none => valV kws k = none
  | [], kws, h, k => by simp only [RepT] at h; subst h; rfl
  | (k0, d) :: r, kws, h, k => by
    simp only [RepT] at h
    obtain ⟨v, q, rfl, h1, h2⟩ := h
    by_cases e : k0 = k
    · rw [valD_pos (p := (k0, d)) e]
      exact ⟨v, valV_pos (p := (k0, v)) e, h1⟩
    · rw [valD_neg (p := (k0, d)) e, valV_neg (p := (k0, v)) e]
      exact RepT.val h2 k
theorem RepT.valS {kvs : List (List Key × D)} {kws : List (List Key × V)} (h : RepT K H kvs kws) {k : List Key} {d : D} (e : valD kvs k = some d) : ∃ v, valV kws k = some v ∧ Rep K H d v := by
  have := h.val k
  rw [e] at this; exact this
theorem RepT.valN {kvs : List (List Key × D)} {kws : List (List Key × V)} (h : RepT K H kvs kws) {k : List Key} (e : valD kvs k = none) : valV kws k = none := by
  have := h.val k
  rw [e] at this; exact this
theorem RepT.isSome {kvs : List (List Key × D)} {kws : List (List Key × V)} (h : RepT K H kvs kws) (k : List Key) : (valV kws k).isSome = (valD kvs k).isSome := by
  cases e : valD kvs k with
  | none => rw [h.valN e]; rfl
  | some d => obtain ⟨v, e', _⟩ := h.valS e; rw [e']; rfl
theorem RepT.map {k : List Key} {d : D} {v : V} (r : Rep K H d v) : ∀ {kvs : List (List Key × D)} {kws : List (List Key × V)}, RepT K H kvs kws → RepT K H (kvs.map fun kv => if kv.1 = k then (kv.1, d) else kv) (kws.map fun kv => if kv.1 = k then (kv.1, v) else kv)
  | [], kws, h => by simp only [RepT] at h; subst h; simp [RepT]
  | (k0, d0) :: r0, kws, h => by
    simp only [RepT] at h
    obtain ⟨v0, q, rfl, h1, h2⟩ := h
    rw [List.map_cons, List.map_cons]
    by_cases e : k0 = k
    · rw [if_pos e, if_pos e]; simp only [RepT]; exact ⟨v, _, rfl, r, RepT.map r h2⟩
    · rw [if_neg e, if_neg e]; simp only [RepT]; exact ⟨v0, _, rfl, h1, RepT.map r h2⟩
theorem RepT.append : ∀ {kvs es : List (List Key × D)} {kws fs : List (List Key × V)}, RepT K H kvs kws → RepT K H es fs → RepT K H (kvs ++ es) (kws ++ fs)
  | [], es, kws, fs, h, g => by simp only [RepT] at h; subst h; exact g
  | (k0, d0) :: r0, es, kws, fs, h, g => by
    simp only [RepT] at h
    obtain ⟨v0, q, rfl, h1, h2⟩ := h
    rw [List.cons_append, List.cons_append]
    simp only [RepT]; exact ⟨v0, _, rfl, h1, RepT.append h2 g⟩
theorem RepT.put {kvs : List (List Key × D)} {kws : List (List Key × V)} {k : List Key} {d : D} {v : V} (h : RepT K H kvs kws) (r : Rep K H d v) : RepT K H (putD kvs k d) (putK kws k v) := by
  unfold putD putK
  rw [valD_any, valV_any, h.isSome]
  split
  · exact h.map r
  · exact h.append (by simp only [RepT]; exact ⟨v, [], rfl, r, rfl⟩)
end
end M

set_option Elab.async false
set_option linter.all false
set_option maxRecDepth 100000
set_option maxHeartbeats 4000000
namespace M
open PySem PySem.Spec PyProof.Rows L2
def kD : Key → D
  | .inl i => .int i
  | .inr x => .str x
/-- a key: an int or a text -/
def dkey (y : D) (Q : Key → Prop) : Prop := match y with
  | .int i => Q (.inl i)
  | .str x => Q (.inr x)
  | _ => False
/-- a key: a tuple of ints and texts -/
def tkey (y : D) (Q : List Key → Prop) : Prop := match y with
  | .tup ds => ∃ ks : List Key, ds = ks.map kD ∧ Q ks
  | _ => False
theorem dkey_of {K : PySem.W.Frag} {G : Hp} {y : D} {v : V} {Q : Key → Prop} (h : dkey y Q) (r : Rep K G y v) : ∃ k, v = kV k ∧ Q k := by
  cases y with
  | int i => simp only [Rep] at r; exact ⟨.inl i, r, h⟩
  | str x => simp only [Rep] at r; exact ⟨.inr x, r, h⟩
  | _ => exact h.elim
theorem Reps.keys_inv {K : PySem.W.Frag} {H : Hp} : ∀ {ks : List Key} {vs : List V}, Reps K H (ks.map kD) vs → vs = ks.map kV
  | [], vs, h => by simp only [List.map_nil, Reps] at h; exact h
  | k :: ks, vs, h => by
    simp only [List.map_cons, Reps] at h
    obtain ⟨v, r, rfl, h2, h3⟩ := h
    rw [Reps.keys_inv h3]
    cases k with
    | inl i => rw [show v = .int i by simpa only [kD, Rep] using h2]; rfl
    | inr x => rw [show v = .str x by simpa only [kD, Rep] using h2]; rfl
theorem tkey_of {K : PySem.W.Frag} {G : Hp} {y : D} {v : V} {Q : List Key → Prop} (h : tkey y Q) (r : Rep K G y v) : ∃ ks b, v = .ref b ∧ G b = some (.tup (ks.map kV)) ∧ Q ks := by
  cases y with
  | tup ds =>
    obtain ⟨ks, rfl, q⟩ := h
    simp only [Rep] at r
    obtain ⟨b, vs, rfl, h1, h2⟩ := r
    rw [Reps.keys_inv h2] at h1
    exact ⟨ks, b, rfl, h1, q⟩
  | _ => exact h.elim
/-- d[y] -/
def rDGetV : R2 := fun x y H Q => ∃ a v, x = .ref a ∧ DGet H a y (some v) ∧ Q v H
def dDGet (x y : D) (Q : D → Prop) : Prop := match x with
  | .dK kvs => dkey y fun k => ∃ d, valD kvs k = some d ∧ Q d
  | .dT kvs => tkey y fun k => ∃ d, valD kvs k = some d ∧ Q d
  | _ => False
theorem lf_dget {K : PySem.W.Frag} : Lf2 K rDGetV dDGet := fun H0 σ δ G H x y dx dy Qd Q hs rx ry h k => by
  cases dx with
  | dK kvs =>
    obtain ⟨a, kws, rfl, h1, h2⟩ := rx
    replace h : dkey dy (fun k => ∃ d, valD kvs k = some d ∧ Qd d) := h
    obtain ⟨key, rfl, d, e, q⟩ := dkey_of h (ry.all hs.sub)
    obtain ⟨v, e', r'⟩ := h2.valS e
    refine ⟨a, v, rfl, ?_, k v H G d (Nx.refl hs) r' q⟩
    rw [← e']; exact DGet.k h1
  | dT kvs =>
    obtain ⟨a, kws, rfl, h1, h2⟩ := rx
    replace h : tkey dy (fun k => ∃ d, valD kvs k = some d ∧ Qd d) := h
    obtain ⟨key, b, rfl, hb, d, e, q⟩ := tkey_of h (ry.all hs.sub)
    obtain ⟨v, e', r'⟩ := h2.valS e
    refine ⟨a, v, rfl, ?_, k v H G d (Nx.refl hs) r' q⟩
    rw [← e']; exact DGet.t h1 hb
  | _ => exact h.elim
/-- y in d -/
def rDInV (neg : Bool) : R2 := fun y x H Q => ∃ a o, x = .ref a ∧ DGet H a y o ∧ Q (.bl (neg != o.isSome)) H
def dDIn (neg : Bool) (y x : D) (Q : D → Prop) : Prop := match x with
  | .dK kvs => dkey y fun k => Q (.bl (neg != (valD kvs k).isSome))
  | .dT kvs => tkey y fun k => Q (.bl (neg != (valD kvs k).isSome))
  | _ => False
theorem lf_din {K : PySem.W.Frag} {neg : Bool} : Lf2 K (rDInV neg) (dDIn neg) := fun H0 σ δ G H y x dy dx Qd Q hs ry rx h k => by
  cases dx with
  | dK kvs =>
    obtain ⟨a, kws, rfl, h1, h2⟩ := rx
    replace h : dkey dy (fun k => Qd (.bl (neg != (valD kvs k).isSome))) := h
    obtain ⟨key, rfl, q⟩ := dkey_of h (ry.all hs.sub)
    exact ⟨a, _, rfl, DGet.k h1, k _ H G _ (Nx.refl hs) (by simp only [Rep]; rw [h2.isSome]) q⟩
  | dT kvs =>
    obtain ⟨a, kws, rfl, h1, h2⟩ := rx
    replace h : tkey dy (fun k => Qd (.bl (neg != (valD kvs k).isSome))) := h
    obtain ⟨key, b, rfl, hb, q⟩ := tkey_of h (ry.all hs.sub)
    exact ⟨a, _, rfl, DGet.t h1 hb, k _ H G _ (Nx.refl hs) (by simp only [Rep]; rw [h2.isSome]) q⟩
  | _ => exact h.elim
section
variable {X : Cx} {H0 : Hp} {a b e f value o : Expr} {ta tb te tf : RE} {pos pos' apos cpos p : Pos} {x : Str}
theorem e_dget (hu : X.A.units + 1 < cLine) (ha : PB2 X H0 a ta) (hb : PB2 X H0 b tb) (hs : NoSl b := by intro _ _; rfl) : PE2 X H0 (.Subscript a b pos) (rOp dDGet ta tb) :=
  PE.weak (pe_dget hu ha hb hs) (lift_op (r := rDGetV) lf_dget)
theorem in_f {ty td : TE} {σ : L2.St} {H : Hp} {Q : VK} (h : tOp (rDInV false) ty td σ H Q) (mono : ∀ {σ H Q Q'}, (∀ v H, Q v H → Q' v H) → ty σ H Q → ty σ H Q') (mono2 : ∀ {σ H Q Q'}, (∀ v H, Q v H → Q' v H) → td σ H Q → td σ H Q') : tDIn ty td σ H Q :=
  mono (fun y H1 h1 => mono2 (fun z H2 ⟨a, o, e, g, q⟩ => ⟨a, o, e, g, by simpa using q⟩) h1) h
theorem liftB_mono {K : PySem.W.Frag} {t : RE} {σ : L2.St} {H : Hp} {Q Q' : VK} (k : ∀ v H, Q v H → Q' v H) (h : liftB K H0 t σ H Q) : liftB K H0 t σ H Q' := by
  obtain ⟨δ, G, Qd, hs, ht, kk⟩ := h
  exact ⟨δ, G, Qd, hs, ht, fun v H' G' d n r q => k _ _ (kk v H' G' d n r q)⟩
theorem pe_in2 (hu : X.A.units + 1 < cLine) (ha : PB2 X H0 a ta) (hb : PB2 X H0 b tb) : PC X .In a b (tOp (rDInV false) (liftB X.K H0 ta) (liftB X.K H0 tb)) := fun pins s σ H Q I h =>
  pc_din hu ha hb pins s σ H Q I (liftB_mono (fun y H1 h1 => liftB_mono (fun z H2 ⟨a, o, e, g, q⟩ => ⟨a, o, e, g, by simpa using q⟩) h1) h)
theorem pe_notin2 (hu : X.A.units + 1 < cLine) (ha : PB2 X H0 a ta) (hb : PB2 X H0 b tb) : PC X .NotIn a b (tOp (rDInV true) (liftB X.K H0 ta) (liftB X.K H0 tb)) := fun pins s σ H Q I h =>
  pc_dnotin hu ha hb pins s σ H Q I (liftB_mono (fun y H1 h1 => liftB_mono (fun z H2 ⟨a, o, e, g, q⟩ => ⟨a, o, e, g, by simpa using q⟩) h1) h)
theorem e_din (hu : X.A.units + 1 < cLine) (ha : PB2 X H0 a ta) (hb : PB2 X H0 b tb) (h1 : behindInMarks .In b = false := by rfl) : PE2 X H0 (.Compare a [.In] [b] pos) (rOp (dDIn false) ta tb) :=
  PE.weak (pe_cmp (pe_in2 hu ha hb) h1) (lift_op lf_din)
theorem t_din (hu : X.A.units + 1 < cLine) (ha : PB2 X H0 a ta) (hb : PB2 X H0 b tb) (h1 : behindInMarks .In b = false := by rfl) : PT2 X H0 (.Compare a [.In] [b] pos) (rTest (rOp (dDIn false) ta tb)) :=
  PT.weak (pt_cmp (pe_in2 hu ha hb) h1) (lift_test (lift_op lf_din))
theorem e_dnotin (hu : X.A.units + 1 < cLine) (ha : PB2 X H0 a ta) (hb : PB2 X H0 b tb) (h1 : behindInMarks .NotIn b = false := by rfl) : PE2 X H0 (.Compare a [.NotIn] [b] pos) (rOp (dDIn true) ta tb) :=
  PE.weak (pe_cmp (pe_notin2 hu ha hb) h1) (lift_op lf_din)
theorem t_dnotin (hu : X.A.units + 1 < cLine) (ha : PB2 X H0 a ta) (hb : PB2 X H0 b tb) (h1 : behindInMarks .NotIn b = false := by rfl) : PT2 X H0 (.Compare a [.NotIn] [b] pos) (rTest (rOp (dDIn true) ta tb)) :=
  PT.weak (pt_cmp (pe_notin2 hu ha hb) h1) (lift_test (lift_op lf_din))
/-- d.get(k, z) -/
theorem getD_rep {κ : Type} [DecidableEq κ] {K : PySem.W.Frag} {G : Hp} {kvs : List (κ × D)} {kws : List (κ × V)} {k : κ} {z : D} {vz : V} (hS : ∀ {d : D}, valD kvs k = some d → ∃ v, valV kws k = some v ∧ Rep K G d v) (hN : valD kvs k = none → valV kws k = none) (rz : Rep K G z vz) : Rep K G ((valD kvs k).getD z) ((valV kws k).getD vz) := by
  cases e : valD kvs k with
  | none => rw [hN e]; exact rz
  | some d => obtain ⟨v, e', r⟩ := hS e; rw [e']; exact r
def rDGet2 (ta tb tc : RE) (δ : List Sl) (Q : D → Prop) : Prop := ta δ fun x => match x with
  | .dK kvs => tb δ fun y => tc δ fun z => dkey y fun k => Q ((valD kvs k).getD z)
  | .dT kvs => tb δ fun y => tc δ fun z => tkey y fun k => Q ((valD kvs k).getD z)
  | _ => False
theorem e_dget2 (hu : X.A.units + 1 < cLine) (ho : PB2 X H0 o ta) (he : PE2 X H0 e te) (hf : PE2 X H0 f tf) (m : M2 X o "get" apos e f cpos := by exact ⟨rfl, rfl, rfl, rfl⟩) : PE2 X H0 (.Call (.Attribute o "get" apos) [e, f] [] cpos) (rDGet2 ta te tf) :=
  PE.weak (pe_dget2 hu ho he hf m) fun σ H Q ⟨δ, G, Qd, hs, ht, kk⟩ => ⟨δ, G, _, hs, ht, fun v H1 G1 d n1 r1 q1 => by
    cases d with
    | dK kvs =>
      obtain ⟨a, kws, rfl, h1, h2⟩ := r1
      refine ⟨a, rfl, .inl ⟨_, .inl h1⟩, δ, G1, _, n1.hs, q1, fun vy H2 G2 dy n2 r2 q2 => ⟨δ, G2, _, n2.hs, q2, fun vz H3 G3 dz n3 r3 q3 => ?_⟩⟩
      obtain ⟨k, rfl, q⟩ := dkey_of q3 (Rep.mono n3.g _ _ r2)
      have h2' := RepK.mono (n2.g.trans n3.g) _ _ h2
      exact ⟨_, DGet.k (n3.h _ _ (n2.h _ _ h1)), kk _ H3 G3 _ ((n1.trans n2).trans n3) (getD_rep (fun e => h2'.valS e) (fun e => h2'.valN e) r3) q⟩
    | dT kvs =>
      obtain ⟨a, kws, rfl, h1, h2⟩ := r1
      refine ⟨a, rfl, .inr ⟨_, .inl h1⟩, δ, G1, _, n1.hs, q1, fun vy H2 G2 dy n2 r2 q2 => ⟨δ, G2, _, n2.hs, q2, fun vz H3 G3 dz n3 r3 q3 => ?_⟩⟩
      obtain ⟨k, b, rfl, hb, q⟩ := tkey_of q3 (Rep.mono n3.g _ _ r2)
      have h2' := RepT.mono (n2.g.trans n3.g) _ _ h2
      exact ⟨_, DGet.t (n3.h _ _ (n2.h _ _ h1)) (n3.hs.sub _ _ hb), kk _ H3 G3 _ ((n1.trans n2).trans n3) (getD_rep (fun e => h2'.valS e) (fun e => h2'.valN e) r3) q⟩
    | _ => exact q1.elim⟩
/-- d[k] = v, d of one's own or lent -/
def rDPut (i : Nat) (tk tv : RE) (E : Ends2) (δ : List Sl) : Prop := match δ[i]? with
  | some (.ow (.dK kvs)) => tv δ fun d => tk δ fun y => dkey y fun k => kvs.length < sizeLine ∧ E.nx (δ.set i (.ow (.dK (putD kvs k d))))
  | some (.lk q (.dK kvs)) => tv δ fun d => tk δ fun y => dkey y fun k => kvs.length < sizeLine ∧ E.nx (δ.set i (.lk q (.dK (putD kvs k d))))
  | some (.ow (.dT kvs)) => tv δ fun d => tk δ fun y => tkey y fun k => kvs.length < sizeLine ∧ E.nx (δ.set i (.ow (.dT (putD kvs k d))))
  | _ => False
theorem s_dput (i : Nat) (hu : X.A.units + 1 < cLine) (hk : PE2 X H0 e te) (hv : PE2 X H0 value tf) (hN : X.N[i]? = some x := by rfl) (hvs : Vis X.env.scope x := by first | exact Or.inl rfl | exact Or.inr (Or.inl rfl) | exact Or.inr (Or.inr rfl)) (hd : (x == ("__debug__" : Str)) = false := by decide)
    (hcd : (x == ("__classdict__" : Str)) = false := by decide) (hs : swapsWith value (some (.Subscript (.Name x p) e pos')) pos.line X.env = pure false := by rfl) :
    PS2 X H0 (.Assign [.Subscript (.Name x p) e pos'] value pos) (rDPut i te tf) :=
  PS.weak (ps_dput hu (pe_var hN hvs hd hcd) hk hv hs) fun D σ H ⟨δ, G, E, hs, ht, go⟩ => by
    unfold rDPut at ht
    split at ht
    · rename_i kvs e0
      refine ⟨δ, G, _, hs, ht, fun v H1 G1 d n1 r1 q1 => ?_⟩
      obtain ⟨a, e1, _⟩ := n1.hs.ow i _ e0
      refine ⟨_, e1, δ, G1, _, n1.hs, q1, fun y H2 G2 dy n2 r2 q2 => ?_⟩
      obtain ⟨a', e1', kws, h1, h2⟩ := n2.hs.ow i _ e0
      rw [e1] at e1'; cases e1'
      obtain ⟨k, rfl, hl, q⟩ := dkey_of q2 r2
      exact ⟨a, _, rfl, DPut.k h1 (by rw [← h2.length]; exact hl), go.nx _ _ _ G2 (n2.hs.write (d' := .dK (putD kvs k d)) e0 e1 ⟨_, upd_same, h2.put (Rep.mono n2.g _ _ r1)⟩) (n1.g.trans n2.g) q⟩
    · rename_i b kvs e0
      refine ⟨δ, G, _, hs, ht, fun v H1 G1 d n1 r1 q1 => ?_⟩
      obtain ⟨e1, _⟩ := n1.hs.lk i _ _ e0
      refine ⟨_, e1, δ, G1, _, n1.hs, q1, fun y H2 G2 dy n2 r2 q2 => ?_⟩
      obtain ⟨_, kws, h1, h2⟩ := n2.hs.lk i _ _ e0
      obtain ⟨k, rfl, hl, q⟩ := dkey_of q2 r2
      exact ⟨b, _, rfl, DPut.k h1 (by rw [← h2.length]; exact hl), go.nx _ _ _ G2 (n2.hs.writeL (d' := .dK (putD kvs k d)) e0 e1 ⟨_, upd_same, h2.put (Rep.mono n2.g _ _ r1)⟩) (n1.g.trans n2.g) q⟩
    · rename_i kvs e0
      refine ⟨δ, G, _, hs, ht, fun v H1 G1 d n1 r1 q1 => ?_⟩
      obtain ⟨a, e1, _⟩ := n1.hs.ow i _ e0
      refine ⟨_, e1, δ, G1, _, n1.hs, q1, fun y H2 G2 dy n2 r2 q2 => ?_⟩
      obtain ⟨a', e1', kws, h1, h2⟩ := n2.hs.ow i _ e0
      rw [e1] at e1'; cases e1'
      obtain ⟨k, b, rfl, hb, hl, q⟩ := tkey_of q2 r2
      exact ⟨a, _, rfl, DPut.t h1 (n2.hs.sub _ _ hb) (by rw [← h2.length]; exact hl), go.nx _ _ _ G2 (n2.hs.write (d' := .dT (putD kvs k d)) e0 e1 ⟨_, upd_same, h2.put (Rep.mono n2.g _ _ r1)⟩) (n1.g.trans n2.g) q⟩
    · exact ht.elim
/-- dict(d): a copy -/
def rCopyV : List V → Hp → VK → Prop := fun xs H Q => ∃ a kvs, xs = [.ref a] ∧ H a = some (.dK kvs) ∧ ∀ p, H p = none → Q (.ref p) (upd H p (.dK kvs))
theorem call_dict : CallR X (.type "dict") rCopyV := by
  intro pins s σ H xs us Q I r h
  obtain ⟨a, kvs, rfl, e, q⟩ := h
  cases r with
  | cons r1 r =>
    cases r
    cases (show _ = Value.ref a from r1)
    exact d_copyOf I (.inl e) fun p s' hp I' => ⟨.ref p, _, I', rfl, q p hp⟩
def dDict (ds : List D) (Q : D → Prop) : Prop := match ds with
  | [.dK kvs] => Q (.dK kvs)
  | _ => False
theorem lf_dict {K : PySem.W.Frag} : LfN K rCopyV dDict := fun H0 σ δ G H vs ds Qd Q hs r h k => by
  unfold dDict at h
  split at h
  · rename_i kvs
    obtain ⟨v, rr, rfl, ⟨a, kws, rfl, h2, h3⟩, h4⟩ := r
    obtain rfl : rr = [] := h4
    exact ⟨a, kws, rfl, h2, fun l hl => k _ _ G (.dK kvs) (hs.fresh hl ⟨kws, upd_same, h3⟩) (Same.refl _) (upd_mono hl) h⟩
  · exact h.elim
variable {es : List Expr} {tr : RA}
theorem n_dict (hm : X.mg "dict" = none) (ha : PAB2 X H0 (e :: es) tr) (hg : Gl X "dict" := by rfl)
    (he : starEach (e :: es) X.env = (false, eval e X.env) :: starEach es X.env := by rfl) (hpl : (backTo pos (starEach es X.env)).any (·.1) = false := by rfl) : PN2 X H0 (.Call (.Name "dict" p) (e :: es) [] pos) (rCB dDict tr) :=
  n_callTy call_dict lf_dict hm rfl ha hg (by decide) (by decide) he hpl
end
end M

set_option Elab.async false
set_option linter.all false
set_option maxRecDepth 100000
set_option maxHeartbeats 4000000
namespace M
open PySem PySem.Spec PyProof.Rows L2 SeqAt
/-! ### == of two dicts whose keys are ints and texts -/
theorem same_dicts {K : Type} [DecidableEq K] {prog : Program} {w : World} {knd : KeyKind prog w K} {op : CmpOp} {want : Bool} {A : Around} {E : Value → Shared → Prop} {s : Shared} {a b : Addr} {o o2 : Obj} {es es2 : Array DictEntry} {ep ep2 : Nat} {Q : Bool → Shared → Prop} {id : String} (ha : s.heap.get? a = some o) (hb : s.heap.get? b = some o2)
    (da : o.data = .dict es ep) (db : o2.data = .dict es2 ep2) (za : (a == sysModules) = false) (zb : (b == sysModules) = false) (kb : KeysOf knd es2) (r : Nat → Bool)
    (hr : ∀ i (h : i < es.size), ∃ k, knd.is k es[i].key = true ∧ es[i].hash = knd.hash k ∧ match es2.findIdx? fun e => knd.is k e.key with
      | none => r i = false
      | some j => ∃ hj : j < es2.size, EqAt A s es[i].val es2[j].val (r i))
    (hQ : Q (es.size == es2.size && (List.range es.size).all r) s) : wpAny (model prog w) A (Builtin.Dict.samePairs id a b) Q E s := by
  unfold Builtin.Dict.samePairs
  refine wpAny_bind ?_
  unfold Builtin.Dict.showsAll
  rw [if_neg (by rw [za]; exact Bool.false_ne_true)]
  refine wpAny_pure ?_
  rw [if_neg (by rw [zb]; exact Bool.false_ne_true)]
  refine wpAny_bind (wpAny_pure ?_)
  refine wpAny_bind (wpAny_dictEntries ha da ?_)
  refine wpAny_bind (wpAny_dictEntries hb db ?_)
  by_cases hs : es.size = es2.size
  · have h1 : ¬ (es.size != es2.size) = true := by simp [hs]
    have h2 : (es.size == es2.size) = true := by simp [hs]
    rw [h2, Bool.true_and] at hQ
    rw [if_neg h1]
    refine wpAny_bind (wpAny_dictEpoch ha da ?_)
    refine wpAny_bind ?_
    rw [Std.Legacy.Range.forIn_eq_forIn_range']
    simp only [Std.Legacy.Range.size, Nat.sub_zero, Nat.add_sub_cancel, Nat.div_one]
    refine wpAny_forIn_list _
      (fun rest st s' => ∃ i, rest = List.range' i (es.size - i) ∧ i ≤ es.size ∧ st = (none, ()) ∧ s' = s ∧ (List.range es.size).all r = ((List.range' i (es.size - i)).all r)) _ ?_ ?_ _ _ ⟨0, by simp, Nat.zero_le _, rfl, rfl, by rw [List.range_eq_range']; simp⟩
    · rintro x rest _ s' ⟨i, hrs, hi, rfl, rfl, hal⟩
      have hlt : i < es.size := by
        rcases Nat.lt_or_ge i es.size with h | h
        · exact h
        · rw [Nat.sub_eq_zero_of_le h] at hrs; simp at hrs
      have en : es.size - i = (es.size - (i + 1)) + 1 := by omega
      obtain ⟨rfl, hrest⟩ : x = i ∧ rest = List.range' (i + 1) (es.size - (i + 1)) := by
        rw [en, List.range'_succ] at hrs
        injection hrs with h1 h2
        exact ⟨h1, h2⟩
      rw [en, List.range'_succ, List.all_cons] at hal
      refine wpAny_bind (wpAny_dictEntries ha da ?_)
      rw [Array.getElem?_eq_getElem hlt]
      obtain ⟨k, hk1, hk2, hk3⟩ := hr x hlt
      have step : wpAny (model prog w) A (holding [es[x].key, es[x].val] do
          let some j ← dictFind b es[x].key es[x].hash | pure false
          let some f := (← dictEntries b)[j]? | unsupported "internal:dict-equal"
          holding [f.val] (eqBool es[x].val f.val)) (fun same s2 => same = r x ∧ s2 = s') E s' := by
        refine wpAny_holding ?_
        rw [hk2]
        refine wpAny_bind (wpAny_dictFind_of hk1 hb db kb ?_)
        cases e : es2.findIdx? fun e => knd.is k e.key with
        | none =>
          rw [e] at hk3
          exact wpAny_pure ⟨hk3.symm, rfl⟩
        | some j =>
          rw [e] at hk3
          obtain ⟨hj, heq⟩ := hk3
          refine wpAny_bind (wpAny_dictEntries hb db ?_)
          rw [Array.getElem?_eq_getElem hj]
          exact wpAny_holding (heq prog w E _ ⟨rfl, rfl⟩)
      refine wpAny_bind (wpAny_mono step (fun same s2 h => ?_) (fun _ _ h => h))
      obtain ⟨rfl, rfl⟩ := h
      cases hb' : r x with
      | false =>
        rw [hb', Bool.false_and] at hal
        rw [hal] at hQ
        exact wpAny_pure (wpAny_pure hQ)
      | true =>
        rw [hb', Bool.true_and] at hal
        refine wpAny_bind (wpAny_dictEpoch ha da ?_)
        rw [if_neg (by simp)]
        exact wpAny_pure ⟨x + 1, hrest, by omega, rfl, rfl, hal⟩
    · rintro _ s' ⟨i, hrs, hi, rfl, rfl, hal⟩
      have hin : es.size - i = 0 := by
        cases e : es.size - i with
        | zero => rfl
        | succ m => rw [e, List.range'_succ] at hrs; exact nomatch hrs
      rw [hin] at hal
      rw [hal] at hQ
      exact wpAny_pure hQ
  · have h1 : (es.size != es2.size) = true := by simp [hs]
    have h2 : (es.size == es2.size) = false := by simp [hs]
    rw [h2, Bool.false_and] at hQ
    rw [if_pos h1]
    exact wpAny_bind (wpAny_rule (wpAny_pure hQ))
theorem sub_dict : isSubtype (.type "dict") (.type "dict") = pure true := by first | rfl | kernel_rfl
theorem rc_dicts {K : Type} [DecidableEq K] {prog : Program} {w : World} {knd : KeyKind prog w K} {A : Around} {E : Value → Shared → Prop} {s : Shared} {a b : Addr} {o o2 : Obj} {es es2 : Array DictEntry} {ep ep2 : Nat} {Q : Value → Shared → Prop} (ha : s.heap.get? a = some o) (hb : s.heap.get? b = some o2)
    (xa : o.ExactDict) (xb : o2.ExactDict) (da : o.data = .dict es ep) (db : o2.data = .dict es2 ep2) (za : (a == sysModules) = false) (zb : (b == sysModules) = false) (kb : KeysOf knd es2) (r : Nat → Bool) (hu : A.units < cLine)
    (hr : ∀ i (h : i < es.size), ∃ k, knd.is k es[i].key = true ∧ es[i].hash = knd.hash k ∧ match es2.findIdx? fun e => knd.is k e.key with
      | none => r i = false
      | some j => ∃ hj : j < es2.size, EqAt A.in1 s es[i].val es2[j].val (r i)) :
    (Q (.bool (es.size == es2.size && (List.range es.size).all r)) s → wpAny (model prog w) A (richCompare .Eq (.ref a) (.ref b)) Q E s) ∧
    (Q (.bool (!(es.size == es2.size && (List.range es.size).all r))) s → wpAny (model prog w) A (richCompare .NotEq (.ref a) (.ref b)) Q E s) := by
  have Ta : s.TypeIs (.ref a) "dict" := ⟨o, ha, xa.1⟩
  have Tb : s.TypeIs (.ref b) "dict" := ⟨o2, hb, xb.1⟩
  constructor
  · intro hQ
    refine wpAny_richCompare_same_room (op := .Eq) Ta Tb F.slot_dict_eq (wpAny_call_entry F.slot_dict_eq Ta F.entry_dict_eq ?_ (F.args_dict_eq_2 _ _)) hu
    show wpAny _ _ (Builtin.Dict.dictSlotArgs "__eq__" ⟨[.ref a, .ref b], []⟩ >>= _) _ _ s
    unfold Builtin.Dict.dictSlotArgs
    refine wpAny_bind ?_
    refine wpAny_bind (wpAny_notOrdered_dict Ta ?_)
    show wpAny _ _ (pure (Value.ref a, Value.ref b)) _ _ s
    refine wpAny_pure ?_
    show wpAny _ _ (isInstance (.ref b) (.type "dict") >>= _) _ _ s
    refine wpAny_bind (wpAny_isInstance (b := true) Tb sub_dict ?_)
    show wpAny _ _ (Builtin.Dict.addrOf (.ref a) >>= _) _ _ s
    refine wpAny_bind (wpAny_pure ?_)
    show wpAny _ _ (Builtin.Dict.addrOf (.ref b) >>= _) _ _ s
    refine wpAny_bind (wpAny_pure ?_)
    show wpAny _ _ (Builtin.Dict.samePairs _ a b >>= _) _ _ s
    refine wpAny_bind (same_dicts (op := .Eq) (want := true) ha hb da db za zb kb r hr ?_)
    refine wpAny_pure ⟨_, rfl, (fun z => nomatch z), ?_⟩
    simpa using hQ
  · intro hQ
    refine wpAny_richCompare_same_room (op := .NotEq) Ta Tb F.slot_dict_ne (wpAny_call_entry F.slot_dict_ne Ta F.entry_dict_ne ?_ (F.args_dict_ne_2 _ _)) hu
    show wpAny _ _ (Builtin.Dict.dictSlotArgs "__ne__" ⟨[.ref a, .ref b], []⟩ >>= _) _ _ s
    unfold Builtin.Dict.dictSlotArgs
    refine wpAny_bind ?_
    refine wpAny_bind (wpAny_notOrdered_dict Ta ?_)
    show wpAny _ _ (pure (Value.ref a, Value.ref b)) _ _ s
    refine wpAny_pure ?_
    show wpAny _ _ (isInstance (.ref b) (.type "dict") >>= _) _ _ s
    refine wpAny_bind (wpAny_isInstance (b := true) Tb sub_dict ?_)
    show wpAny _ _ (Builtin.Dict.addrOf (.ref a) >>= _) _ _ s
    refine wpAny_bind (wpAny_pure ?_)
    show wpAny _ _ (Builtin.Dict.addrOf (.ref b) >>= _) _ _ s
    refine wpAny_bind (wpAny_pure ?_)
    show wpAny _ _ (Builtin.Dict.samePairs _ a b >>= _) _ _ s
    refine wpAny_bind (same_dicts (op := .NotEq) (want := false) ha hb da db za zb kb r hr ?_)
    refine wpAny_pure ⟨_, rfl, (fun z => nomatch z), ?_⟩
    have e : ((es.size == es2.size && (List.range es.size).all r) == false) = !(es.size == es2.size && (List.range es.size).all r) := by cases (es.size == es2.size && (List.range es.size).all r) <;> rfl
    rw [e]; exact hQ
end M

set_option Elab.async false
set_option linter.all false
set_option maxRecDepth 100000
set_option maxHeartbeats 4000000
namespace M
open PySem PySem.Spec PyProof.Rows L2 SeqAt
section
variable {κ : Type} [DecidableEq κ]
theorem valD_idx (k : κ) : ∀ kvs : List (κ × D), valD kvs k = (kvs.findIdx? fun kv => decide (kv.1 = k)).bind fun j => kvs[j]?.map (·.2)
  | [] => rfl
  | p :: r => by
    rw [List.findIdx?_cons]
    by_cases e : p.1 = k
    · rw [valD_pos e, if_pos (by simp [e])]; rfl
    · rw [valD_neg e, if_neg (by simp [e]), valD_idx k r]
      cases (r.findIdx? fun kv => decide (kv.1 = k)) with
      | none => rfl
      | some j => simp
theorem idx_keys {α β : Type} (k : κ) : ∀ (as : List (κ × α)) (bs : List (κ × β)), as.map (·.1) = bs.map (·.1) → (as.findIdx? fun kv => decide (kv.1 = k)) = bs.findIdx? fun kv => decide (kv.1 = k)
  | [], [], _ => rfl
  | [], _ :: _, h => by simp at h
  | _ :: _, [], h => by simp at h
  | a :: as, b :: bs, h => by
    simp only [List.map_cons, List.cons.injEq] at h
    rw [List.findIdx?_cons, List.findIdx?_cons, h.1, idx_keys k as bs h.2]
end
theorem RepK.keys {K : PySem.W.Frag} {H : Hp} : ∀ {kvs : List (Key × D)} {kws : List (Key × V)}, RepK K H kvs kws → kvs.map (·.1) = kws.map (·.1)
  | [], kws, h => by simp only [RepK] at h; subst h; rfl
  | (k, d) :: r, kws, h => by
    simp only [RepK] at h
    obtain ⟨v, q, rfl, _, h2⟩ := h
    simp [RepK.keys h2]
theorem RepK.get {K : PySem.W.Frag} {H : Hp} : ∀ {kvs : List (Key × D)} {kws : List (Key × V)} {i : Nat} {p : Key × D}, RepK K H kvs kws → kvs[i]? = some p → ∃ v, kws[i]? = some (p.1, v) ∧ Rep K H p.2 v
  | [], _, _, _, _, e => by simp at e
  | (k, d) :: r, kws, 0, p, h, e => by
    simp only [RepK] at h
    obtain ⟨v, q, rfl, h1, h2⟩ := h
    simp at e; subst e
    exact ⟨v, rfl, h1⟩
  | (k, d) :: r, kws, i + 1, p, h, e => by
    simp only [RepK] at h
    obtain ⟨v, q, rfl, h1, h2⟩ := h
    simpa using RepK.get h2 (by simpa using e)
theorem KV.keys {κ : Type} : ∀ {kws : List (κ × V)} {vs : List (κ × Value)}, KV kws vs → kws.map (·.1) = vs.map (·.1)
  | _, _, .nil => rfl
  | _, _, .cons h t => by simp [h.1, KV.keys t]
theorem KV.get {κ : Type} : ∀ {kws : List (κ × V)} {vs : List (κ × Value)} {i : Nat} {k : κ} {v : V}, KV kws vs → kws[i]? = some (k, v) → ∃ u, vs[i]? = some (k, u) ∧ L2.RelV v u
  | _, _, _, _, _, .nil, e => by simp at e
  | _, _, 0, k, v, .cons (b := b) h t, e => by
    simp at e; subst e
    obtain ⟨b1, b2⟩ := b
    have h1 : k = b1 := h.1
    subst h1
    exact ⟨b2, rfl, h.2⟩
  | _, _, i + 1, k, v, .cons h t, e => by simpa using KV.get (i := i) t (by simpa using e)
theorem pairs_get {prog : Program} {w : World} {K : Type} [DecidableEq K] {knd : KeyKind prog w K} {es : List DictEntry} {kvs : List (K × Value)} (h : Pairs knd es kvs) : ∀ {i : Nat} {k : K} {u : Value}, kvs[i]? = some (k, u) → ∃ e, es[i]? = some e ∧ knd.is k e.key = true ∧ e.val = u := by
  induction h with
  | nil => intro i k u e; simp at e
  | @cons e kv es kvs h1 h2 _ ih =>
    intro i k u q
    cases i with
    | zero => simp at q; subst q; exact ⟨e, rfl, h1, h2⟩
    | succ i => simpa using ih (by simpa using q)
def vEq (kws : List (Key × D)) (p : Key × D) : Bool := match valD kws p.1 with
  | some d => eqD p.2 d
  | none => false
def atB {α : Type} (f : α → Bool) (xs : List α) (i : Nat) : Bool := match xs[i]? with
  | some p => f p
  | none => false
def eqDK (kvs kws : List (Key × D)) : Bool := kvs.length == kws.length && kvs.all (vEq kws)
theorem range_all {α : Type} (f : α → Bool) : ∀ xs : List α, (List.range xs.length).all (atB f xs) = xs.all f
  | [] => rfl
  | x :: xs => by
    rw [List.length_cons, List.range_succ_eq_map, List.all_cons, List.all_map, List.all_cons, ← range_all f xs]
    rfl
section
variable {X : Cx}
theorem both_dicts {pins : List (Addr × Obj)} {σ : L2.St} {H : Hp} {s : Shared} {a b : Addr} {kvs kws : List (Key × D)} {kvs' kws' : List (Key × V)} {n : Nat} {Q : Value → Shared → Prop} {E : Value → Shared → Prop} (I : L2.Inv X pins σ H s) (ha : H a = some (.dK kvs')) (hb : H b = some (.dK kws')) (ra : RepK X.K H kvs kvs') (rb : RepK X.K H kws kws')
    (pa : ∀ p ∈ kvs, plainD n p.2 = true) (pb : ∀ p ∈ kws, plainD n p.2 = true) (hu : X.A.units + (n + 1) < cLine) :
    (Q (.bool (eqDK kvs kws)) s → wpAny (model X.prog X.w) X.A (richCompare .Eq (.ref a) (.ref b)) Q E s) ∧ (Q (.bool (!eqDK kvs kws)) s → wpAny (model X.prog X.w) X.A (richCompare .NotEq (.ref a) (.ref b)) Q E s) := by
  obtain ⟨_, za, vs, rv, o, es, ep, ho, xo, do', ko, po, no⟩ := dk_of I.hok ha
  obtain ⟨_, zb, ws, rw', o2, es2, ep2, ho2, xo2, do2, ko2, po2, no2⟩ := dk_of I.hok hb
  let r : Nat → Bool := atB (vEq kws) kvs
  have l1 : es.size = kvs.length := by
    have e1 := po.length
    have e2 := congrArg List.length (KV.keys rv)
    have e3 := ra.length
    simp at e1 e2; omega
  have l2 : es2.size = kws.length := by
    have e1 := po2.length
    have e2 := congrArg List.length (KV.keys rw')
    have e3 := rb.length
    simp at e1 e2; omega
  have hr : ∀ i (h : i < es.size), ∃ k, (mixKind X.prog X.w).is k es[i].key = true ∧ es[i].hash = (mixKind X.prog X.w).hash k ∧ match es2.findIdx? fun e => (mixKind X.prog X.w).is k e.key with
      | none => r i = false
      | some j => ∃ hj : j < es2.size, EqAt X.A.in1 s es[i].val es2[j].val (r i) := by
    intro i h
    have hi : i < kvs.length := by omega
    have ek : kvs[i]? = some kvs[i] := by simp [hi]
    generalize kvs[i] = p at ek
    obtain ⟨v, ev, rep⟩ := ra.get ek
    obtain ⟨u, eu, ru⟩ := KV.get rv ev
    obtain ⟨e, ee, hk, hval⟩ := pairs_get po eu
    have ee' : es[i] = e := by
      have : es.toList[i]? = some es[i] := by simp [h]
      rw [this] at ee; exact Option.some.inj ee
    refine ⟨p.1, by rw [ee']; exact hk, ?_, ?_⟩
    · obtain ⟨k', hk', hh⟩ := ko es[i] (Array.getElem_mem h)
      have : p.1 = k' := (mixKind X.prog X.w).inj _ _ _ (by rw [ee']; exact hk) hk'
      rw [this]; exact hh
    · have ef : es2.findIdx? (fun e => (mixKind X.prog X.w).is p.1 e.key) = kws.findIdx? fun kv => decide (kv.1 = p.1) := by
        have h1 := po2.findIdx p.1
        rw [idx_keys p.1 kws ws (rb.keys.trans (KV.keys rw')), ← h1]
        cases es2; simp
      rw [ef]
      have hri : r i = vEq kws p := by show atB (vEq kws) kvs i = _; unfold atB; rw [ek]
      have vi := valD_idx p.1 kws
      cases q : kws.findIdx? fun kv => decide (kv.1 = p.1) with
      | none =>
        rw [q] at vi
        rw [hri]; unfold vEq; rw [vi]; rfl
      | some j =>
        rw [q] at vi
        have hj : j < kws.length := by
          have := List.findIdx?_eq_some_iff_getElem.mp q
          exact this.1
        have ej : kws[j]? = some kws[j] := by simp [hj]
        generalize kws[j] = p2 at ej
        obtain ⟨v2, ev2, rep2⟩ := rb.get ej
        obtain ⟨u2, eu2, ru2⟩ := KV.get rw' ev2
        obtain ⟨e2, ee2, hk2, hval2⟩ := pairs_get po2 eu2
        have hj2 : j < es2.size := by omega
        have ee2' : es2[j] = e2 := by
          have : es2.toList[j]? = some es2[j] := by simp [hj2]
          rw [this] at ee2; exact Option.some.inj ee2
        refine ⟨hj2, ?_⟩
        have vi2 : valD kws p.1 = some p2.2 := by rw [vi]; simp [ej]
        have hv : vEq kws p = eqD p.2 p2.2 := by unfold vEq; rw [vi2]
        rw [hri, hv, ee', ee2', hval, hval2]
        exact (both_at I n X.A.in1 p.2 p2.2 v v2 u u2 (by show X.A.units + 1 + n < cLine; omega) (pa p (List.mem_of_getElem? ek)) (pb p2 (List.mem_of_getElem? ej)) rep rep2 ru ru2).2
  have er : (es.size == es2.size && (List.range es.size).all r) = eqDK kvs kws := by
    unfold eqDK
    rw [l1, l2, ← range_all (vEq kws) kvs]
  have := rc_dicts (Q := Q) (E := E) ho ho2 xo xo2 do' do2 za zb ko2 r (by omega) hr
  rw [er] at this
  exact this
def rEqDV (K : PySem.W.Frag) (neg : Bool) : R2 := fun x y H Q => ∃ a b kvs kws kvs' kws', x = .ref a ∧ y = .ref b ∧ H a = some (.dK kvs') ∧ H b = some (.dK kws') ∧ RepK K H kvs kvs' ∧ RepK K H kws kws' ∧ (∀ p ∈ kvs, plainD 50 p.2 = true) ∧ (∀ p ∈ kws, plainD 50 p.2 = true) ∧ Q (.bl (neg != eqDK kvs kws)) H
theorem op_eqDK (hu : X.A.units + 64 < cLine) : OpR X (compareOp .Eq) (rEqDV X.K false) := by
  intro pins s σ H x y v u Q I rx ry h
  obtain ⟨a, b, kvs, kws, kvs', kws', rfl, rfl, h1, h2, h3, h4, h5, h6, q⟩ := h
  cases (show v = Value.ref a from rx); cases (show u = Value.ref b from ry)
  exact (both_dicts (n := 50) I h1 h2 h3 h4 h5 h6 (by omega)).1 ⟨.bl _, H, I, rfl, by simpa using q⟩
theorem op_neDK (hu : X.A.units + 64 < cLine) : OpR X (compareOp .NotEq) (rEqDV X.K true) := by
  intro pins s σ H x y v u Q I rx ry h
  obtain ⟨a, b, kvs, kws, kvs', kws', rfl, rfl, h1, h2, h3, h4, h5, h6, q⟩ := h
  cases (show v = Value.ref a from rx); cases (show u = Value.ref b from ry)
  exact (both_dicts (n := 50) I h1 h2 h3 h4 h5 h6 (by omega)).2 ⟨.bl _, H, I, rfl, by simpa using q⟩
def dEqDK (neg : Bool) (x y : D) (Q : D → Prop) : Prop := match x, y with
  | .dK kvs, .dK kws => (∀ p ∈ kvs, plainD 50 p.2 = true) ∧ (∀ p ∈ kws, plainD 50 p.2 = true) ∧ Q (.bl (neg != eqDK kvs kws))
  | _, _ => False
theorem lf_eqDK {K : PySem.W.Frag} {neg : Bool} : Lf2 K (rEqDV K neg) (dEqDK neg) := fun H0 σ δ G H x y dx dy Qd Q hs rx ry h k => by
  cases dx <;> cases dy <;> first | exact h.elim | skip
  rename_i kvs kws
  obtain ⟨a, kvs', rfl, h1, h2⟩ := rx
  obtain ⟨b, kws', rfl, h3, h4⟩ := ry
  exact ⟨a, b, kvs, kws, kvs', kws', rfl, rfl, h1, h3, RepK.mono hs.sub _ _ h2, RepK.mono hs.sub _ _ h4, h.1, h.2.1, k _ H G _ (Nx.refl hs) (by simp only [Rep]) h.2.2⟩
/-- a dict is equal to its copy -/
theorem eqDK_self {kvs : List (Key × D)} (nd : (kvs.map (·.1)).Nodup) (h : ∀ p ∈ kvs, plainD 50 p.2 = true) : eqDK kvs kvs = true := by
  unfold eqDK
  rw [beq_self_eq_true, Bool.true_and, List.all_eq_true]
  intro p hp
  have e : ∀ (l : List (Key × D)), (l.map (·.1)).Nodup → p ∈ l → valD l p.1 = some p.2 := by
    intro l
    induction l with
    | nil => intro _ z; exact nomatch z
    | cons x r ih =>
      intro nd hm
      rw [List.map_cons, List.nodup_cons] at nd
      rcases List.mem_cons.mp hm with rfl | hm
      · exact valD_pos rfl
      · rw [valD_neg (fun z => nd.1 (by rw [z]; exact List.mem_map_of_mem hm)), ih nd.2 hm]
  unfold vEq
  rw [e kvs nd hp]
  exact eqD_self 50 p.2 (h p hp)
theorem putD_nodup {κ : Type} [DecidableEq κ] {kvs : List (κ × D)} {k : κ} {d : D} (h : (kvs.map (·.1)).Nodup) : ((putD kvs k d).map (·.1)).Nodup := by
  unfold putD
  split
  · have e : (kvs.map fun kv => if kv.1 = k then (kv.1, d) else kv).map (·.1) = kvs.map (·.1) := by
      rw [List.map_map]
      apply List.map_congr_left
      intro p _
      simp only [Function.comp]
      split <;> rfl
    rw [e]; exact h
  · rename_i hn
    rw [List.map_append, List.nodup_append]
    refine ⟨h, by simp, ?_⟩
    intro a ha b hb e
    simp at hb
    subst e hb
    obtain ⟨p, hp, e⟩ := List.mem_map.mp ha
    exact hn (List.any_eq_true.mpr ⟨p, hp, by simpa using e⟩)
theorem putD_all {κ : Type} [DecidableEq κ] {kvs : List (κ × D)} {k : κ} {d : D} {P : D → Prop} (h : ∀ p ∈ kvs, P p.2) (hd : P d) : ∀ p ∈ putD kvs k d, P p.2 := by
  unfold putD
  split
  · intro p hp
    obtain ⟨q, hq, rfl⟩ := List.mem_map.mp hp
    split
    · exact hd
    · exact h q hq
  · intro p hp
    rcases List.mem_append.mp hp with hp | hp
    · exact h p hp
    · have : p = (k, d) := by simpa using hp
      rw [this]; exact hd
end
end M

set_option Elab.async false
set_option linter.all false
set_option maxRecDepth 100000
set_option maxHeartbeats 4000000
namespace M
open PySem PySem.Spec PyProof.Rows L2
/-! ### while -/
section
variable {X : Cx} {H0 : Hp} {c : Expr} {body : List Stmt} {tc : RT} {tb : RS} {pos : Pos}
def rWhile (c : RT) (tb : RS) (E : Ends2) (δ : List Sl) : Prop := ∃ W : Nat → List Sl → Prop, (∃ m, W m δ) ∧ ∀ m δ, W m δ → c δ fun b => Two b (tb { nx := fun δ2 => ∃ δ3, Fg δ2 δ3 ∧ ∃ m', m' < m ∧ W m' δ3, rt := E.rt, bk := E.nx, ct := fun δ2 => ∃ δ3, Fg δ2 δ3 ∧ ∃ m', m' < m ∧ W m' δ3 } δ) (E.nx δ)
theorem s_while (hp : PassesOwn (model X.prog X.w) X.A X.env X.xe) (hc : PT2 X H0 c tc) (hb : PSs2 X H0 body tb) : PS2 X H0 (.While c body [] pos) (rWhile tc tb) :=
  PS.weak (ps_while hp hc hb) fun D σ H ⟨δ, G, E, hs, ⟨W, ⟨m0, w0⟩, step⟩, go⟩ =>
    ⟨fun m σ' H' => ∃ δ' G', Hs X.K H0 σ' δ' G' H' ∧ Same G G' ∧ W m δ', ⟨m0, δ, G, hs, Same.refl _, w0⟩, fun m σ' H' ⟨δ', G', h', s', w⟩ => ⟨δ', G', _, h', step m δ' w, fun b H1 G1 n1 q1 => by
      cases b with
      | true =>
        rw [if_pos rfl]
        refine ⟨fun σ2 H2 => ∃ m', m' < m ∧ ∃ δ2 G2, Hs X.K H0 σ2 δ2 G2 H2 ∧ Same G G2 ∧ W m' δ2, fun σ2 H2 z => z, δ', G1, _, n1.hs, q1.yes rfl, ⟨fun σ3 H3 δ3 G3 h3 s3 ⟨δ4, f4, m', hm, w'⟩ => ⟨m', hm, δ4, G3, h3.forget f4, (s'.trans n1.g).trans s3, w'⟩, go.rt, fun σ3 H3 δ3 G3 h3 s3 q3 => go.nx σ3 H3 δ3 G3 h3 ((s'.trans n1.g).trans s3) q3,
          fun σ3 H3 δ3 G3 h3 s3 ⟨δ4, f4, m', hm, w'⟩ => ⟨m', hm, δ4, G3, h3.forget f4, (s'.trans n1.g).trans s3, w'⟩⟩⟩
      | false =>
        rw [if_neg Bool.false_ne_true]
        exact go.nx σ' H1 δ' G1 n1.hs (s'.trans n1.g) (q1.no rfl)⟩⟩
/-- by what holds, and a number that falls -/
theorem while_ind {E : Ends2} {δ : List Sl} (W : Nat → List Sl → Prop) (m : Nat) (h0 : W m δ)
    (step : ∀ m δ (L : List Sl → Prop), (∀ δ2 δ3 m', W m' δ3 → m' < m → Fg δ2 δ3 → L δ2) → W m δ → tc δ fun b => Two b (tb { nx := L, rt := E.rt, bk := E.nx, ct := L } δ) (E.nx δ)) : rWhile tc tb E δ :=
  ⟨W, ⟨m, h0⟩, fun m δ w => step m δ _ (fun δ2 δ3 m' w' hm f => ⟨δ3, f, m', hm, w'⟩) w⟩
end
/-! ### a dict or a list lent to a def: the last argument -/
abbrev Sp3 := List D → D → (D → D → Prop) → Prop
def liftSp3 (K : PySem.W.Frag) (sp : Sp3) : Sp := fun vs H Q _ => ∃ ws p G d ds Qd, vs = ws ++ [.ref p] ∧ G p = none ∧ (∀ b, b ≠ p → G b = H b) ∧ Own K G H p d ∧ Reps K G ds ws ∧ sp ds d Qd ∧
  ∀ v H' G' x d', Same G G' → G' p = none → (∀ b, b ≠ p → G' b = H' b) → Own K G' H' p d' → Rep K G' x v → Qd x d' → Q v H'
def start3 (N : List Str) (ds : List D) (p : Addr) (d : D) : List Sl := ds.map Sl.fr ++ .lk p d :: List.replicate (N.length - (ds.length + 1)) .un
section
variable {K : PySem.W.Frag} {H0 : Hp} {σ : L2.St} {δ : List Sl} {G H : Hp}
theorem start3_at {ds : List D} {ws : List V} {p : Addr} {d : D} (h : Reps K G ds ws) (n : Nat) (gp : G p = none) (ge : ∀ b, b ≠ p → G b = H b) (o : Own K G H p d) :
    Hs K G (ws.map some ++ some (.ref p) :: List.replicate n none) (ds.map Sl.fr ++ .lk p d :: List.replicate n .un) G H := by
  have hl : ds.length = ws.length := h.length
  have look : ∀ (i : Nat) l, (ds.map Sl.fr ++ .lk p d :: List.replicate n .un)[i]? = some l → (∃ e, l = .fr e ∧ ds[i]? = some e) ∨ (i = ds.length ∧ l = .lk p d) ∨ l = .un := by
    intro i l e
    rcases Nat.lt_trichotomy i ds.length with hi | hi | hi
    · rw [List.getElem?_append_left (by simpa using hi), List.getElem?_map] at e
      cases q : ds[i]? with
      | none => rw [q] at e; cases e
      | some d' => rw [q] at e; exact .inl ⟨d', (Option.some.inj e).symm, rfl⟩
    · subst hi
      rw [List.getElem?_append_right (by simp)] at e
      simp at e
      exact .inr (.inl ⟨rfl, e.symm⟩)
    · rw [List.getElem?_append_right (by simp; omega)] at e
      obtain ⟨k, hk⟩ : ∃ k, i - (ds.map Sl.fr).length = k + 1 := ⟨i - ds.length - 1, by simp; omega⟩
      rw [hk, List.getElem?_cons_succ] at e
      exact .inr (.inr (List.eq_of_mem_replicate (List.mem_of_getElem? e)))
  have atp : (ws.map some ++ some (.ref p) :: List.replicate n none)[ds.length]? = some (some (.ref p)) := by
    rw [List.getElem?_append_right (by simp [hl])]; simp [hl]
  have ati : ∀ i b, At (ws.map some ++ some (.ref p) :: List.replicate n none) (ds.map Sl.fr ++ .lk p d :: List.replicate n .un) i b ↔ i = ds.length ∧ b = p := by
    intro i b
    constructor
    · rintro ⟨l, e1, e2, e3⟩
      rcases look i l e1 with ⟨e, rfl, _⟩ | ⟨rfl, rfl⟩ | rfl
      · exact e2.elim
      · rw [atp] at e3; cases e3; exact ⟨rfl, rfl⟩
      · exact e2.elim
    · rintro ⟨rfl, rfl⟩
      refine ⟨.lk b d, ?_, True.intro, atp⟩
      rw [List.getElem?_append_right (by simp)]; simp
  refine ⟨by simp [hl], Same.refl _, fun b => ?_, fun i d' e => ?_, fun i d' e => ?_, fun i q d' e => ?_, fun i j b a1 a2 => ?_⟩
  · by_cases hb : b = p
    · subst hb; exact .inr ⟨gp, _, (ati _ b).mpr ⟨rfl, rfl⟩⟩
    · exact .inl ⟨ge b hb, fun i a => hb ((ati i b).mp a).2⟩
  · rcases look i _ e with ⟨e', z, q⟩ | ⟨_, z⟩ | z
    · cases z
      obtain ⟨v, e1, r⟩ := h.get q
      refine ⟨v, ?_, r⟩
      have hi : i < ws.length := (List.getElem?_eq_some_iff.mp e1).1
      rw [List.getElem?_append_left (by simpa using hi), List.getElem?_map, e1]; rfl
    · cases z
    · cases z
  · rcases look i _ e with ⟨e', z, q⟩ | ⟨_, z⟩ | z <;> cases z
  · rcases look i _ e with ⟨e', z, _⟩ | ⟨hi, z⟩ | z
    · cases z
    · cases z; subst hi; exact ⟨atp, o⟩
    · cases z
  · rw [((ati i b).mp a1).1, ((ati j b).mp a2).1]
/-- at the end: all but what is lent is fixed -/
theorem Hs.close {j : Nat} {p : Addr} {d : D} (h : Hs K H0 σ δ G H) (e : δ[j]? = some (.lk p d)) : ∃ G', Same G G' ∧ Same H0 G' ∧ G' p = none ∧ (∀ b, b ≠ p → G' b = H b) ∧ Own K G' H p d := by
  obtain ⟨e1, o⟩ := h.lk j p d e
  have gp : G p = none := by
    rcases h.ex p with ⟨_, z⟩ | ⟨z, _⟩
    · exact absurd ⟨_, e, True.intro, e1⟩ (z j)
    · exact z
  have s1 : Same G (fun b => if b = p then none else H b) := fun b u q => by
    have hb : b ≠ p := ne_of_none q gp
    show (if b = p then none else H b) = some u
    rw [if_neg hb]; exact h.sub b u q
  exact ⟨_, s1, h.base.trans s1, if_pos rfl, fun b hb => if_neg hb, o.mono s1 rfl⟩
end
section
variable {P : Program} {w : World} {K : PySem.W.Frag} {mg : Str → Option Value} {base : Heap}
theorem fun3_ok {x qual : Str} {st : Stmt} {f : Addr} {fd : FuncData} {N ps : List Str} {k : Nat} {sp : Sp3} (F : Fun K x qual st f fd) (S : FnScope N ps (defScope st)) (len : ∀ ds d Qd, sp ds d Qd → ds.length + 1 = ps.length)
    (hbody : ∀ (cdv : Value) (A : Around) (outer : List Env) (s : Shared) (H G : Hp) (E : XK) (p : Addr), Room k (A.deeper (envOfC qual (defScope st) s.heap.objs.size f cdv)) → ∀ ds d Qd, sp ds d Qd →
      ∃ t, PSs2 (cxOf CX0 P w K mg base N qual (defScope st) f cdv A outer s H E).nox G (defBody st) t ∧
        t { nx := fun δ => ∃ d', δ[ds.length]? = some (.lk p d') ∧ Qd .non d', rt := fun r δ => ∃ x d', r = .val x ∧ δ[ds.length]? = some (.lk p d') ∧ Qd x d' } (start3 N ds p d)) : FnOk P w K mg base CX0 (k + 1) f fd ps (liftSp3 K sp) := by
  refine F.ok S (fun vs H Q E h => ?_) (fun cdv A outer s H vs Q E hr h => ?_)
  · obtain ⟨ws, p, G, d, ds, Qd, rfl, _, _, _, r, h1, _⟩ := h
    rw [List.length_append, ← r.length]; exact len ds d Qd h1
  · obtain ⟨ws, p, G, d, ds, Qd, rfl, gp, ge, o, r, h1, h2⟩ := h
    obtain ⟨t, ht, q⟩ := hbody cdv A outer s H G E p hr ds d Qd h1
    refine ⟨_, ht, start3 N ds p d, G, _, ?_, q, ⟨fun σ' H' δ' G' hs _ ⟨d', e, q⟩ => ?_, fun v H' r' δ' ok ⟨x, d', er, e, q⟩ => ?_, fun _ _ _ _ _ _ z => z.elim, fun _ _ _ _ _ _ z => z.elim⟩⟩
    · have e := start3_at r (N.length - (ds.length + 1)) gp ge o
      show Hs K G ((ws ++ [V.ref p]).map some ++ List.replicate (N.length - (ws ++ [V.ref p]).length) none) _ G H
      have e1 : (ws ++ [V.ref p]).length = ds.length + 1 := by rw [List.length_append, ← r.length]; rfl
      rw [e1, List.map_append, List.append_assoc]
      exact e
    · obtain ⟨G2, s1, s0, g0, g1, o1⟩ := hs.close e
      exact h2 _ H' G2 .non d' s0 g0 g1 o1 (by simp only [Rep]) q
    · subst er
      obtain ⟨σ', G', hs, rr⟩ := ok
      obtain ⟨G2, s1, s0, g0, g1, o1⟩ := hs.close e
      exact h2 v H' G2 x d' s0 g0 g1 o1 (Rep.mono s1 _ _ rr) q
end
/-! ### .. and called -/
section
variable {X : Cx} {H0 : Hp} {pins : List (Addr × Obj)} {σ : L2.St} {δ : List Sl} {G H : Hp} {s : Shared}
theorem Hs.lend {i : Nat} {l : Sl} {p : Addr} {d : D} (h : Hs X.K H0 σ δ G H) (e : δ[i]? = some l) (hm : l.mine) (e1 : σ[i]? = some (some (.ref p))) (o : Own X.K G H p d) :
    G p = none ∧ ∃ Gf, Hs X.K H0 σ (δ.set i (.fr d)) Gf H ∧ (∀ b, b ≠ p → Gf b = G b) ∧ Gf p = H p ∧ Same G Gf := by
  have ai : At σ δ i p := ⟨_, e, hm, e1⟩
  have hi : i < δ.length := ai.lt
  obtain ⟨ob, eo, _⟩ := o.soft
  have gp : G p = none := by
    rcases h.ex p with ⟨_, z⟩ | ⟨z, _⟩
    · exact absurd ai (z i)
    · exact z
  have s1 : Same G (upd G p ob) := fun b u q => by rw [upd_ne (ne_of_none q gp)]; exact q
  have r : Rep X.K (upd G p ob) d (.ref p) := o.rep s1 (by rw [upd_same, eo])
  refine ⟨gp, upd G p ob, ⟨by rw [List.length_set]; exact h.len, h.base.trans s1, fun b => ?_, fun j d' q => ?_, fun j d' q => ?_, fun j q' es q => ?_, fun j k b a1 a2 => ?_⟩, fun b hb => upd_ne hb, by rw [upd_same, eo], s1⟩
  · by_cases hb : b = p
    · subst hb
      refine .inl ⟨by rw [upd_same, eo], fun j a => ?_⟩
      by_cases hj : j = i
      · subst hj; exact at_selfD a
      · exact hj (h.ne _ _ _ ((at_setD hj).mp a) ai)
    · rcases h.ex b with ⟨z1, z2⟩ | ⟨z1, j, z2⟩
      · refine .inl ⟨by rw [upd_ne hb]; exact z1, fun j a => ?_⟩
        by_cases hj : j = i
        · subst hj; exact at_selfD a
        · exact z2 j ((at_setD hj).mp a)
      · have hj : j ≠ i := fun z => hb (by
          subst z
          obtain ⟨_, _, _, w⟩ := z2
          rw [e1] at w; cases w; rfl)
        exact .inr ⟨by rw [upd_ne hb]; exact z1, j, (at_setD hj).mpr z2⟩
  · by_cases hj : j = i
    · subst hj
      rw [List.getElem?_set_self hi] at q
      cases q
      exact ⟨_, e1, r⟩
    · rw [List.getElem?_set_ne (Ne.symm hj)] at q
      obtain ⟨v, w1, w2⟩ := h.fr j d' q
      exact ⟨v, w1, Rep.mono s1 _ _ w2⟩
  · by_cases hj : j = i
    · subst hj
      rw [List.getElem?_set_self hi] at q
      cases q
    · rw [List.getElem?_set_ne (Ne.symm hj)] at q
      obtain ⟨v, w1, w2⟩ := h.ow j d' q
      exact ⟨v, w1, w2.mono s1 rfl⟩
  · by_cases hj : j = i
    · subst hj
      rw [List.getElem?_set_self hi] at q
      cases q
    · rw [List.getElem?_set_ne (Ne.symm hj)] at q
      obtain ⟨w1, w2⟩ := h.lk j q' es q
      exact ⟨w1, w2.mono s1 rfl⟩
  · have hj : j ≠ i := fun z => by subst z; exact at_selfD a1
    have hk : k ≠ i := fun z => by subst z; exact at_selfD a2
    exact h.ne j k b ((at_setD hj).mp a1) ((at_setD hk).mp a2)
/-- what was lent is one's own again -/
theorem Hs.back {i : Nat} {l l' : Sl} {p : Addr} {d d' : D} {G1 G2 : Hp} (h : Hs X.K H0 σ δ G H) (e : δ[i]? = some l) (hm : l.mine) (e1 : σ[i]? = some (some (.ref p)))
    (hl' : l' = .ow d' ∨ l' = .lk p d') (own1 : ∀ j b, At σ (δ.set i (.fr d)) j b → G1 b = none) (s2 : Same G G2) (gp : G2 p = none) (ge : ∀ b, b ≠ p → G2 b = G1 b) (o : Own X.K G2 G1 p d') :
    Hs X.K H0 σ (δ.set i l') G2 (mix σ (δ.set i (.fr d)) H G1) := by
  have ai : At σ δ i p := ⟨_, e, hm, e1⟩
  have hi : i < δ.length := ai.lt
  have hm' : l'.mine := by rcases hl' with rfl | rfl <;> exact True.intro
  have atf : ∀ j b, At σ (δ.set i (.fr d)) j b ↔ j ≠ i ∧ At σ δ j b := fun j b => by
    by_cases hj : j = i
    · subst hj; exact ⟨(fun a => (at_selfD a).elim), (fun z => absurd rfl z.1)⟩
    · rw [at_setD hj]; exact ⟨(fun a => ⟨hj, a⟩), (fun z => z.2)⟩
  have atn : ∀ j b, At σ (δ.set i l') j b ↔ At σ δ j b := fun j b => by
    by_cases hj : j = i
    · subst hj
      constructor
      · rintro ⟨_, _, _, z⟩; exact ⟨_, e, hm, z⟩
      · rintro ⟨_, _, _, z⟩; exact ⟨_, List.getElem?_set_self hi, hm', z⟩
    · exact at_setD hj
  have atp : ∀ j, At σ δ j p → j = i := fun j a => h.ne _ _ _ a ai
  have np : ∀ j, ¬ At σ (δ.set i (.fr d)) j p := fun j a => ((atf j p).mp a).1 (atp j ((atf j p).mp a).2)
  have mp : mix σ (δ.set i (.fr d)) H G1 p = G1 p := mix_not np
  refine ⟨by rw [List.length_set]; exact h.len, h.base.trans s2, fun b => ?_, fun j d2 q => ?_, fun j d2 q => ?_, fun j q' d2 q => ?_, fun j k b a1 a2 => h.ne j k b ((atn j b).mp a1) ((atn k b).mp a2)⟩
  · by_cases hb : b = p
    · subst hb; exact .inr ⟨gp, i, (atn i b).mpr ai⟩
    · by_cases ha : ∃ j, At σ (δ.set i (.fr d)) j b
      · obtain ⟨j, a⟩ := ha
        exact .inr ⟨by rw [ge b hb]; exact own1 j b a, j, (atn j b).mpr ((atf j b).mp a).2⟩
      · have na : ∀ j, ¬ At σ (δ.set i (.fr d)) j b := fun j z => ha ⟨j, z⟩
        refine .inl ⟨by rw [mix_not na]; exact ge b hb, fun j a => ?_⟩
        have a' := (atn j b).mp a
        by_cases hj : j = i
        · subst hj
          obtain ⟨_, _, _, z⟩ := a'
          rw [e1] at z; cases z; exact hb rfl
        · exact na j ((atf j b).mpr ⟨hj, a'⟩)
  · by_cases hj : j = i
    · subst hj; rw [List.getElem?_set_self hi] at q; rcases hl' with rfl | rfl <;> cases q
    · rw [List.getElem?_set_ne (Ne.symm hj)] at q
      obtain ⟨v, w1, w2⟩ := h.fr j d2 q
      exact ⟨v, w1, Rep.mono s2 _ _ w2⟩
  · by_cases hj : j = i
    · subst hj; rw [List.getElem?_set_self hi] at q
      rcases hl' with rfl | rfl
      · cases q; exact ⟨p, e1, o.mono (Same.refl _) mp⟩
      · cases q
    · rw [List.getElem?_set_ne (Ne.symm hj)] at q
      obtain ⟨b, w1, w2⟩ := h.ow j d2 q
      exact ⟨b, w1, w2.mono s2 (mix_own ((atf j b).mpr ⟨hj, ⟨_, q, True.intro, w1⟩⟩))⟩
  · by_cases hj : j = i
    · subst hj; rw [List.getElem?_set_self hi] at q
      rcases hl' with rfl | rfl
      · cases q
      · cases q; exact ⟨e1, o.mono (Same.refl _) mp⟩
    · rw [List.getElem?_set_ne (Ne.symm hj)] at q
      obtain ⟨w1, w2⟩ := h.lk j q' d2 q
      exact ⟨w1, w2.mono s2 (mix_own ((atf j q').mpr ⟨hj, ⟨_, q, True.intro, w1⟩⟩))⟩
end
end M

set_option Elab.async false
set_option linter.all false
set_option maxRecDepth 100000
set_option maxHeartbeats 4000000
namespace M
open PySem PySem.Spec PyProof.Rows L2
structure Fn3 (P : Program) (w : World) (K : PySem.W.Frag) (mg : Str → Option Value) (base : Heap) (k : Nat) (x : Str) (sp : Sp3) : Prop where
  ex : ∃ (f : Addr) (fd : FuncData) (ps : List Str), FnOk P w K mg base CX0 k f fd ps (liftSp3 K sp) ∧ mg x = some (.ref f) ∧ PySem.W.keepIn K (.ref f) = true ∧ Binds K fd ps []
/-- the arguments, the last of them lent -/
def liftAL (K : PySem.W.Frag) (H0 : Hp) (i : Nat) (tr : RA) : TA := fun σ H Q => ∃ δ G Qd a, Hs K H0 σ δ G H ∧ σ[i]? = some (some (.ref a)) ∧ tr δ Qd ∧ ∀ ws H' G' ds, Nx K H0 σ δ G H G' H' → Reps K G' ds ws → Qd ds → Q (ws ++ [.ref a]) H'
def PAL (X : Cx) (H0 : Hp) (i : Nat) (es : List Expr) (tr : RA) : Prop := PA X es (liftAL X.K H0 i tr)
section
variable {X : Cx} {H0 : Hp} {k : Nat} {x : Str} {sp : Sp3} {e : Expr} {es : List Expr} {t : RE} {tr : RA} {p pos : Pos} {i : Nat}
theorem al_nil (i : Nat) (hN : X.N[i]? = some x := by rfl) (hv : Vis X.env.scope x := by first | exact Or.inl rfl | exact Or.inr (Or.inl rfl) | exact Or.inr (Or.inr rfl)) (hd : (x == ("__debug__" : Str)) = false := by decide)
    (hcd : (x == ("__classdict__" : Str)) = false := by decide) (hs : starEach [.Name x p] X.env = (false, eval (.Name x p) X.env) :: starEach [] X.env := by rfl) : PAL X H0 i [.Name x p] rNil :=
  PA.weak (pa_cons (pe_var hN hv hd hcd) pa_nil hs) fun σ H Q ⟨δ, G, Qd, a, hs, e1, ht, k⟩ => ⟨_, e1, k [] H G [] (Nx.refl hs) Reps.nil ht⟩
theorem al_cons (ha : PE2 X H0 e t) (hr : PAL X H0 i es tr) (hs : starEach (e :: es) X.env = (false, eval e X.env) :: starEach es X.env := by rfl) : PAL X H0 i (e :: es) (rCons t tr) :=
  PA.weak (pa_cons ha hr hs) fun σ H Q ⟨δ, G, Qd, a, hs, e1, ht, k⟩ => ⟨δ, G, _, hs, ht, fun v H1 G1 d n1 r1 q1 => ⟨δ, G1, _, a, n1.hs, e1, q1, fun vs H2 G2 ds n2 r2 q2 => k (v :: vs) H2 G2 (d :: ds) (n1.trans n2) (Reps.cons (Rep.mono n2.g _ _ r1) r2) q2⟩⟩
/-- the call's reading: its value, and the slots behind it -/
def rLend (i : Nat) (sp : Sp3) (tr : RA) (δ : List Sl) (Q : D → List Sl → Prop) : Prop := match δ[i]? with
  | some (.ow d) => tr δ fun ds => sp ds d fun x d' => Q x (δ.set i (.ow d'))
  | some (.lk q d) => tr δ fun ds => sp ds d fun x d' => Q x (δ.set i (.lk q d'))
  | _ => False
def liftL (K : PySem.W.Frag) (H0 : Hp) (t : List Sl → (D → List Sl → Prop) → Prop) : TE := fun σ H Q => ∃ δ G Qd, Hs K H0 σ δ G H ∧ t δ Qd ∧ ∀ v H' δ' G' x, Hs K H0 σ δ' G' H' → Same G G' → Rep K G' x v → Qd x δ' → Q v H'
theorem rLend_of {δ : List Sl} {Qd : D → List Sl → Prop} (h : rLend i sp tr δ Qd) : ∃ l d, δ[i]? = some l ∧ ((l = .ow d ∧ tr δ fun ds => sp ds d fun x d' => Qd x (δ.set i (.ow d'))) ∨ ∃ q, l = .lk q d ∧ tr δ fun ds => sp ds d fun x d' => Qd x (δ.set i (.lk q d'))) := by
  unfold rLend at h
  split at h
  · rename_i d e; exact ⟨_, d, e, .inl ⟨rfl, h⟩⟩
  · rename_i q d e; exact ⟨_, d, e, .inr ⟨q, rfl, h⟩⟩
  · exact h.elim
theorem pe_lend (F : Fn3 X.prog X.w X.K X.mg X.base k x sp) (hr : Room k X.A) (ha : PAL X H0 i (e :: es) tr) (hg : Gl X x := by rfl) (hdb : (x == ("__debug__" : Str)) = false := by decide)
    (he : starEach (e :: es) X.env = (false, eval e X.env) :: starEach es X.env := by rfl) (hpl : (backTo pos (starEach es X.env)).any (·.1) = false := by rfl) : PE X (.Call (.Name x p) (e :: es) [] pos) (liftL X.K H0 (rLend i sp tr)) := by
  obtain ⟨f, fd, ps, F, hm, hk, hb⟩ := F.ex
  intro pins s σ H Q I ⟨δ, G, Qd, hs, ht, kk⟩
  refine wpAny_Call_Name_kw (ld_glob I hg hm ?_ hdb)
  obtain ⟨l, d, el, hl⟩ := rLend_of ht
  -- the slot: where it lies, how it goes back
  obtain ⟨p0, e1, hmine, new, hnew, ht⟩ : ∃ p0, σ[i]? = some (some (.ref p0)) ∧ l.mine ∧ ∃ new : D → Sl, (∀ d', new d' = .ow d' ∨ new d' = .lk p0 d') ∧ tr δ fun ds => sp ds d fun x d' => Qd x (δ.set i (new d')) := by
    rcases hl with ⟨rfl, h⟩ | ⟨q, rfl, h⟩
    · obtain ⟨p0, e1, _⟩ := hs.ow i d el
      exact ⟨p0, e1, True.intro, fun d' => .ow d', fun _ => .inl rfl, h⟩
    · obtain ⟨e1, _⟩ := hs.lk i q d el
      exact ⟨q, e1, True.intro, fun d' => .lk q d', fun _ => .inr rfl, h⟩
  have own : ∀ {G' H' : Hp}, Hs X.K H0 σ δ G' H' → Own X.K G' H' p0 d := fun {G' H'} hs' => by
    rcases hl with ⟨rfl, _⟩ | ⟨q, rfl, _⟩
    · obtain ⟨p1, e2, o⟩ := hs'.ow i d el
      rw [e1] at e2; cases e2; exact o
    · obtain ⟨e2, o⟩ := hs'.lk i q d el
      rw [e1] at e2; cases e2; exact o
  have hA : liftAL X.K H0 i tr σ H (fun vs H' => ∃ ws G' ds, vs = ws ++ [.ref p0] ∧ Nx X.K H0 σ δ G H G' H' ∧ Reps X.K G' ds ws ∧ sp ds d fun x d' => Qd x (δ.set i (new d'))) := ⟨δ, G, _, p0, hs, e1, ht, fun ws H' G' ds n r q => ⟨ws, G', ds, rfl, n, r, q⟩⟩
  refine PySem.W.callWith_K (h₀ := X.base) I.ok.mod.kin hk (thn (ha pos pins s σ H _ I hA) fun us s1 ⟨vs, H1, I1, r, ws, G1, ds, ev, n, rd, q⟩ => ⟨I1.kIn, ?_⟩) he hpl
  subst ev
  obtain ⟨gp, Gf, hf, gne, gpe, sf⟩ := n.hs.lend el hmine e1 (own n.hs)
  have hh : liftSp3 X.K sp (ws ++ [.ref p0]) Gf (fun v Gl => ∃ G2 x d', Same G1 G2 ∧ G2 p0 = none ∧ (∀ b, b ≠ p0 → G2 b = Gl b) ∧ Own X.K G2 Gl p0 d' ∧ Rep X.K G2 x v ∧ Qd x (δ.set i (new d'))) E0 :=
    ⟨ws, p0, G1, d, ds, _, rfl, gp, fun b hb => (gne b hb).symm, (own n.hs).mono (Same.refl _) gpe, rd, q, fun v H' G' x d' h1 h2 h3 h4 h5 h6 => ⟨G', x, d', h1, h2, h3, h4, h5, h6⟩⟩
  have hlen : us.length = ps.length := by rw [← r.length]; exact F.len _ _ _ _ hh
  have hbt : BindsTo s1 fd ⟨us, []⟩ (ps.zip us) := by simpa using hb s1 us I1.kIn (by simpa using hlen)
  refine wpAny_call (codeAny_mono (F.run X.A X.stack s1 Gf ⟨us, []⟩ us _ _ E0 hr (hf.env0 I1) hbt r hh) fun r s' hq => ?_)
  cases r with
  | error e => exact False.elim hq
  | ok fl =>
    cases fl with
    | ret u =>
      obtain ⟨v, Gl, I2, rv, ⟨G2, x2, d', h1, h2, h3, h4, h5, h6⟩, own1⟩ := hf.behind I1 hq
      have hb2 := n.hs.back (l' := new d') (d := d) el hmine e1 (hnew d') own1 h1 h2 h3 h4
      exact ⟨v, _, I2, rv, kk v _ _ G2 x2 hb2 (n.g.trans h1) h5 h6⟩
    | next => exact False.elim hq
    | brk => exact False.elim hq
    | cont => exact False.elim hq
variable {tg : Expr} {g : RG}
/-- target = f(.., lent) -/
def rAsgL (i : Nat) (sp : Sp3) (tr : RA) (g : RG) (E : Ends2) (δ : List Sl) : Prop := rLend i sp tr δ fun x δ' => g x δ' E.nx
theorem s_asgL (F : Fn3 X.prog X.w X.K X.mg X.base k x sp) (hr : Room k X.A) (ha : PAL X H0 i (e :: es) tr) (hgt : PG2 X H0 tg g) (hg : Gl X x := by rfl) (hdb : (x == ("__debug__" : Str)) = false := by decide)
    (he : starEach (e :: es) X.env = (false, eval e X.env) :: starEach es X.env := by rfl) (hpl : (backTo p (starEach es X.env)).any (·.1) = false := by rfl) {p2 : Pos}
    (hs : swapsWithSole [tg] (.Call (.Name x p2) (e :: es) [] p) pos.line X.env = pure false := by rfl) (hw : swappedStores [tg] (.Call (.Name x p2) (e :: es) [] p) X.env = pure none := by rfl)
    (h1 : (assignEach [tg] X.env).map (·.2) = [assign tg X.env] := by rfl) : PS2 X H0 (.Assign [tg] (.Call (.Name x p2) (e :: es) [] p) pos) (rAsgL i sp tr g) :=
  PS.weak (ps_asg (pe_lend F hr ha hg hdb he hpl) hgt hs hw h1) fun D σ H ⟨δ, G, E, hs, ht, go⟩ => ⟨δ, G, _, hs, ht, fun v H1 δ1 G1 x h1 s1 r1 q1 => ⟨δ1, G1, x, E.nx, h1, r1, q1, fun σ' H' δ' G' h' s' q => go.nx σ' H' δ' G' h' (s1.trans s') q⟩⟩
end
end M

set_option Elab.async false
set_option linter.all false
set_option maxRecDepth 100000
set_option maxHeartbeats 4000000
namespace M
open PySem PySem.Spec PyProof.Rows L2
theorem perm_map_inv {α β : Type} (f : α → β) {xs ys : List β} (h : xs.Perm ys) : ∀ L : List α, ys = L.map f → ∃ L' : List α, L'.Perm L ∧ xs = L'.map f := by
  induction h with
  | nil => intro L e; cases L with
    | nil => exact ⟨[], .refl _, rfl⟩
    | cons a L => cases e
  | cons x _ ih =>
    intro L e
    cases L with
    | nil => cases e
    | cons a L =>
      cases e
      obtain ⟨L', p, rfl⟩ := ih L rfl
      exact ⟨a :: L', p.cons a, rfl⟩
  | swap x y l =>
    intro L e
    cases L with
    | nil => cases e
    | cons a L =>
      cases L with
      | nil => cases e
      | cons b L => cases e; exact ⟨b :: a :: L, .swap _ _ _, rfl⟩
  | trans _ _ ih1 ih2 =>
    intro L e
    obtain ⟨L2, p2, e2⟩ := ih2 L e
    obtain ⟨L1, p1, e1⟩ := ih1 L2 e2
    exact ⟨L1, p1.trans p2, e1⟩
section
variable {X : Cx} {pins : List (Addr × Obj)} {σ : L2.St} {H : Hp} {s : Shared} {h' : Heap}
/-- an object that was not tracked is written and tracked from here on -/
theorem Inv.track {a : Addr} {o : HO} {t' : Nat} (I : L2.Inv X pins σ H s) (f : FpOk X pins H a) (k : ∀ b u, b ≠ a → s.heap.get? b = some u → h'.get? b = some u)
    (new : ObjOk X.prog X.w (upd H a o) h' a o) : L2.Inv X pins σ (upd H a o) { s with heap := h', toks := t' } := by
  obtain ⟨f0, f1, f2, f3, f4, f5⟩ := f
  have na : ∀ b u, H b = some u → b ≠ a := fun b u e z => by rw [z, f0] at e; cases e
  refine I.step (g' := s.gens) (d' := s.drawn) (ch := [a]) (fun b hb => ?_) (fun b o _ _ hc e _ => k b o (fun z => hc (by simp [z])) e) (fun b o _ _ hc e _ => ⟨o.slots, k b o (fun z => hc (by simp [z])) e⟩) (fun b o hc e n => ?_)
    (fun b o hc e => ⟨o, k b o (fun z => hc (by simp [z])) e⟩) (fun b xs e => ?_) (fun b o u e => ?_) (fun b ps e => ⟨#[], ?_⟩) (fun m hm => ?_) (fun b u e => ?_) I.bare
  · have e : b = a := by simpa using hb
    subst e
    exact ⟨f3, f1, f4, f5⟩
  · rw [upd_ne (fun z => hc (by simp [z]))]; exact n
  · rw [upd_ne (na b _ e)]; exact e
  · rw [upd_ne (na b _ e)]; exact e
  · rw [upd_ne (na b _ e), e]; simp
  · obtain ⟨o, es, ep, ho, r⟩ := hm
    exact ⟨o, es, ep, k _ o f1.symm ho, r⟩
  · by_cases hb : b = a
    · subst hb
      rw [upd_same] at e; cases e
      exact new
    · rw [upd_ne hb] at e
      refine (I.hok b u e).stay (fun c v hc z => ?_) (fun c z => ?_) (fun c ys z => ?_)
      · rcases hc with y | y
        · rw [y] at z ⊢; exact k b v hb z
        · exact k c v (na c _ y) z
      · rw [upd_ne (na _ _ z)]; exact z
      · rw [upd_ne (na _ _ z)]; exact z
/-- the key of one item -/
theorem key_call {k : Nat} {f : Addr} {fd : FuncData} {ps : List Str} {sp : Sp2} {d : D} {v : V} {u : Value} {Qd : Ret → Prop} {E : Value → Shared → Prop} (F : FnOk X.prog X.w X.K X.mg X.base CX0 k f fd ps (liftSp X.K sp)) (hr : Room (k + 2) X.A) (hb : Binds X.K fd ps [])
    (I : L2.Inv X pins σ H s) (rd : Rep X.K H d v) (ru : L2.RelV v u) (h : sp [d] Qd) :
    wpAny (model X.prog X.w) X.A.in1.in1 (call (.ref f) [u]) (fun ku s' => ∃ v' H' r, L2.Inv X pins σ H' s' ∧ L2.RelV v' ku ∧ RetOk X.K H H' v' r ∧ Qd r) E s := by
  have hh : liftSp X.K sp [v] H (fun v' H' => ∃ r, RetOk X.K H H' v' r ∧ Qd r) E0 := ⟨[d], Qd, Reps.cons rd Reps.nil, h, fun v H' r ok q => ⟨r, ok, q⟩⟩
  have hl : [u].length = ps.length := by
    have := F.len _ _ _ _ hh
    simpa using this
  have hbt : BindsTo s fd ⟨[u], []⟩ (ps.zip [u]) := by simpa using hb s [u] I.kIn (by simpa using hl)
  refine wpAny_call (codeAny_mono (F.run X.A.in1.in1 X.stack s H ⟨[u], []⟩ [u] [v] _ E0 hr.in1.in1 I.env0.in1.in1 hbt (.cons ru .nil) hh) fun r s' hq => ?_)
  cases r with
  | error e => exact False.elim hq
  | ok fl =>
    cases fl with
    | ret u' =>
      obtain ⟨v', H', I', rv, r, ok, q⟩ := I.after hq
      exact ⟨v', H', r, I', rv, ok, q⟩
    | next => exact False.elim hq
    | brk => exact False.elim hq
    | cont => exact False.elim hq
/-- all but the untracked b is as it was -/
theorem pin_swap {b : Addr} {o o' : Obj} {t' : Nat} (I : L2.Inv X ((b, o) :: pins) σ H s) (hex : b ∈ X.ex ∨ X.s₀.heap.objs.size ≤ b) (hc : ∀ x c, X.env.cells.lookup x = some c → c ≠ b) (hp : ∀ p ∈ X.pn ++ pins, p.1 ≠ b)
    (k : ∀ c u, c ≠ b → s.heap.get? c = some u → h'.get? c = some u) (nb : h'.get? b = some o') (nc : ∀ v, o'.data ≠ .cell v) : L2.Inv X ((b, o') :: pins) σ H { s with heap := h', toks := t' } := by
  obtain ⟨p1, p2, p3, p4, p5⟩ := I.pin (b, o) (List.mem_append_right _ (.head _))
  have I0 : L2.Inv X pins σ H s := I.pins_of fun p hp => I.pin p (List.mem_append_right _ (.tail _ hp))
  have I1 := I0.turned (h' := h') (t' := t') (it := b) k p2 p3 hex hc hp
  refine I1.pins_of fun p hp' => ?_
  rcases List.mem_cons.mp hp' with rfl | hp'
  · exact ⟨nb, p2, p3, p4, nc⟩
  · exact I1.pin p (List.mem_append_right _ hp')
end
end M

set_option Elab.async false
set_option linter.all false
set_option maxRecDepth 100000
set_option maxHeartbeats 4000000
namespace M
open PySem PySem.Spec PyProof.Rows L2
/-- an address that no one else speaks of -/
structure Out (X : Cx) (pins : List (Addr × Obj)) (b : Addr) : Prop where
  l : b ≠ X.env.locals
  f : b ∉ X.fs
  x : b ∈ X.ex ∨ X.s₀.heap.objs.size ≤ b
  c : ∀ x c, X.env.cells.lookup x = some c → c ≠ b
  p : ∀ p ∈ X.pn ++ pins, p.1 ≠ b
theorem Out.fp {X : Cx} {pins : List (Addr × Obj)} {b : Addr} {H : Hp} (o : Out X pins b) (h : H b = none) : FpOk X pins H b := ⟨h, o.l, o.f, o.x, o.c, o.p⟩
theorem out_of {X : Cx} {pins : List (Addr × Obj)} {σ : L2.St} {H : Hp} {s : Shared} {b : Addr} (I : L2.Inv X pins σ H s) (hb : s.heap.objs.size ≤ b) : Out X pins b := by
  obtain ⟨_, a1, a2, a3, a4, a5⟩ := I.fpOk (H' := fun _ => none) hb rfl
  exact ⟨a1, a2, a3, a4, a5⟩
/-- what the sorting itself brings -/
def Sorts (prog : Program) (w : World) (A : Around) (s : Shared) (keys items : Array Value) (R : Array Keyed → Prop) : Prop :=
  ∀ (E : Value → Shared → Prop) (Q : Unit × SortSt → Shared → Prop), (∀ (st : SortSt) (tk : Nat), (arrOf st).Perm (keys.zip items) → failedOf st = none → R (arrOf st) → Q ((), st) { s with toks := tk }) →
    wpAny (model prog w) A (if items.size < 2 then pure general' else keyKind' keys) (fun kind s1 => wpAny (model prog w) A ((if items.size < 2 then pure () else sortRuns').run (SortSt.mk' kind (keys.zip items) #[] 7 none)) Q E s1) E s
theorem sorts_small {prog : Program} {w : World} {A : Around} {s : Shared} {keys items : Array Value} (h : items.size < 2) : Sorts prog w A s keys items fun _ => True := fun E Q k => by
  rw [if_pos h]
  refine wpAny_pure ?_
  rw [if_pos h, StateT.run_pure]
  exact wpAny_pure (k (SortSt.mk' general' (keys.zip items) #[] 7 none) s.toks (Array.Perm.refl _) rfl trivial)
section
variable {X : Cx} {pins : List (Addr × Obj)} {σ : L2.St} {H : Hp} {s : Shared} {A : Around} {E : Value → Shared → Prop} {P : PySem.Fin → Shared → Prop} {kS a : Addr} {kA : Array Value} {e e1 : Nat}
theorem cell_no {T : String} {xs : Array Value} {n : Nat} : ∀ v, (seqObj T xs n).data ≠ .cell v := fun v z => by cases z
theorem sort_tail {st : SortSt} (I : L2.Inv X ((kS, seqObj "list" kA e) :: (a, seqObj "list" #[] e1) :: pins) σ H s) (oK : Out X ((a, seqObj "list" #[] e1) :: pins) kS) (oD : Out X pins a) (hk : kA.size ≤ sizeLine) (ha : (arrOf st).size ≤ sizeLine) (hf : failedOf st = none)
    (h : ∀ h' tk c, L2.Inv X pins σ H { s with heap := h', toks := tk } → h'.get? a = some (seqObj "list" ((arrOf st).map (·.2)) c) → H a = none → P (.done (.ret .none)) { s with heap := h', toks := tk }) :
    wpAny (model X.prog X.w) A (ksk_tail a false e1 (.ref kS) st) P E s := by
  have nk := (I.pin (kS, seqObj "list" kA e) (List.mem_append_right _ (.head _))).1
  have nd := I.pin (a, seqObj "list" #[] e1) (List.mem_append_right _ (.tail _ (.head _)))
  have hDk : a ≠ kS := oK.p (a, seqObj "list" #[] e1) (List.mem_append_right _ (.head _))
  have s1 := Heap.SameBut.update s.heap kS (Obj.mapSeq fun _ => (#[] : Array Value))
  obtain ⟨c1, hc1⟩ : ∃ c1, (s.heap.update kS (Obj.mapSeq fun _ => (#[] : Array Value))).get? kS = some (seqObj "list" #[] c1) := ⟨_, get?_update_seq nk fun _ => #[]⟩
  have na1 : (s.heap.update kS (Obj.mapSeq fun _ => (#[] : Array Value))).get? a = some (seqObj "list" #[] e1) := (s1.2 a hDk).trans nd.1
  obtain ⟨out, hout⟩ : ∃ out : Array Value, out = (arrOf st).map (·.2) := ⟨_, rfl⟩
  have hos : out.size ≤ sizeLine := by rw [hout]; simpa using ha
  have s2 := Heap.SameBut.update (s.heap.update kS (Obj.mapSeq fun _ => (#[] : Array Value))) a (Obj.mapSeq fun _ => out)
  obtain ⟨c2, hc2⟩ : ∃ c2, ((s.heap.update kS (Obj.mapSeq fun _ => (#[] : Array Value))).update a (Obj.mapSeq fun _ => out)).get? a = some (seqObj "list" out c2) := ⟨_, get?_update_seq na1 fun _ => out⟩
  rw [← hout] at h
  have go : wpAny (model X.prog X.w) A (do
      Builtin.List.listUpdate (.ref kS) fun _ => #[]
      letGo ((arrOf st).map (·.1)).toList (failedOf st).toList
      let touched := (← seqEpoch a) != e1
      Builtin.List.listUpdate (.ref a) fun _ => out
      if let some e := failedOf st then rule "list.sort.comparison-raised"; throw e
      if touched then rule "list.sort.modified"; raiseError "ValueError" "list modified during sort"
      ret .none) P E s := by
    refine wpAny_bind (listUpdate_at nk rfl ?_ hk (Nat.zero_le _))
    refine wpAny_bind (wpAny_letGo ?_)
    refine wpAny_bind (seqEpoch_at na1 rfl ?_)
    refine wpAny_bind (listUpdate_at na1 rfl ?_ (Nat.zero_le _) (Nat.le_succ_of_le hos))
    rw [hf]
    simp only [bne_self_eq_false, Bool.false_eq_true, if_false]
    have I1 := pin_swap (h' := s.heap.update kS (Obj.mapSeq fun _ => (#[] : Array Value))) (t' := s.toks) I oK.x oK.c oK.p (fun c u hc q => (s1.2 c hc).trans q) hc1 cell_no
    have I2 : L2.Inv X pins σ H { s with heap := s.heap.update kS (Obj.mapSeq fun _ => (#[] : Array Value)), toks := s.toks } := I1.pins_of fun p hp => I1.pin p (List.mem_append_right _ (.tail _ (.tail _ hp)))
    have I3 := I2.turned (h' := (s.heap.update kS (Obj.mapSeq fun _ => (#[] : Array Value))).update a (Obj.mapSeq fun _ => out)) (t' := s.toks) (it := a) (fun b u hb q => (s2.2 b hb).trans q) nd.2.1 oD.l oD.x oD.c oD.p
    exact wpAny_pure (h _ _ c2 I3 hc2 nd.2.1)
  rw [hout] at go
  exact go
end
section
variable {X : Cx} {pins : List (Addr × Obj)} {σ : L2.St} {H : Hp} {s : Shared} {E : Value → Shared → Prop} {P : PySem.Fin → Shared → Prop} {kS a : Addr} {e1 : Nat}
/-- the keys, then the sorting -/
theorem sort_rest {k : Nat} {f : Addr} {fd : FuncData} {ps : List Str} {sp : Sp2} {kf : D → D} {ds : List D} {vs : List V} {its : List Value} {R : List D → Prop}
    (F : FnOk X.prog X.w X.K X.mg X.base CX0 k f fd ps (liftSp X.K sp)) (hr : Room (k + 2) X.A) (hb : Binds X.K fd ps []) (hsp : ∀ d ∈ ds, sp [d] fun r => r = .val (kf d))
    (I : L2.Inv X ((kS, seqObj "list" #[] 0) :: (a, seqObj "list" #[] e1) :: pins) σ H s) (oK : Out X ((a, seqObj "list" #[] e1) :: pins) kS) (oD : Out X pins a) {G0 : Hp} (rv : Vals vs its) (rd : Reps X.K H ds vs) (rd0 : Reps X.K G0 ds vs) (hz : ds.length ≤ sizeLine)
    (sorts : ∀ (pins' : List (Addr × Obj)) (H' : Hp) (s' : Shared) (keys : List Value) (ws : List V), L2.Inv X pins' σ H' s' → Same H H' → Vals ws keys → Reps X.K H' (ds.map kf) ws → Sorts X.prog X.w X.A.in1.in1 s' keys.toArray its.toArray fun out => ∀ L : List (D × Value × Value), L.Perm (ds.zip (keys.zip its)) → out.toList = L.map (·.2) → R (L.map (·.1)))
    (h : ∀ H' s' c (out : List Value) (ovs : List V) (ods : List D), L2.Inv X pins σ H' s' → Same H H' → H' a = none → s'.heap.get? a = some (seqObj "list" out.toArray c) → ods.Perm ds → R ods → Vals ovs out → Reps X.K G0 ods ovs → P (.done (.ret .none)) s') :
    wpAny (model X.prog X.w) X.A.in1.in1 (ksk_rest a (.ref f) false its.toArray e1 (.ref kS)) P E s := by
  have l1 : ds.length = vs.length := rd.length
  have l2 : vs.length = its.length := rv.length
  unfold ksk_rest
  refine wpAny_bind (wpAny_rule ?_)
  rw [List.forIn_toArray]
  refine wpAny_bind (ksk_fold (fun i s' => ∃ Hi kA e ws, L2.Inv X ((kS, seqObj "list" kA e) :: (a, seqObj "list" #[] e1) :: pins) σ Hi s' ∧ Same H Hi ∧ Vals ws kA.toList ∧ Reps X.K Hi ((ds.take i).map kf) ws) its 0 s
    ⟨H, #[], 0, [], I, Same.refl _, .nil, by simp [Reps]⟩ ?step ?done)
  case step =>
    rintro j x s' hx ⟨Hi, kA, e, ws, Ii, sm, rk, rr⟩
    simp only [Nat.zero_add] at rr ⊢
    have hj : j < its.length := (List.getElem?_eq_some_iff.mp hx).1
    have ed : ds[j]? = some ds[j] := by simp [show j < ds.length by omega]
    generalize ds[j] = d at ed
    obtain ⟨v, ev, rep⟩ := rd.get ed
    obtain ⟨u, eu, ru⟩ := rv.get ev
    rw [hx] at eu; cases eu
    have hz2 : kA.size ≤ ds.length := by
      have h1 : ws.length = kA.size := by simpa using rk.length
      have h2 := rr.length
      rw [List.length_map, List.length_take] at h2
      omega
    refine wpAny_bind (wpAny_attempt (wpAny_mono (key_call (E := fun _ _ => False) F hr hb Ii (Rep.mono sm _ _ rep) ru (hsp d (List.mem_of_getElem? ed))) (fun ku s'' he => ?_) fun _ _ hF => hF.elim))
    obtain ⟨v', H', r, I', rv2, ok, er⟩ := he
    subst er
    obtain ⟨sm2, rep2⟩ := ok
    try dsimp only
    have nk := (I'.pin (kS, seqObj "list" kA e) (List.mem_append_right _ (.head _))).1
    have s1 := Heap.SameBut.update s''.heap kS (Obj.mapSeq (·.push ku))
    obtain ⟨c2, hc2⟩ : ∃ c2, (s''.heap.update kS (Obj.mapSeq (·.push ku))).get? kS = some (seqObj "list" (kA.push ku) c2) := ⟨_, get?_update_seq nk (·.push ku)⟩
    refine wpAny_bind (listUpdate_at nk rfl ?_ (Nat.le_trans hz2 hz) (Nat.le_trans (Nat.le_of_eq (Array.size_push ..)) (Nat.succ_le_succ (Nat.le_trans hz2 hz))))
    have I2 := pin_swap (h' := s''.heap.update kS (Obj.mapSeq (·.push ku))) (t' := s''.toks) I' oK.x oK.c oK.p (fun c u hc q => (s1.2 c hc).trans q) hc2 cell_no
    refine wpAny_pure ⟨rfl, H', kA.push ku, c2, ws ++ [v'], I2, sm.trans sm2, ?_, ?_⟩
    · rw [Array.toList_push]; exact rk.append (.cons rv2 .nil)
    · have ek : ds.take (j + 1) = ds.take j ++ [d] := by rw [List.take_add_one, ed]; rfl
      rw [ek, List.map_append]
      exact Reps.append (Reps.mono sm2 _ _ rr) (Reps.cons rep2 Reps.nil)
  case done =>
    rintro s' ⟨Hi, kA, e, ws, Ii, sm, rk, rr⟩
    have et : ds.take (0 + its.length) = ds := List.take_of_length_le (by omega)
    rw [et] at rr
    have nk := (Ii.pin (kS, seqObj "list" kA e) (List.mem_append_right _ (.head _))).1
    have lk : kA.size = ds.length := by
      have h1 : ws.length = kA.size := by simpa using rk.length
      have h2 := rr.length
      rw [List.length_map] at h2
      omega
    try dsimp only
    refine wpAny_bind (listItems_at nk rfl ?_)
    have so := sorts _ Hi s' kA.toList ws Ii sm rk rr
    simp only [Array.toArray_toList] at so
    unfold ksk_end
    dsimp only
    simp only [Bool.false_eq_true, if_false]
    have go : (∀ (st : SortSt) (tk : Nat), (arrOf st).Perm (kA.zip its.toArray) → failedOf st = none → (∀ L : List (D × Value × Value), L.Perm (ds.zip (kA.toList.zip its)) → (arrOf st).toList = L.map (·.2) → R (L.map (·.1))) → wpAny (model X.prog X.w) X.A.in1.in1 (ksk_tail a false e1 (.ref kS) st) P E { s' with toks := tk }) → wpAny (model X.prog X.w) X.A.in1.in1 (do
        let κ ← if its.toArray.size < 2 then pure general' else keyKind' kA
        let p ← (if its.toArray.size < 2 then pure () else sortRuns').run (SortSt.mk' κ (kA.zip its.toArray) #[] 7 none)
        ksk_tail a false e1 (.ref kS) p.2) P E s' := fun hh => by
      have g1 : wpAny (model X.prog X.w) X.A.in1.in1 ((if its.toArray.size < 2 then pure general' else keyKind' kA) >>= fun κ => (if its.toArray.size < 2 then pure () else sortRuns').run (SortSt.mk' κ (kA.zip its.toArray) #[] 7 none) >>= fun p => ksk_tail a false e1 (.ref kS) p.2) P E s' :=
        wpAny_bind (wpAny_mono (so E (fun p s2 => wpAny (model X.prog X.w) X.A.in1.in1 (ksk_tail a false e1 (.ref kS) p.2) P E s2) hh) (fun κ s1 h1 => wpAny_bind (wpAny_mono h1 (fun p s2 h2 => h2) fun _ _ z => z)) fun _ _ z => z)
      by_cases h2 : its.toArray.size < 2
      · simp only [if_pos h2] at g1 ⊢; exact g1
      · simp only [if_neg h2] at g1 ⊢; exact g1
    have fin : wpAny (model X.prog X.w) X.A.in1.in1 (do
        let κ ← if its.toArray.size < 2 then pure general' else keyKind' kA
        let p ← (if its.toArray.size < 2 then pure () else sortRuns').run (SortSt.mk' κ (kA.zip its.toArray) #[] 7 none)
        ksk_tail a false e1 (.ref kS) p.2) P E s' → wpAny (model X.prog X.w) X.A.in1.in1 _ P E s' := fun z => z
    refine fin (go fun st tk hp hf hR => ?_)
    have hpl : (arrOf st).toList.Perm (kA.toList.zip its) := by
      have := Array.perm_iff_toList_perm.mp hp
      simpa using this
    have hmap : (ds.zip (kA.toList.zip its)).map (·.2) = kA.toList.zip its := by
      rw [List.map_snd_zip]
      rw [List.length_zip, Array.length_toList]; omega
    obtain ⟨L, pL, eL⟩ := perm_map_inv (·.2) hpl (ds.zip (kA.toList.zip its)) hmap.symm
    have hsz : (arrOf st).size ≤ sizeLine := by
      have := hpl.length_eq
      rw [List.length_zip, Array.length_toList, Array.length_toList] at this
      omega
    refine sort_tail (s := { s' with toks := tk }) (Ii.tok tk) oK oD (by omega) hsz hf fun h' tk' c I' hc hn => ?_
    -- the items behind the keys, with what they stand for
    have hall : ∀ (as : List D) (bs : List Value) (cs : List V) (es : List Value), Reps X.K G0 as cs → Vals cs bs → es.length = as.length → ∀ q ∈ as.zip (es.zip bs), ∃ v, Rep X.K G0 q.1 v ∧ L2.RelV v q.2.2 := by
      intro as
      induction as with
      | nil => intro bs cs es _ _ _ q hq; exact nomatch hq
      | cons d as ih =>
        intro bs cs es r1 r2 hl q hq
        simp only [Reps] at r1
        obtain ⟨v, r, rfl, h1, h2⟩ := r1
        cases r2 with
        | cons r3 r4 =>
          cases es with
          | nil => cases hl
          | cons x es =>
            rcases List.mem_cons.mp hq with rfl | hq
            · exact ⟨v, h1, r3⟩
            · exact ih _ _ es h2 r4 (by simpa using hl) q hq
    have hq : ∀ q ∈ L, ∃ v, Rep X.K G0 q.1 v ∧ L2.RelV v q.2.2 := fun q hq => hall ds its vs kA.toList rd0 rv (by rw [Array.length_toList]; omega) q (pL.mem_iff.mp hq)
    have hov : ∀ L' : List (D × Value × Value), (∀ q ∈ L', ∃ v, Rep X.K G0 q.1 v ∧ L2.RelV v q.2.2) → ∃ ovs, Vals ovs (L'.map fun q => q.2.2) ∧ Reps X.K G0 (L'.map (·.1)) ovs := by
      intro L'
      induction L' with
      | nil => intro _; exact ⟨[], .nil, Reps.nil⟩
      | cons q L' ih =>
        intro hq
        obtain ⟨v, h1, h2⟩ := hq q (.head _)
        obtain ⟨ovs, h3, h4⟩ := ih fun q hq' => hq q (.tail _ hq')
        exact ⟨v :: ovs, .cons h2 h3, Reps.cons h1 h4⟩
    obtain ⟨ovs, o1, o2⟩ := hov L hq
    have hout : (arrOf st).map (·.2) = (L.map fun q => q.2.2).toArray := by
      apply Array.toList_inj.mp
      rw [Array.toList_map, eL, List.map_map]; rfl
    rw [hout] at hc
    have hperm : (L.map (·.1)).Perm ds := by
      have := pL.map (·.1)
      rw [List.map_fst_zip (by have e : kA.toList.length = kA.size := by simp
                               rw [List.length_zip, e]; omega)] at this
      exact this
    exact h Hi _ c (L.map fun q => q.2.2) ovs (L.map (·.1)) I' sm hn hc hperm (hR L (by simpa using pL) (by simpa using eL)) o1 o2
/-- sorted(xs, key=f): a new list -/
theorem sorted_key {k : Nat} {f l : Addr} {fd : FuncData} {ps : List Str} {sp : Sp2} {kf : D → D} {ds : List D} {vs : List V} {R : List D → Prop} {Q : VK}
    (F : FnOk X.prog X.w X.K X.mg X.base CX0 k f fd ps (liftSp X.K sp)) (hr : Room (k + 2) X.A) (hb : Binds X.K fd ps []) (hsp : ∀ d ∈ ds, sp [d] fun r => r = .val (kf d))
    {G0 : Hp} (I : L2.Inv X pins σ H s) (hl : SqL X.K H l vs) (rd : Reps X.K H ds vs) (rd0 : Reps X.K G0 ds vs)
    (sorts : ∀ (pins' : List (Addr × Obj)) (H' : Hp) (s' : Shared) (keys its : List Value) (ws : List V), L2.Inv X pins' σ H' s' → Same H H' → Vals ws keys → Reps X.K H' (ds.map kf) ws → Vals vs its → Sorts X.prog X.w X.A.in1.in1 s' keys.toArray its.toArray fun out => ∀ L : List (D × Value × Value), L.Perm (ds.zip (keys.zip its)) → out.toList = L.map (·.2) → R (L.map (·.1)))
    (h : ∀ H' a (ovs : List V) (ods : List D), Same H H' → H' a = none → ods.Perm ds → R ods → Reps X.K G0 ods ovs → Q (.ref a) (upd H' a (.lst ovs))) :
    wpAny (model X.prog X.w) X.A (call (.builtin "sorted") [.ref l] [(Str.ofString "key", .ref f)]) (EP X pins σ Q) X.xe s := by
  obtain ⟨its, rv, pl, hz⟩ := I.list hl
  have hlen : its.length ≤ sizeLine := by rw [← rv.length]; exact hz
  refine call_function_entry_kw kind_sorted plain_sorted entry_sorted (ksk_s1 _ _) ?_
  unfold Builtin.«sorted»
  refine wpAny_bind (m := checkCount "sorted" 1 1 _) (wpAny_pure ?_)
  refine wpAny_bind (collect_list pl.isList ?_ hlen)
  refine wpAny_bind (wpAny_newList ?_ hlen)
  have hsz : ((s.heap.push (seqObj "list" #[] 0)).update s.heap.objs.size (Obj.mapSeq (· ++ its.toArray))).objs.size = s.heap.objs.size + 1 := by
    rw [Heap.size_update, size_push']
  have hoL : (((s.heap.push (seqObj "list" #[] 0)).update s.heap.objs.size (Obj.mapSeq (· ++ its.toArray))).push (seqObj "list" its.toArray 0)).get? (s.heap.objs.size + 1) = some (seqObj "list" its.toArray 0) := by
    rw [← hsz]; exact Heap.get?_push_size _ rfl
  have keep : ∀ b o, s.heap.get? b = some o → (((s.heap.push (seqObj "list" #[] 0)).update s.heap.objs.size (Obj.mapSeq (· ++ its.toArray))).push (seqObj "list" its.toArray 0)).get? b = some o := fun b o q => by
    have hlt : b < s.heap.objs.size := Heap.lt_size q
    rw [Heap.get?_push_ne _ _ _ (by rw [hsz]; exact Nat.ne_of_lt (Nat.lt_succ_of_lt hlt)), Heap.get?_update_ne _ _ _ _ (Nat.ne_of_lt hlt), Heap.get?_push_ne _ _ _ (Nat.ne_of_lt hlt)]
    exact q
  have hsz2 : (((s.heap.push (seqObj "list" #[] 0)).update s.heap.objs.size (Obj.mapSeq (· ++ its.toArray))).push (seqObj "list" its.toArray 0)).objs.size = s.heap.objs.size + 2 := by rw [size_push', hsz]
  generalize hh2 : ((s.heap.push (seqObj "list" #[] 0)).update s.heap.objs.size (Obj.mapSeq (· ++ its.toArray))).push (seqObj "list" its.toArray 0) = h2 at hoL keep hsz2
  show wpAny _ _ _ _ _ { s with heap := h2 }
  dsimp only
  rw [hsz]
  have I1 : L2.Inv X pins σ H { s with heap := h2, toks := s.toks } := I.kept (t' := s.toks) keep
  have oD : Out X pins (s.heap.objs.size + 1) := out_of I (Nat.le_succ _)
  have nD : H (s.heap.objs.size + 1) = none := I.hok.fresh (Nat.le_succ _)
  generalize s.heap.objs.size + 1 = a at hoL oD nD
  refine wpAny_bind (wpAny_holding (wpAny_call_entry_kw slot_list_sort ⟨_, hoL, rfl⟩ entry_list_sort ?body (ksk_l1 _ _)))
  case body =>
    show wpAny (model X.prog X.w) X.A.in1.in1 (Builtin.«list.sort» ⟨[.ref a], [(Str.ofString "key", .ref f)]⟩) _ _ _
    rw [ksk_t1]
    have s1 := Heap.SameBut.update h2 a (Obj.mapSeq fun _ => (#[] : Array Value))
    obtain ⟨e1, ho1⟩ : ∃ e1, (h2.update a (Obj.mapSeq fun _ => (#[] : Array Value))).get? a = some (seqObj "list" #[] e1) := ⟨_, get?_update_seq hoL fun _ => #[]⟩
    have I2 : L2.Inv X pins σ H { s with heap := h2.update a (Obj.mapSeq fun _ => (#[] : Array Value)), toks := s.toks } := I1.turned (s := { s with heap := h2, toks := s.toks }) (h' := h2.update a (Obj.mapSeq fun _ => (#[] : Array Value))) (t' := s.toks) (it := a) (fun b u hb q => (s1.2 b hb).trans q) nD oD.l oD.x oD.c oD.p
    have I2' : L2.Inv X ((a, seqObj "list" #[] e1) :: pins) σ H { s with heap := h2.update a (Obj.mapSeq fun _ => (#[] : Array Value)), toks := s.toks } := I2.pins_of fun p hp => by
      rcases List.mem_cons.mp hp with rfl | hp
      · exact ⟨ho1, nD, oD.l, oD.f, cell_no⟩
      · exact I2.pin p (List.mem_append_right _ hp)
    unfold ksk_tree
    refine wpAny_bind (listItems_at hoL rfl ?_)
    refine wpAny_bind (listUpdate_at hoL rfl ?_ (by simpa using hlen) (Nat.zero_le _))
    refine wpAny_bind (seqEpoch_at ho1 rfl ?_)
    refine wpAny_bind (wpAny_newTuple ?_ (by simpa using hlen))
    refine wpAny_bind (wpAny_newList ?_ (Nat.zero_le _))
    refine wpAny_holding ?_
    have k3 : ∀ b u, (h2.update a (Obj.mapSeq fun _ => (#[] : Array Value))).get? b = some u → ((h2.update a (Obj.mapSeq fun _ => (#[] : Array Value))).push (seqObj "tuple" its.toArray 0)).get? b = some u := fun b u q => Heap.get?_push_of_some _ q
    have I3 := I2'.kept (h' := (h2.update a (Obj.mapSeq fun _ => (#[] : Array Value))).push (seqObj "tuple" its.toArray 0)) (t' := s.toks) k3
    have oK := out_of I3 (Nat.le_refl _)
    have nK : H ((h2.update a (Obj.mapSeq fun _ => (#[] : Array Value))).push (seqObj "tuple" its.toArray 0)).objs.size = none := I3.hok.fresh (Nat.le_refl _)
    have I4 := I3.kept (h' := ((h2.update a (Obj.mapSeq fun _ => (#[] : Array Value))).push (seqObj "tuple" its.toArray 0)).push (seqObj "list" #[] 0)) (t' := s.toks) fun b u q => Heap.get?_push_of_some _ q
    have I4' : L2.Inv X ((((h2.update a (Obj.mapSeq fun _ => (#[] : Array Value))).push (seqObj "tuple" its.toArray 0)).objs.size, seqObj "list" #[] 0) :: (a, seqObj "list" #[] e1) :: pins) σ H { s with heap := ((h2.update a (Obj.mapSeq fun _ => (#[] : Array Value))).push (seqObj "tuple" its.toArray 0)).push (seqObj "list" #[] 0), toks := s.toks } := I4.pins_of fun p hp => by
      rcases List.mem_cons.mp hp with rfl | hp
      · exact ⟨Heap.get?_push_size _ rfl, nK, oK.l, oK.f, cell_no⟩
      · exact I4.pin p (List.mem_append_right _ hp)
    refine sort_rest F hr hb hsp I4' oK oD rv rd rd0 (by rw [rd.length]; exact hz) (fun pins' H' s' keys ws i1 i2 i3 i4 => sorts pins' H' s' keys its ws i1 i2 i3 i4 rv) fun H' s' c out ovs ods i1 i2 i3 i4 i5 i6 i7 i8 => ?_
    have i9 : L2.Inv X pins σ (upd H' a (.lst ovs)) { s' with heap := s'.heap, toks := s'.toks } := Inv.track i1 (oD.fp i3) (fun b u _ q => q) ⟨by
      have e1 := i8.length
      have e2 := i5.length_eq
      have e3 := rd.length
      omega, out, c, i7, i4⟩
    exact ⟨_, rfl, wpAny_pure ⟨_, rfl, .ref a, _, i9, rfl, h H' a ovs ods i2 i3 i5 i6 i8⟩⟩
end
end M

set_option Elab.async false
set_option linter.all false
set_option maxRecDepth 100000
set_option maxHeartbeats 4000000
namespace M
open PySem PySem.Spec PyProof.Rows L2
section
variable {K : PySem.W.Frag} {H0 : Hp} {σ : L2.St} {δ : List Sl} {G H H' : Hp}
open Classical in
/-- what is new is fixed -/
noncomputable def grown (G H H' : Hp) : Hp := fun b => if H b = none then H' b else G b
theorem Hs.grow (h : Hs K H0 σ δ G H) (sm : Same H H') : Hs K H0 σ δ (grown G H H') H' ∧ Same G (grown G H H') := by
  have s1 : Same G (grown G H H') := fun b u q => by
    unfold grown
    rw [if_neg (by rw [h.sub b u q]; exact fun z => by cases z)]; exact q
  have own : ∀ i p, At σ δ i p → H' p = H p := fun i p a => by
    obtain ⟨o, e, _⟩ := h.soft a
    rw [e]; exact sm p o e
  refine ⟨⟨h.len, h.base.trans s1, fun b => ?_, fun i d e => ?_, fun i d e => ?_, fun i p d e => ?_, h.ne⟩, s1⟩
  · cases q : H b with
    | none =>
      refine .inl ⟨by unfold grown; rw [if_pos q], fun i a => ?_⟩
      obtain ⟨o, e, _⟩ := h.soft a
      rw [q] at e; cases e
    | some o =>
      have e1 : grown G H H' b = G b := by unfold grown; rw [if_neg (by rw [q]; exact fun z => by cases z)]
      rcases h.ex b with ⟨z1, z2⟩ | ⟨z1, z2⟩
      · exact .inl ⟨by rw [e1, z1, q, sm b o q], z2⟩
      · exact .inr ⟨by rw [e1]; exact z1, z2⟩
  · obtain ⟨v, e1, r⟩ := h.fr i d e
    exact ⟨v, e1, Rep.mono s1 _ _ r⟩
  · obtain ⟨p, e1, o⟩ := h.ow i d e
    exact ⟨p, e1, o.mono s1 (own i p ⟨_, e, True.intro, e1⟩)⟩
  · obtain ⟨e1, o⟩ := h.lk i p d e
    exact ⟨e1, o.mono s1 (own i p ⟨_, e, True.intro, e1⟩)⟩
end
/-- what a sorting of data by keys is worth -/
abbrev SR := List D → (D → D) → (List D → Prop) → Prop
def SortRule (X : Cx) (S : SR) : Prop := ∀ ds kf R, S ds kf R → ∀ (σ : L2.St) (pins' : List (Addr × Obj)) (H' : Hp) (s' : Shared) (keys its : List Value) (ws vs : List V), L2.Inv X pins' σ H' s' → Vals ws keys → Reps X.K H' (ds.map kf) ws → Vals vs its → Reps X.K H' ds vs →
  Sorts X.prog X.w X.A.in1.in1 s' keys.toArray its.toArray fun out => ∀ L : List (D × Value × Value), L.Perm (ds.zip (keys.zip its)) → out.toList = L.map (·.2) → R (L.map (·.1))
def SOne : SR := fun ds _ R => ds.length < 2 ∧ R = fun _ => True
theorem sort_one {X : Cx} : SortRule X SOne := fun ds kf R ⟨h, e⟩ σ pins' H' s' keys its ws vs I r1 r2 r3 r4 E Q k => by
  have hl : its.toArray.size < 2 := by
    have h1 := r3.length
    have h2 := r4.length
    simp; omega
  exact sorts_small hl E Q fun st tk hp hf _ => k st tk hp hf fun _ _ _ => by rw [e]; trivial
section
variable {X : Cx} {H0 : Hp} {k : Nat} {fx : Str} {sp : Sp2} {e : Expr} {te : RE} {p p2 pos kp : Pos} {S : SR}
def rSortK (S : SR) (sp : Sp2) (te : RE) (δ : List Sl) (Q : D → Prop) : Prop := te δ fun d => match d with
  | .lst ds => ∃ (kf : D → D) (R : List D → Prop), (∀ d ∈ ds, sp [d] fun r => r = .val (kf d)) ∧ S ds kf R ∧ ∀ ods : List D, ods.Perm ds → R ods → Q (.lst ods)
  | _ => False
theorem n_sortK (sr : SortRule X S) (F : Fn2 X.prog X.w X.K X.mg X.base k fx sp) (hr : Room (k + 2) X.A) (hm : X.mg "sorted" = none) (ha : PE2 X H0 e te) (hg : Gl X "sorted" := by rfl) (hgf : Gl X fx := by rfl) (hdb : (fx == ("__debug__" : Str)) = false := by decide)
    (he1 : starEach [e] X.env = (false, eval e X.env) :: starEach [] X.env := by rfl)
    (he : backTo pos (starEach [e] X.env) = (false, eval e X.env) :: backTo pos (starEach [] X.env) := by rfl) (hplain : (backTo pos (starEach [e] X.env)).any (·.1) = false := by rfl)
    (hall : (backToKw pos (keywordEach [⟨some "key", .Name fx p2, kp⟩] X.env)).all (·.1.isSome) = true := by rfl) (hkw : (backToKw pos (keywordEach [⟨some "key", .Name fx p2, kp⟩] X.env)).any (·.1.isNone) = false := by rfl)
    (hks : (backToKw pos (keywordEach [⟨some "key", .Name fx p2, kp⟩] X.env)).filterMap (·.1) = [Str.ofString "key"] := by rfl) :
    PN2 X H0 (.Call (.Name "sorted" p) [e] [⟨some "key", .Name fx p2, kp⟩] pos) (rSortK S sp te) := by
  obtain ⟨f, fd, ps, F, hmf, hk, hb⟩ := F.ex
  intro pins s σ H Q I ⟨δ, G, Qd, hs, ht, kk⟩
  refine wpAny_Call_Name_kw (ld_blt I hg hm rfl ?_ (by decide) (by decide))
  have hA : liftE X.K H0 te σ H (fun v H' => ∃ G' d, Nx X.K H0 σ δ G H G' H' ∧ Rep X.K G' d v ∧ (match d with | .lst ds => ∃ (kf : D → D) (R : List D → Prop), (∀ d ∈ ds, sp [d] fun r => r = .val (kf d)) ∧ S ds kf R ∧ ∀ ods : List D, ods.Perm ds → R ods → Qd (.lst ods) | _ => False)) :=
    ⟨δ, G, _, hs, ht, fun v H' G' d n r q => ⟨G', d, n, r, q⟩⟩
  have ha' := pa_cons (te := liftE X.K H0 te) ha pa_nil he1
  refine callWith_kw (thn (ha' pos pins s σ H (fun vs H' => ∃ v, vs = [v] ∧ ∃ G' d, Nx X.K H0 σ δ G H G' H' ∧ Rep X.K G' d v ∧ (match d with | .lst ds => ∃ (kf : D → D) (R : List D → Prop), (∀ d ∈ ds, sp [d] fun r => r = .val (kf d)) ∧ S ds kf R ∧ ∀ ods : List D, ods.Perm ds → R ods → Qd (.lst ods) | _ => False)) I ?_) fun us s1 ⟨vs, H1, I1, r, v, ev, G1, d, n, rd, q⟩ => ?_) he hplain hall hkw
  · obtain ⟨δ', G', Qd', h1, h2, h3⟩ := hA
    exact ⟨δ', G', Qd', h1, h2, fun v H' G2 d n r q => ⟨v, rfl, h3 v H' G2 d n r q⟩⟩
  · subst ev
    cases d with
    | lst ds =>
      obtain ⟨kf, R, hsp, hS, hQ⟩ := q
      simp only [Rep] at rd
      obtain ⟨l, vs, rfl, hl, rr⟩ := rd
      cases r with
      | cons r1 r2 =>
        cases r2
        cases (show _ = Value.ref l from r1)
        refine kws_cons (ld_glob I1 hgf hmf (kws_nil ?_) hdb)
        rw [hks]
        show wpAny _ _ (call (.builtin "sorted") [.ref l] [(Str.ofString "key", .ref f)]) _ _ _
        refine sorted_key F hr hb hsp I1 (n.hs.sub.seq hl) (Reps.mono n.hs.sub _ _ rr) rr (fun pins' H' s' keys its ws i1 i2 i3 i4 i5 => sr ds kf R hS σ pins' H' s' keys its ws vs i1 i3 i4 i5 (Reps.mono (n.hs.sub.trans i2) _ _ rr)) fun H' a ovs ods sm hn hp hR r9 => ?_
        obtain ⟨g1, g2⟩ := n.hs.grow sm
        exact kk _ _ _ (.lst ods) (g1.fresh hn ⟨ovs, upd_same, Reps.mono g2 _ _ r9⟩) (n.g.trans g2) ((n.h.trans sm).trans (upd_mono hn)) (hQ ods hp hR)
    | _ => exact q.elim
end
end M

set_option Elab.async false
set_option linter.all false
set_option maxRecDepth 100000
set_option maxHeartbeats 4000000
namespace My
open PySem L2 M
def top (i : Nat) : Stmt := PySem.Challenge.pw_feastfall_k06_one_entry_alone.main.body.getD i (.Pass ⟨0, 0, 0, 0⟩)
abbrev st_height : Stmt := top 1
abbrev N_height : List Str := ["entry"]
theorem sc_height : FnScope N_height ["entry"] (defScope st_height) := ⟨rfl, rfl, rfl, by decide +kernel, rfl, by decide +kernel, by decide +kernel⟩
abbrev st_ordered : Stmt := top 2
abbrev N_ordered : List Str := ["entries"]
theorem sc_ordered : FnScope N_ordered ["entries"] (defScope st_ordered) := ⟨rfl, rfl, rfl, by decide +kernel, rfl, by decide +kernel, by decide +kernel⟩
abbrev st_open_to : Stmt := top 3
abbrev N_open_to : List Str := ["rank", "day", "shut"]
theorem sc_open_to : FnScope N_open_to ["rank", "day", "shut"] (defScope st_open_to) := ⟨rfl, rfl, rfl, by decide +kernel, rfl, by decide +kernel, by decide +kernel⟩
abbrev st_first_free : Stmt := top 5
abbrev N_first_free : List Str := ["rank", "day", "shut", "onward", "passed", "gone"]
theorem sc_first_free : FnScope N_first_free ["rank", "day", "shut", "onward"] (defScope st_first_free) := ⟨rfl, rfl, rfl, by decide +kernel, rfl, by decide +kernel, by decide +kernel⟩
abbrev st_place_of : Stmt := top 6
abbrev N_place_of : List Str := ["entry", "shut", "onward", "rank", "number", "year", "way", "own", "day"]
theorem sc_place_of : FnScope N_place_of ["entry", "shut", "onward"] (defScope st_place_of) := ⟨rfl, rfl, rfl, by decide +kernel, rfl, by decide +kernel, by decide +kernel⟩
abbrev st_lay : Stmt := top 7
abbrev N_lay : List Str := ["entries", "shut", "onward", "rows", "entry", "how", "day"]
theorem sc_lay : FnScope N_lay ["entries", "shut"] (defScope st_lay) := ⟨rfl, rfl, rfl, by decide +kernel, rfl, by decide +kernel, by decide +kernel⟩
abbrev st__law_cell : Stmt := top 9
abbrev N__law_cell : List Str := ["_law_script", "_law_place"]
theorem sc__law_cell : FnScope N__law_cell ["_law_script", "_law_place"] (defScope st__law_cell) := ⟨rfl, rfl, rfl, by decide +kernel, rfl, by decide +kernel, by decide +kernel⟩
abbrev st__law_seed : Stmt := top 10
abbrev N__law_seed : List Str := ["_law_cell_here", "_law_one", "_law_two"]
theorem sc__law_seed : FnScope N__law_seed ["_law_cell_here"] (defScope st__law_seed) := ⟨rfl, rfl, rfl, by decide +kernel, rfl, by decide +kernel, by decide +kernel⟩
abbrev st__law_digits : Stmt := top 11
abbrev N__law_digits : List Str := ["_law_cell_here", "_law_sizes", "_law_rest", "_law_found", "_law_k", "_law_size"]
theorem sc__law_digits : FnScope N__law_digits ["_law_cell_here", "_law_sizes"] (defScope st__law_digits) := ⟨rfl, rfl, rfl, by decide +kernel, rfl, by decide +kernel, by decide +kernel⟩
abbrev st__law_whole : Stmt := top 12
abbrev N__law_whole : List Str := ["_law_thing"]
theorem sc__law_whole : FnScope N__law_whole ["_law_thing"] (defScope st__law_whole) := ⟨rfl, rfl, rfl, by decide +kernel, rfl, by decide +kernel, by decide +kernel⟩
abbrev st__law_are_rows : Stmt := top 13
abbrev N__law_are_rows : List Str := ["_law_found", "_law_row"]
theorem sc__law_are_rows : FnScope N__law_are_rows ["_law_found"] (defScope st__law_are_rows) := ⟨rfl, rfl, rfl, by decide +kernel, rfl, by decide +kernel, by decide +kernel⟩
abbrev st_law : Stmt := top 14
abbrev N_law : List Str := ["_law_script", "_law_big", "_law_drawn", "_law_rank", "_law_small", "_law_number", "_law_year", "_law_way", "_law_own", "_law_close", "_law_entry", "_law_shut", "_law_k", "_law_cell_here", "_law_bound", "_law_off", "_law_more", "_law_handed", "_law_closed", "_law_found", "_law_day", "_law_how"]
theorem sc_law : FnScope N_law ["_law_script"] (defScope st_law) := ⟨rfl, rfl, rfl, by decide +kernel, rfl, by decide +kernel, by decide +kernel⟩
/-! ### the draws: any figures within their sizes -/
def sp__law_seed : Sp2 := fun ds Q => ∃ c : Int, ds = [.int c] ∧ ∀ v : Int, Q (.val (.int v))
def sp__law_cell : Sp2 := fun ds Q => ∃ (ns : List Int) (i : Int), ds = [.lst (ns.map D.int), .int i] ∧ 0 ≤ i ∧ ∀ v : Int, Q (.val (.int v))
def sp__law_digits : Sp2 := fun ds Q => ∃ (c : Int) (sizes : List Int), ds = [.int c, .lst (sizes.map D.int)] ∧ (∀ s ∈ sizes, 0 < s ∧ s < 2 ^ 200) ∧ sizes.length ≤ 100 ∧ ∀ out, Drawn out sizes → Q (.new (.lst (out.map D.int)))
section
variable {P : Program} {w : World} {K : PySem.W.Frag} {mg : Str → Option Value} {base : Heap}
theorem ok__law_cell {f : Addr} {fd : FuncData} (F : Fun K "_law_cell" "_law_cell" st__law_cell f fd)  (z_len : mg "len" = none) : FnOk P w K mg base CX0 (0 + 1) f fd ["_law_script", "_law_place"] (liftSp K sp__law_cell) := by
  refine fun_ok F sc__law_cell (by rintro ds Qd ⟨ns, i, rfl, _⟩; rfl) (fun cdv A outer s H E hr ds Qd h => ?_)
  obtain ⟨ns, i, rfl, hi, q⟩ := h
  obtain ⟨n, rfl⟩ := Int.eq_ofNat_of_zero_le hi
  refine ⟨_, (s_cons (s_if (t_cmp op_lt lf_lt (b_var 1) (PE2.bo (e_len z_len (ab_cons (b_var 0) ab_nil))) (nomark _))
      (s_one (s_ret (e_ix (b_var 0) (b_var 1))))
      s_nil)
      (s_one (s_ret (e_int)))), ?_⟩
  exact if_p (p := (n : Int) < ((ns.map D.int).length : Int)) (fun Q q => q) (fun hlt => ⟨_, atI_map (by rw [List.length_map] at hlt; omega), q _⟩) (fun _ => q _)
theorem ok__law_seed {f : Addr} {fd : FuncData} (F : Fun K "_law_seed" "_law_seed" st__law_seed f fd)  : FnOk P w K mg base CX0 (0 + 1) f fd ["_law_cell_here"] (liftSp K sp__law_seed) := by
  refine fun_ok F sc__law_seed (by rintro ds Qd ⟨c, rfl, _⟩; rfl) (fun cdv A outer s H E hr ds Qd h => ?_)
  obtain ⟨c, rfl, q⟩ := h
  refine ⟨_, (s_cons (s_if (t_cmp op_ge lf_ge (b_var 0) (PE2.bo (e_pow (PE2.bo (e_int)) (PE2.bo (e_int)))) (nomark _))
      (s_one (s_ret (e_var 0)))
      s_nil)
      (s_cons (s_set 1 sc__law_seed.nd (e_mod (PE2.bo (e_mul (PE2.bo (e_mod (PE2.bo (e_add (PE2.bo (e_mul (b_var 0) (PE2.bo (e_int)))) (PE2.bo (e_int)))) (PE2.bo (e_int)))) (PE2.bo (e_int)))) (PE2.bo (e_int))))
      (s_cons (s_set 2 sc__law_seed.nd (e_mod (PE2.bo (e_mul (PE2.bo (e_mod (PE2.bo (e_add (PE2.bo (e_mul (b_var 0) (PE2.bo (e_int)))) (PE2.bo (e_int)))) (PE2.bo (e_int)))) (PE2.bo (e_int)))) (PE2.bo (e_int))))
      (s_one (s_ret (e_add (PE2.bo (e_mul (b_var 1) (PE2.bo (e_int)))) (b_var 2))))))), ?_⟩
  exact if_by (fun Q q => ⟨cpow, q⟩) (fun _ => q _) (fun _ => ⟨cmulR, cpos, cmulR, cpos, cmulR, cpos, cmulR, cpos, cmulR, q _⟩)
theorem ok__law_digits {f : Addr} {fd : FuncData} (F : Fun K "_law_digits" "_law_digits" st__law_digits f fd) (F__law_seed : Fn2 P w K mg base 1 "_law_seed" sp__law_seed) (z_enumerate : mg "enumerate" = none) : FnOk P w K mg base CX0 (1 + 1) f fd ["_law_cell_here", "_law_sizes"] (liftSp K sp__law_digits) := by
  refine fun_ok F sc__law_digits (by rintro ds Qd ⟨c, ss, rfl, _⟩; rfl) (fun cdv A outer s H E hr ds Qd h => ?_)
  obtain ⟨c, sizes, rfl, hpos, hlen, q⟩ := h
  refine ⟨_, (s_cons (s_set 2 sc__law_digits.nd (e_call F__law_seed hr (a_cons (e_var 0) a_nil)))
      (s_cons (s_setN 3 sc__law_digits.nd (n_lst a_nil))
      (s_cons (s_forE PassesOwn.never rfl rfl z_enumerate (a_cons (e_var 1) a_nil) (g_tup (n := 2) rfl (gs_cons (g_name 4 sc__law_digits.nd) (gs_cons (g_name 5 sc__law_digits.nd) gs_nil)))
      (s_cons (s_if (t_cmp op_lt lf_lt (b_var 2) (b_var 5) (nomark _))
      (s_one (s_set 2 sc__law_digits.nd (e_call F__law_seed hr (a_cons (e_add (PE2.bo (e_add (b_var 2) (PE2.bo (e_mul (PE2.bo (e_int)) (b_var 4))))) (PE2.bo (e_mod (b_var 0) (PE2.bo (e_int))))) a_nil))))
      s_nil)
      (s_cons (s_app 3 (e_mod (b_var 2) (b_var 5)))
      (s_one (s_set 2 sc__law_digits.nd (e_fdiv (b_var 2) (b_var 5)))))))
      (s_one (s_retO 3))))), ?_⟩
  refine ⟨_, rfl, fun r0 => ⟨Nat.zero_le _, ?_⟩⟩
  refine loop_ind (fun ds δ => ∃ (k : Nat) (rest : Int) (acc done ss : List Int), ds = enumD k (ss.map D.int) ∧ δ = [.fr (.int c), .fr (.lst (sizes.map D.int)), .fr (.int rest), .ow (.lst (acc.map D.int)), .un, .un] ∧
    Drawn acc done ∧ sizes = done ++ ss ∧ acc.length + ss.length ≤ 100) ?_ ?_ _ _ ⟨0, r0, [], [], sizes, rfl, rfl, .nil, rfl, by simpa using hlen⟩
  · rintro δ ⟨k, rest, acc, done, ss, e, rfl, hd, hs, _⟩
    cases ss with
    | cons s ss => cases e
    | nil => exact q acc (by rw [hs, List.append_nil]; exact hd)
  · rintro d r δ L hL ⟨k, rest, acc, done, ss, e, rfl, hd, hs, hl⟩
    cases ss with
    | nil => cases e
    | cons s ss =>
      have e1 : d = .tup [.int k, .int s] := by cases e; rfl
      have e2 : r = enumD (k + 1) (ss.map D.int) := by cases e; rfl
      subst e1 e2
      have hs' := hpos s (by rw [hs]; simp)
      have hlen2 : (acc.map D.int).length < sizeLine := by rw [List.length_map]; simp at hl; exact small1000 (by omega)
      have fin : ∀ r' : Int, L [.fr (.int c), .fr (.lst (sizes.map D.int)), .fr (.int (r' / s)), .ow (.lst (acc.map D.int ++ [.int (r' % s)])), .fr (.int k), .fr (.int s)] := fun r' =>
        hL _ _ ⟨k + 1, r' / s, acc ++ [r' % s], done ++ [s], ss, rfl, rfl, hd.snoc (Int.emod_nonneg _ (by omega)) (Int.emod_lt_of_pos _ hs'.1), by simp [hs], by simp at hl ⊢; omega⟩ (by rw [List.map_append]; repeat constructor)
      refine ⟨rfl, if_by (fun Q q => q) (fun _ => ⟨cmulL, cpos, _, rfl, fun v => ⟨hs'.1, hlen2, hs', fin v⟩⟩) (fun _ => ⟨hs'.1, hlen2, hs', fin rest⟩)⟩
/-- is a day open to a rank -/
def openM (kvs : List (Key × D)) (rank day : Int) : Bool := match valD kvs (.inl day) with
  | some (.int b) => decide (rank ≤ b)
  | _ => true
/-- all bounds are ints -/
def Bounds (kvs : List (Key × D)) : Prop := ∀ p ∈ kvs, ∃ b : Int, p.2 = .int b
theorem valD_mem {κ : Type} [DecidableEq κ] {kvs : List (κ × D)} {k : κ} {d : D} (h : valD kvs k = some d) : ∃ p ∈ kvs, p.2 = d := by
  unfold valD at h
  obtain ⟨p, hp, rfl⟩ := Option.map_eq_some_iff.mp h
  exact ⟨p, List.mem_of_find?_eq_some hp, rfl⟩
theorem Bounds.at {kvs : List (Key × D)} (h : Bounds kvs) {k : Key} {d : D} (e : valD kvs k = some d) : ∃ b : Int, d = .int b := by
  obtain ⟨p, hp, rfl⟩ := valD_mem e
  exact h p hp
def sp_open_to : Sp2 := fun ds Q => ∃ (rank day : Int) (kvs : List (Key × D)), ds = [.int rank, .int day, .dK kvs] ∧ Bounds kvs ∧ Q (.val (.bl (openM kvs rank day)))
theorem ok_open_to {f : Addr} {fd : FuncData} (F : Fun K "open_to" "open_to" st_open_to f fd)  : FnOk P w K mg base CX0 (0 + 1) f fd ["rank", "day", "shut"] (liftSp K sp_open_to) := by
  refine fun_ok F sc_open_to (by rintro ds Qd ⟨r, d, k, rfl, _⟩; rfl) (fun cdv A outer s H E hr ds Qd h => ?_)
  obtain ⟨rank, day, kvs, rfl, hb, q⟩ := h
  refine ⟨_, (s_one (s_ret (e_or (e_dnotin (hu_of hr) (b_var 1) (b_var 2)) (e_one (e_cmp op_le lf_le (b_var 0) (PE2.bo (e_dget (hu_of hr) (b_var 2) (b_var 1))) (nomark _)))))), ?_⟩
  unfold openM at q
  cases e : valD kvs (.inl day) with
  | none =>
    rw [e] at q
    exact ret_by (orV_t (RdE.eq (fun Q q => q) (by rw [e]; rfl))) q
  | some d =>
    obtain ⟨b, rfl⟩ := hb.at e
    rw [e] at q
    refine ret_by (RdE.eq (orV_by (b1 := false) (RdE.eq (fun Q q => q) (by rw [e]; rfl)) fun _ => fun Q q => ⟨_, e, q⟩) (by rw [Bool.false_or])) q
theorem Bounds.put {kvs : List (Key × D)} {k : Key} {b : Int} (h : Bounds kvs) : Bounds (putD kvs k (.int b)) := putD_all (P := fun d => ∃ b : Int, d = .int b) h ⟨b, rfl⟩
theorem Bounds.plain {kvs : List (Key × D)} (h : Bounds kvs) : ∀ p ∈ kvs, plainD 50 p.2 = true := fun p hp => by obtain ⟨b, e⟩ := h p hp; rw [e]; rfl
def sp_height : Sp2 := fun ds Q => ∃ a b c x y : D, ds = [.tup [a, b, c, x, y]] ∧ Q (.val (.tup [a, b, c]))
theorem ok_height {f : Addr} {fd : FuncData} (F : Fun K "height" "height" st_height f fd)  : FnOk P w K mg base CX0 (0 + 1) f fd ["entry"] (liftSp K sp_height) := by
  refine fun_ok F sc_height (by rintro ds Qd ⟨a, b, c, x, y, rfl, _⟩; rfl) (fun cdv A outer s H E hr ds Qd h => ?_)
  obtain ⟨a, b, c, x, y, rfl, q⟩ := h
  refine ⟨_, (s_one (s_ret (e_slT (b_var 0) o_none (o_some (PE2.bo (e_int)))))), ?_⟩
  exact ⟨fun z => absurd (show (3 : Nat) = 5 from z.2) (by decide), q⟩
/-! ### laying -/
theorem nodup_le {α : Type} [DecidableEq α] : ∀ (xs ks : List α), xs.Nodup → (∀ x ∈ xs, x ∈ ks) → xs.length ≤ ks.length
  | [], _, _, _ => Nat.zero_le _
  | x :: xs, ks, nd, h => by
    rw [List.nodup_cons] at nd
    have hx := h x (.head _)
    have := nodup_le xs (ks.erase x) nd.2 fun y hy => (List.mem_erase_of_ne (fun e => by subst e; exact nd.1 hy)).mpr (h y (.tail _ hy))
    rw [List.length_erase_of_mem hx] at this
    have := List.length_pos_of_mem hx
    rw [List.length_cons]; omega
def shutDom (kvs : List (Key × D)) : List Int := kvs.filterMap fun p => match p.1 with
  | .inl i => some i
  | .inr _ => none
theorem shutDom_len (kvs : List (Key × D)) : (shutDom kvs).length ≤ kvs.length := List.length_filterMap_le _ _
theorem shut_in {kvs : List (Key × D)} {rank x : Int} (h : openM kvs rank x = false) : x ∈ shutDom kvs := by
  unfold openM at h
  cases e : valD kvs (.inl x) with
  | none => rw [e] at h; cases h
  | some d =>
    unfold valD at e
    obtain ⟨p, hp, _⟩ := Option.map_eq_some_iff.mp e
    have h1 := List.mem_of_find?_eq_some hp
    have h2 := List.find?_some hp
    have h3 : p.1 = .inl x := by simpa using h2
    exact List.mem_filterMap.mpr ⟨p, h1, by rw [h3]⟩
theorem open_down {kvs : List (Key × D)} {r r' x : Int} (hr : r ≤ r') (h : openM kvs r x = false) : openM kvs r' x = false := by
  unfold openM at h ⊢
  cases e : valD kvs (.inl x) with
  | none => rw [e] at h; cases h
  | some d =>
    rw [e] at h
    cases d with
    | int b => simp only [decide_eq_false_iff_not] at h ⊢; omega
    | _ => cases h
theorem putD_mem {κ : Type} [DecidableEq κ] {kvs : List (κ × D)} {k : κ} {d : D} {p : κ × D} (h : p ∈ putD kvs k d) : p = (k, d) ∨ p ∈ kvs := by
  unfold putD at h
  split at h
  · obtain ⟨q, hq, rfl⟩ := List.mem_map.mp h
    split
    · rename_i e; exact .inl (by rw [e])
    · exact .inr hq
  · rcases List.mem_append.mp h with h | h
    · exact .inr h
    · exact .inl (by simpa using h)
/-- no one can have that day: somebody stands there, or it is shut -/
def Blocked (kvs : List (Key × D)) (rank : Int) (held : List Int) (x : Int) : Prop := x ∈ held ∨ openM kvs rank x = false
structure Onw (kvs : List (Key × D)) (rank : Int) (held : List Int) (ow : List (Key × D)) : Prop where
  nums : ∀ p ∈ ow, ∃ i e : Int, p = (.inl i, .int e)
  nd : (ow.map (·.1)).Nodup
  go : ∀ d e : Int, valD ow (.inl d) = some (.int e) → d < e ∧ ∀ x, d ≤ x → x < e → Blocked kvs rank held x
  has : ∀ x ∈ held, ∃ e : Int, valD ow (.inl x) = some (.int e)
theorem Onw.at {kvs : List (Key × D)} {rank : Int} {held : List Int} {ow : List (Key × D)} (h : Onw kvs rank held ow) {k : Key} {d : D} (e : valD ow k = some d) : ∃ b : Int, d = .int b := by
  obtain ⟨p, hp, rfl⟩ := valD_mem e
  obtain ⟨i, b, rfl⟩ := h.nums p hp
  exact ⟨b, rfl⟩
theorem mem_val {κ : Type} [DecidableEq κ] {kvs : List (κ × D)} {p : κ × D} (h : p ∈ kvs) : (valD kvs p.1).isSome = true := by
  rw [← valD_any]
  exact List.any_eq_true.mpr ⟨p, h, by simp⟩
theorem Onw.len {kvs : List (Key × D)} {rank : Int} {held : List Int} {ow : List (Key × D)} (h : Onw kvs rank held ow) : ow.length ≤ held.length + kvs.length := by
  have h1 := nodup_le (ow.map (·.1)) ((held ++ shutDom kvs).map Sum.inl) h.nd (fun x hx => by
    obtain ⟨p, hp, rfl⟩ := List.mem_map.mp hx
    obtain ⟨i, e, rfl⟩ := h.nums p hp
    obtain ⟨d, hd⟩ := Option.isSome_iff_exists.mp (mem_val hp)
    obtain ⟨b, rfl⟩ := h.at hd
    obtain ⟨g1, g2⟩ := h.go i b hd
    refine List.mem_map.mpr ⟨i, ?_, rfl⟩
    rcases g2 i (Int.le_refl _) g1 with z | z
    · exact List.mem_append_left _ z
    · exact List.mem_append_right _ (shut_in z))
  rw [List.length_map, List.length_map, List.length_append] at h1
  have := shutDom_len kvs
  omega
theorem Onw.put {kvs : List (Key × D)} {rank : Int} {held : List Int} {ow : List (Key × D)} (h : Onw kvs rank held ow) {d e : Int} (hd : d < e) (hb : ∀ x, d ≤ x → x < e → Blocked kvs rank held x) : Onw kvs rank held (putD ow (.inl d) (.int e)) := by
  refine ⟨fun p hp => ?_, putD_nodup h.nd, fun d' e' h' => ?_, fun x hx => ?_⟩
  · rcases putD_mem hp with rfl | hp
    · exact ⟨d, e, rfl⟩
    · exact h.nums p hp
  · rw [valD_put] at h'
    by_cases q : (Sum.inl d' : Key) = .inl d
    · cases q
      rw [if_pos rfl] at h'
      cases h'
      exact ⟨hd, hb⟩
    · rw [if_neg q] at h'
      exact h.go d' e' h'
  · rw [valD_put]
    by_cases q : (Sum.inl x : Key) = .inl d
    · rw [if_pos q]; exact ⟨e, rfl⟩
    · rw [if_neg q]; exact h.has x hx
theorem Onw.more {kvs : List (Key × D)} {rank : Int} {held : List Int} {ow : List (Key × D)} (h : Onw kvs rank held ow) (f : Int) : Onw kvs rank (f :: held) (putD ow (.inl f) (.int (f + 1))) := by
  refine ⟨fun p hp => ?_, putD_nodup h.nd, fun d' e' h' => ?_, fun x hx => ?_⟩
  · rcases putD_mem hp with rfl | hp
    · exact ⟨f, f + 1, rfl⟩
    · exact h.nums p hp
  · rw [valD_put] at h'
    by_cases q : (Sum.inl d' : Key) = .inl f
    · cases q
      rw [if_pos rfl] at h'
      cases h'
      refine ⟨by omega, fun x h1 h2 => .inl ?_⟩
      have : x = f := by omega
      rw [this]; exact .head _
    · rw [if_neg q] at h'
      obtain ⟨g1, g2⟩ := h.go d' e' h'
      exact ⟨g1, fun x h1 h2 => (g2 x h1 h2).imp (fun z => .tail _ z) id⟩
  · rw [valD_put]
    by_cases q : (Sum.inl x : Key) = .inl f
    · rw [if_pos q]; exact ⟨f + 1, rfl⟩
    · rw [if_neg q]
      rcases List.mem_cons.mp hx with rfl | hx
      · exact absurd rfl q
      · exact h.has x hx
theorem Onw.mono {kvs : List (Key × D)} {r r' : Int} {held : List Int} {ow : List (Key × D)} (h : Onw kvs r held ow) (hr : r ≤ r') : Onw kvs r' held ow :=
  ⟨h.nums, h.nd, fun d e q => ⟨(h.go d e q).1, fun x h1 h2 => ((h.go d e q).2 x h1 h2).imp id (open_down hr)⟩, h.has⟩
theorem Onw.nil {kvs : List (Key × D)} {r : Int} : Onw kvs r [] [] := ⟨(fun _ z => nomatch z), List.nodup_nil, (fun d e q => by cases q), (fun _ z => nomatch z)⟩
/-- the first day from d on that can be had -/
structure IsFF (kvs : List (Key × D)) (rank : Int) (held : List Int) (d f : Int) : Prop where
  le : d ≤ f
  nh : f ∉ held
  op : openM kvs rank f = true
  all : ∀ x, d ≤ x → x < f → Blocked kvs rank held x
def ub : List Int → Int
  | [] => 0
  | x :: xs => max (x + 1) (ub xs)
theorem ub_lt : ∀ {l : List Int} {x : Int}, x ∈ l → x < ub l
  | y :: ys, x, h => by
    rcases List.mem_cons.mp h with rfl | h
    · simp only [ub]; omega
    · have := ub_lt h
      simp only [ub]; omega
theorem Blocked.lt {kvs : List (Key × D)} {rank : Int} {held : List Int} {x : Int} (h : Blocked kvs rank held x) : x < ub (held ++ shutDom kvs) := by
  rcases h with z | z
  · exact ub_lt (List.mem_append_left _ z)
  · exact ub_lt (List.mem_append_right _ (shut_in z))
def sp_first_free : Sp3 := fun ds d Q => ∃ (rank day : Int) (kvs : List (Key × D)) (held : List Int) (ow : List (Key × D)), ds = [.int rank, .int day, .dK kvs] ∧ d = .dK ow ∧ Bounds kvs ∧ Onw kvs rank held ow ∧ held.length + kvs.length ≤ 10000000 ∧
  ∀ f ow', IsFF kvs rank held day f → Onw kvs rank held ow' → Q (.int f) (.dK ow')
theorem big7 {n : Nat} (h : n ≤ 10000000) : n < sizeLine := Nat.lt_of_le_of_lt h (by decide)
theorem ok_first_free {f : Addr} {fd : FuncData} (F : Fun K "first_free" "first_free" st_first_free f fd) (F_open_to : Fn2 P w K mg base 1 "open_to" sp_open_to) : FnOk P w K mg base CX0 (1 + 1) f fd ["rank", "day", "shut", "onward"] (liftSp3 K sp_first_free) := by
  refine fun3_ok F sc_first_free (by rintro ds d Qd ⟨r, d, k, hl, o, rfl, _⟩; rfl) (fun cdv A outer s H G E p hr ds d Qd h => ?_)
  obtain ⟨rank, day, kvs, held, ow, rfl, rfl, hb, ho, hsz, q⟩ := h
  refine ⟨_, (s_cons (s_setN 4 sc_first_free.nd (n_lst a_nil))
      (s_cons (s_while PassesOwn.never (PW2.pt (t_or (t_din (hu_of hr) (b_var 1) (b_var 3)) (t_or1 (t_not (t_val (e_call F_open_to hr (a_cons (e_var 0) (a_cons (e_var 1) (a_cons (e_var 2) a_nil)))))))))
      (s_cons (s_app 4 (e_var 1))
      (s_one (s_set 1 sc_first_free.nd (e_dget2 (hu_of hr) (b_var 3) (e_var 1) (e_add (b_var 1) (PE2.bo (e_int))))))))
      (s_freeze 4 (s_cons (s_forL PassesOwn.never rfl (e_var 4) (g_name 5 sc_first_free.nd)
      (s_one (s_dput 3 (hu_of hr) (e_var 5) (e_var 1))))
      (s_one (s_ret (e_var 1))))))), ?_⟩
  refine ⟨Nat.zero_le _, ?_⟩
  refine while_ind (fun m δ => ∃ (d' : Int) (passed : List Int), δ = [.fr (.int rank), .fr (.int d'), .fr (.dK kvs), .lk p (.dK ow), .ow (.lst (passed.map D.int)), .un] ∧ day ≤ d' ∧ (∀ x, day ≤ x → x < d' → Blocked kvs rank held x) ∧ (∀ x ∈ passed, day ≤ x ∧ x < d') ∧ passed.Nodup ∧
    m = (ub (held ++ shutDom kvs) - d').toNat) _ ⟨day, [], rfl, Int.le_refl _, (fun x h1 h2 => by omega), (fun x z => nomatch z), List.nodup_nil, rfl⟩ ?_
  rintro m δ L hL ⟨d', passed, rfl, h1, h2, h3, h4, rfl⟩
  have hlen : (passed.map D.int).length < sizeLine := by
    have e1 := nodup_le passed (held ++ shutDom kvs) h4 (fun x hx => by
      obtain ⟨a1, a2⟩ := h3 x hx
      rcases h2 x a1 a2 with z | z
      · exact List.mem_append_left _ z
      · exact List.mem_append_right _ (shut_in z))
    have e2 := shutDom_len kvs
    rw [List.length_append] at e1
    rw [List.length_map]; exact big7 (by omega)
  have step : ∀ e : Int, d' < e → (∀ x, d' ≤ x → x < e → Blocked kvs rank held x) → L [.fr (.int rank), .fr (.int e), .fr (.dK kvs), .lk p (.dK ow), .ow (.lst (passed.map D.int ++ [.int d'])), .un] := fun e he hbl => by
    have hblk := (hbl d' (Int.le_refl _) he).lt
    refine hL _ _ _ ⟨e, passed ++ [d'], rfl, by omega, fun x a1 a2 => ?_, fun x hx => ?_, ?_, rfl⟩ (by omega) (by rw [List.map_append]; exact Fg.refl _)
    · by_cases hx : x < d'
      · exact h2 x a1 hx
      · exact hbl x (by omega) a2
    · rcases List.mem_append.mp hx with hx | hx
      · have := h3 x hx; omega
      · have : x = d' := by simpa using hx
        omega
    · rw [List.nodup_append]
      refine ⟨h4, by simp, fun a ha b hb' e => ?_⟩
      have : b = d' := by simpa using hb'
      have := h3 a ha
      omega
  have stop : valD ow (.inl d') = none → openM kvs rank d' = true → rFreeze 4 (rSeq (rForL (rVar 4) (gSet 5) (rDPut 3 (rVar 5) (rVar 1))) (rRet (rVar 1))) { nx := fun δ => ∃ d', δ[3]? = some (.lk p d') ∧ Qd .non d', rt := fun r δ => ∃ x d', r = .val x ∧ δ[3]? = some (.lk p d') ∧ Qd x d' }
      [.fr (.int rank), .fr (.int d'), .fr (.dK kvs), .lk p (.dK ow), .ow (.lst (passed.map D.int)), .un] := fun hn hop => by
    have ff : IsFF kvs rank held day d' := ⟨h1, (fun z => by obtain ⟨e, he⟩ := ho.has d' z; rw [hn] at he; cases he), hop, h2⟩
    refine loop_ind (fun ds δ => ∃ (ms : List Int) (ow' : List (Key × D)), ds = ms.map D.int ∧ δ = [.fr (.int rank), .fr (.int d'), .fr (.dK kvs), .lk p (.dK ow'), .fr (.lst (passed.map D.int)), .un] ∧ Onw kvs rank held ow' ∧ ∀ x ∈ ms, day ≤ x ∧ x < d') ?_ ?_ _ _ ⟨passed, ow, rfl, rfl, ho, h3⟩
    · rintro δ ⟨ms, ow', e, rfl, ho', _⟩
      exact ⟨_, _, rfl, rfl, q d' ow' ff ho'⟩
    · rintro d r δ L2 hL2 ⟨ms, ow', e, rfl, ho', hm⟩
      cases ms with
      | nil => cases e
      | cons m ms =>
        obtain ⟨rfl, rfl⟩ : d = .int m ∧ r = ms.map D.int := by cases e; exact ⟨rfl, rfl⟩
        obtain ⟨m1, m2⟩ := hm m (.head _)
        refine ⟨big7 (by have := ho'.len; omega), hL2 _ _ ⟨ms, putD ow' (.inl m) (.int d'), rfl, rfl, ho'.put m2 (fun x a1 a2 => h2 x (by omega) a2), fun x hx => hm x (.tail _ hx)⟩ (by repeat constructor)⟩
  cases ev : valD ow (.inl d') with
  | some dv =>
    obtain ⟨e, rfl⟩ := ho.at ev
    obtain ⟨g1, g2⟩ := ho.go d' e ev
    have hR : RdT (rOr (rTest (rOp (dDIn false) (rVarB 1) (rVarB 3))) (rNot (rTest (rCall sp_open_to (rCons (rVar 0) (rCons (rVar 1) (rCons (rVar 2) rNil))))))) [.fr (.int rank), .fr (.int d'), .fr (.dK kvs), .lk p (.dK ow), .ow (.lst (passed.map D.int)), .un] true :=
      or_t (RdT.eq (fun Q q => q) (by rw [ev]; rfl))
    refine hR _ (Two.t ⟨hlen, ?_⟩)
    have e3 : ((valD ow (.inl d')).getD (.int (d' + 1))) = .int e := by rw [ev]; rfl
    show L [.fr (.int rank), .fr ((valD ow (.inl d')).getD (.int (d' + 1))), .fr (.dK kvs), .lk p (.dK ow), .ow (.lst (passed.map D.int ++ [.int d'])), .un]
    rw [e3]
    exact step e g1 g2
  | none =>
    have hR : RdT (rOr (rTest (rOp (dDIn false) (rVarB 1) (rVarB 3))) (rNot (rTest (rCall sp_open_to (rCons (rVar 0) (rCons (rVar 1) (rCons (rVar 2) rNil))))))) [.fr (.int rank), .fr (.int d'), .fr (.dK kvs), .lk p (.dK ow), .ow (.lst (passed.map D.int)), .un] (false || !openM kvs rank d') :=
      or_by (RdT.eq (fun Q q => q) (by rw [ev]; rfl)) fun _ => not_by (fun Q q => ⟨_, _, _, rfl, hb, q⟩)
    cases hop : openM kvs rank d' with
    | true =>
      rw [hop] at hR
      exact hR _ (Two.f (stop ev hop))
    | false =>
      rw [hop] at hR
      refine hR _ (Two.t ⟨hlen, ?_⟩)
      have e3 : ((valD ow (.inl d')).getD (.int (d' + 1))) = .int (d' + 1) := by rw [ev]; rfl
      show L [.fr (.int rank), .fr ((valD ow (.inl d')).getD (.int (d' + 1))), .fr (.dK kvs), .lk p (.dK ow), .ow (.lst (passed.map D.int ++ [.int d'])), .un]
      rw [e3]
      exact step (d' + 1) (by omega) (fun x a1 a2 => .inr (by have : x = d' := by omega
                                                              rw [this]; exact hop))

/-- an entry -/
structure Ent where
  rank : Int
  number : Int
  year : Int
  way : Str
  own : Int
def Ent.d (e : Ent) : D := .tup [.int e.rank, .int e.number, .int e.year, .str e.way, .int e.own]
structure Row where
  number : Int
  year : Int
  how : Str
  day : Int
def Row.d (r : Row) : D := .tup [.int r.number, .int r.year, .str r.how, .int r.day]
/-- the place of an entry behind the higher ones -/
inductive Placed (kvs : List (Key × D)) (held : List Int) (e : Ent) : Str → Int → List Int → Prop where
  | stands {f : Int} (ff : IsFF kvs e.rank held e.own f) (h : e.way = "moves" ∨ f = e.own) : Placed kvs held e "stands" f (f :: held)
  | noted {f : Int} (ff : IsFF kvs e.rank held e.own f) (h1 : ¬ e.way = "moves") (h2 : ¬ f = e.own) (h3 : e.way = "stays") : Placed kvs held e "noted" e.own held
  | gone {f : Int} (ff : IsFF kvs e.rank held e.own f) (h1 : ¬ e.way = "moves") (h2 : ¬ f = e.own) (h3 : ¬ e.way = "stays") : Placed kvs held e "out" e.own held
inductive Laid (kvs : List (Key × D)) : List Int → List Ent → List Row → List Int → Prop where
  | nil {held : List Int} : Laid kvs held [] [] held
  | cons {held held' held2 : List Int} {e : Ent} {es : List Ent} {how : Str} {day : Int} {rows : List Row} (p : Placed kvs held e how day held') (l : Laid kvs held' es rows held2) : Laid kvs held (e :: es) (⟨e.number, e.year, how, day⟩ :: rows) held2
theorem Placed.len {kvs : List (Key × D)} {held held' : List Int} {e : Ent} {how : Str} {day : Int} (h : Placed kvs held e how day held') : held'.length ≤ held.length + 1 := by
  cases h <;> simp
def sp_place_of : Sp3 := fun ds d Q => ∃ (e : Ent) (kvs : List (Key × D)) (held : List Int) (ow : List (Key × D)), ds = [e.d, .dK kvs] ∧ d = .dK ow ∧ Bounds kvs ∧ Onw kvs e.rank held ow ∧ held.length + kvs.length ≤ 9000000 ∧
  ∀ how day held' ow', Placed kvs held e how day held' → Onw kvs e.rank held' ow' → Q (.tup [.str how, .int day]) (.dK ow')
theorem ok_place_of {f : Addr} {fd : FuncData} (F : Fun K "place_of" "place_of" st_place_of f fd) (F_first_free : Fn3 P w K mg base 2 "first_free" sp_first_free) : FnOk P w K mg base CX0 (2 + 1) f fd ["entry", "shut", "onward"] (liftSp3 K sp_place_of) := by
  refine fun3_ok F sc_place_of (by rintro ds d Qd ⟨e, k, hl, o, rfl, _⟩; rfl) (fun cdv A outer s H G E p hr ds d Qd h => ?_)
  obtain ⟨e, kvs, held, ow, rfl, rfl, hb, ho, hsz, q⟩ := h
  refine ⟨_, (s_cons (s_asg (e_var 0) (g_tup (n := 5) rfl (gs_cons (g_name 3 sc_place_of.nd) (gs_cons (g_name 4 sc_place_of.nd) (gs_cons (g_name 5 sc_place_of.nd) (gs_cons (g_name 6 sc_place_of.nd) (gs_cons (g_name 7 sc_place_of.nd) gs_nil)))))))
      (s_cons (s_asgL F_first_free hr (al_cons (e_var 3) (al_cons (e_var 7) (al_cons (e_var 1) (al_nil 2)))) (g_name 8 sc_place_of.nd))
      (s_cons (s_if (PW2.pt (t_or (t_cmp op_eq lf_eqS (b_var 6) (PE2.bo (e_str)) (nomark _)) (t_or1 (t_cmp op_eq lf_eqS (b_var 8) (b_var 7) (nomark _)))))
      (s_cons (s_dput 2 (hu_of hr) (e_var 8) (e_add (b_var 8) (PE2.bo (e_int))))
      (s_one (s_ret (e_tup (a_cons (e_str) (a_cons (e_var 8) a_nil))))))
      s_nil)
      (s_cons (s_if (t_cmp op_eq lf_eqS (b_var 6) (PE2.bo (e_str)) (nomark _))
      (s_one (s_ret (e_tup (a_cons (e_str) (a_cons (e_var 7) a_nil)))))
      s_nil)
      (s_one (s_ret (e_tup (a_cons (e_str) (a_cons (e_var 7) a_nil))))))))), ?_⟩
  refine ⟨rfl, _, _, _, held, ow, rfl, rfl, hb, ho, by omega, fun f ow' ff ho' => ?_⟩
  refine if_by (or_by (b1 := decide (e.way = "moves")) (RdT.eq (fun Q q => q) (by simp)) (fun _ => RdT.eq (b2 := decide (f = e.own)) (fun Q q => q) (by simp))) (fun hc => ?_) (fun hc => ?_)
  · have hc' : e.way = "moves" ∨ f = e.own := by simpa using hc
    exact ⟨big7 (by have := ho'.len; omega), sz2, _, _, rfl, rfl, q _ _ _ _ (.stands ff hc') (ho'.more f)⟩
  · have hc' : ¬ e.way = "moves" ∧ ¬ f = e.own := by simpa using hc
    refine if_eq (p := e.way = "stays") (fun Q q => q) (fun h3 => ⟨sz2, _, _, rfl, rfl, q _ _ _ _ (.noted ff hc'.1 hc'.2 h3) ho'⟩) (fun h3 => ⟨sz2, _, _, rfl, rfl, q _ _ _ _ (.gone ff hc'.1 hc'.2 h3) ho'⟩)
def sp_ordered : Sp2 := fun ds Q => ∃ es : List Ent, ds = [.lst (es.map Ent.d)] ∧ es.length < 2 ∧ Q (.new (.lst (es.map Ent.d)))
def keyD : D → D
  | .tup [a, b, c, _, _] => .tup [a, b, c]
  | d => d
theorem perm_small {α : Type} {xs ys : List α} (h : xs.Perm ys) (hl : ys.length < 2) : xs = ys := by
  match ys, hl with
  | [], _ => exact h.eq_nil
  | [y], _ => exact List.perm_singleton.mp h
theorem ok_ordered {f : Addr} {fd : FuncData} (F : Fun K "ordered" "ordered" st_ordered f fd)  (F_height : Fn2 P w K mg base 1 "height" sp_height) (z_sorted : mg "sorted" = none) : FnOk P w K mg base CX0 (3 + 1) f fd ["entries"] (liftSp K sp_ordered) := by
  refine fun_ok F sc_ordered (by rintro ds Qd ⟨es, rfl, _⟩; rfl) (fun cdv A outer s H E hr ds Qd h => ?_)
  obtain ⟨es, rfl, hl, q⟩ := h
  refine ⟨_, (s_one (s_retN (n_sortK sort_one F_height hr z_sorted (e_var 0)))), ?_⟩
  refine ⟨keyD, _, fun d hd => ?_, ⟨by simpa using hl, rfl⟩, fun ods hp _ => ?_⟩
  · obtain ⟨e, _, rfl⟩ := List.mem_map.mp hd
    exact ⟨_, _, _, _, _, rfl, rfl⟩
  · rw [perm_small hp (by simpa using hl)]
    exact q
def sp_lay : Sp2 := fun ds Q => ∃ (es : List Ent) (kvs : List (Key × D)), ds = [.lst (es.map Ent.d), .dK kvs] ∧ es.length < 2 ∧ Bounds kvs ∧ kvs.length ≤ 5000000 ∧ ∀ rows held, Laid kvs [] es rows held → Q (.new (.lst (rows.map Row.d)))
theorem ok_lay {f : Addr} {fd : FuncData} (F : Fun K "lay" "lay" st_lay f fd) (F_ordered : Fn2 P w K mg base 4 "ordered" sp_ordered) (F_place_of : Fn3 P w K mg base 4 "place_of" sp_place_of) : FnOk P w K mg base CX0 (4 + 1) f fd ["entries", "shut"] (liftSp K sp_lay) := by
  refine fun_ok F sc_lay (by rintro ds Qd ⟨es, k, rfl, _⟩; rfl) (fun cdv A outer s H E hr ds Qd h => ?_)
  obtain ⟨es, kvs, rfl, hl, hb, hk, q⟩ := h
  refine ⟨_, (s_cons (s_setN 2 sc_lay.nd (n_dK))
      (s_cons (s_setN 3 sc_lay.nd (n_lst a_nil))
      (s_cons (s_forL PassesOwn.never rfl (e_call F_ordered hr (a_cons (e_var 0) a_nil)) (g_name 4 sc_lay.nd)
      (s_cons (s_asgL F_place_of hr (al_cons (e_var 4) (al_cons (e_var 1) (al_nil 2))) (g_tup (n := 2) rfl (gs_cons (g_name 5 sc_lay.nd) (gs_cons (g_name 6 sc_lay.nd) gs_nil))))
      (s_one (s_app 3 (e_tup (a_cons (e_ix (b_var 4) (PE2.bo (e_int))) (a_cons (e_ix (b_var 4) (PE2.bo (e_int))) (a_cons (e_var 5) (a_cons (e_var 6) a_nil)))))))))
      (s_one (s_retO 3))))), ?_⟩
  refine ⟨Nat.zero_le _, es, rfl, hl, ?_⟩
  refine loop_ind (fun ds δ => ∃ (done todo : List Ent) (rows : List Row) (held : List Int) (ow : List (Key × D)) (r0 : Int), ds = todo.map Ent.d ∧ δ = [.fr (.lst (es.map Ent.d)), .fr (.dK kvs), .ow (.dK ow), .ow (.lst (rows.map Row.d)), .un, .un, .un] ∧
    (∀ rows' held', Laid kvs held todo rows' held' → Laid kvs [] es (rows ++ rows') held') ∧ Onw kvs r0 held ow ∧ (∀ e ∈ todo, r0 ≤ e.rank) ∧ todo.Pairwise (fun a b => a.rank ≤ b.rank) ∧ rows.length + todo.length ≤ 1000 ∧ held.length + todo.length ≤ 1000) ?_ ?_ _ _
    ⟨[], es, [], [], [], (es.head?.map (·.rank)).getD 0, rfl, rfl, fun rows' held' l => l, Onw.nil, ?_, ?_, by simp; omega, by simp; omega⟩
  · rintro δ ⟨done, todo, rows, held, ow, r0, e, rfl, hL, ho, hr0, hs, hl1, hl2⟩
    cases todo with
    | cons e todo => cases e
    | nil =>
      have := hL [] held .nil
      rw [List.append_nil] at this
      exact q rows held this
  · rintro d r δ L hLL ⟨done, todo, rows, held, ow, r0, e, rfl, hL, ho, hr0, hs, hl1, hl2⟩
    cases todo with
    | nil => cases e
    | cons e0 todo =>
      obtain ⟨rfl, rfl⟩ : d = e0.d ∧ r = todo.map Ent.d := by cases e; exact ⟨rfl, rfl⟩
      rw [List.length_cons] at hl1 hl2
      rw [List.pairwise_cons] at hs
      refine ⟨e0, kvs, held, ow, rfl, rfl, hb, ho.mono (hr0 e0 (.head _)), by omega, fun how day held' ow' hp ho' => ?_⟩
      refine ⟨rfl, _, rfl, _, rfl, sz4, by rw [List.length_map]; exact small1000 (by omega), ?_⟩
      refine hLL _ _ ⟨done ++ [e0], todo, rows ++ [⟨e0.number, e0.year, how, day⟩], held', ow', e0.rank, rfl, rfl, fun rows' held2 l => ?_, ho', fun e he => hs.1 e he, hs.2, by simp; omega, by have := hp.len; omega⟩ (by rw [List.map_append]; repeat constructor)
      have := hL _ _ (.cons hp l)
      rw [List.append_assoc]; exact this
  · intro e he
    match es, hl, he with
    | [e1], _, he =>
      have : e = e1 := by simpa using he
      rw [this]; exact Int.le_refl _
  · match es, hl with
    | [], _ => exact .nil
    | [e1], _ => simp
def sp__law_whole : Sp2 := fun ds Q => ∃ i : Int, ds = [.int i] ∧ Q (.val (.bl true))
theorem ok__law_whole {f : Addr} {fd : FuncData} (F : Fun K "_law_whole" "_law_whole" st__law_whole f fd)  (z_isinstance : mg "isinstance" = none) (z_bool : mg "bool" = none) (z_int : mg "int" = none) : FnOk P w K mg base CX0 (0 + 1) f fd ["_law_thing"] (liftSp K sp__law_whole) := by
  refine fun_ok F sc__law_whole (by rintro ds Qd ⟨i, rfl, _⟩; rfl) (fun cdv A outer s H E hr ds Qd h => ?_)
  obtain ⟨i, rfl, q⟩ := h
  refine ⟨_, (s_one (s_ret (e_and (e_isi (kind_int _) z_isinstance z_int (b_var 0)) (e_one (e_not (e_isi (kind_bool _) z_isinstance z_bool (b_var 0))))))), ?_⟩
  exact ret_by (andV_tt (fun Q q => q) (fun Q q => q)) q
def sp__law_are_rows : Sp2 := fun ds Q => ∃ rows : List Row, ds = [.lst (rows.map Row.d)] ∧ Q (.val (.bl true))
theorem ok__law_are_rows {f : Addr} {fd : FuncData} (F : Fun K "_law_are_rows" "_law_are_rows" st__law_are_rows f fd) (F__law_whole : Fn2 P w K mg base 1 "_law_whole" sp__law_whole) (z_isinstance : mg "isinstance" = none) (z_list : mg "list" = none) (z_len : mg "len" = none) (z_tuple : mg "tuple" = none) (z_str : mg "str" = none) : FnOk P w K mg base CX0 (1 + 1) f fd ["_law_found"] (liftSp K sp__law_are_rows) := by
  refine fun_ok F sc__law_are_rows (by rintro ds Qd ⟨r, rfl, _⟩; rfl) (fun cdv A outer s H E hr ds Qd h => ?_)
  obtain ⟨rows, rfl, q⟩ := h
  refine ⟨_, (s_cons (s_if (t_not (t_val (e_isi (kind_list _) z_isinstance z_list (b_var 0))))
      (s_one (s_ret (e_bl)))
      s_nil)
      (s_cons (s_forL PassesOwn.never rfl (e_var 0) (g_name 1 sc__law_are_rows.nd)
      (s_cons (s_if (PW2.pt (t_or (t_not (t_val (e_isi (kind_tuple _) z_isinstance z_tuple (b_var 1)))) (t_or1 (t_cmp op_ne lf_neS (PE2.bo (e_len z_len (ab_cons (b_var 1) ab_nil))) (PE2.bo (e_int)) (nomark _)))))
      (s_one (s_ret (e_bl)))
      s_nil)
      (s_cons (s_if (PW2.pt (t_or (t_not (t_val (e_call F__law_whole hr (a_cons (e_ix (b_var 1) (PE2.bo (e_int))) a_nil)))) (t_or1 (t_not (t_val (e_call F__law_whole hr (a_cons (e_ix (b_var 1) (PE2.bo (e_int))) a_nil)))))))
      (s_one (s_ret (e_bl)))
      s_nil)
      (s_one (s_if (PW2.pt (t_or (t_not (t_val (e_isi (kind_str _) z_isinstance z_str (PE2.bo (e_ix (b_var 1) (PE2.bo (e_int))))))) (t_or1 (t_not (t_val (e_call F__law_whole hr (a_cons (e_ix (b_var 1) (PE2.bo (e_int))) a_nil)))))))
      (s_one (s_ret (e_bl)))
      s_nil)))))
      (s_one (s_ret (e_bl))))), ?_⟩
  refine if_f (not_by (b1 := true) (fun Q q => q)) ?_
  refine loop_ind (fun ds δ => ∃ rs : List Row, ds = rs.map Row.d ∧ δ = [.fr (.lst (rows.map Row.d)), .un]) ?_ ?_ _ _ ⟨rows, rfl, rfl⟩
  · rintro δ ⟨rs, e, rfl⟩
    exact q
  · rintro d r δ L hL ⟨rs, e, rfl⟩
    cases rs with
    | nil => cases e
    | cons r0 rs =>
      obtain ⟨rfl, rfl⟩ : d = r0.d ∧ r = rs.map Row.d := by cases e; exact ⟨rfl, rfl⟩
      refine if_f (or_ff (not_by (b1 := true) (fun Q q => q)) (RdT.eq (fun Q q => q) rfl)) ?_
      refine if_f (or_ff (not_by (b1 := true) (fun Q q => ⟨_, rfl, _, rfl, q⟩)) (not_by (b1 := true) (fun Q q => ⟨_, rfl, _, rfl, q⟩))) ?_
      refine if_f (or_ff (not_by (b1 := true) (fun Q q => ⟨_, rfl, q⟩)) (not_by (b1 := true) (fun Q q => ⟨_, rfl, _, rfl, q⟩))) ?_
      exact hL _ _ ⟨rs, rfl, rfl⟩ (by repeat constructor)
def sp_law : Sp2 := fun ds Q => ∃ ns : List Int, ds = [.lst (ns.map D.int)] ∧ ns.length ≤ 63 ∧ Q (.val (.bl true))
theorem IsFF.uniq {kvs : List (Key × D)} {rank : Int} {held : List Int} {d f g : Int} (h1 : IsFF kvs rank held d f) (h2 : IsFF kvs rank held d g) : f = g := by
  have no : ∀ {a b : Int}, IsFF kvs rank held d a → IsFF kvs rank held d b → ¬ a < b := fun {a b} ha hb hlt => by
    rcases hb.all a ha.le hlt with z | z
    · exact ha.nh z
    · rw [ha.op] at z; cases z
  have := no h1 h2
  have := no h2 h1
  omega
theorem ok_law {f : Addr} {fd : FuncData} (F : Fun K "law" "law" st_law f fd) (F_lay : Fn2 P w K mg base 5 "lay" sp_lay) (F__law_are_rows : Fn2 P w K mg base 5 "_law_are_rows" sp__law_are_rows) (F__law_digits : Fn2 P w K mg base 5 "_law_digits" sp__law_digits) (F__law_cell : Fn2 P w K mg base 5 "_law_cell" sp__law_cell) (z_dict : mg "dict" = none) (z_enumerate : mg "enumerate" = none) (z_range : mg "range" = none) : FnOk P w K mg base CX0 (5 + 1) f fd ["_law_script"] (liftSp K sp_law) := by
  refine fun_ok F sc_law (by rintro ds Qd ⟨ns, rfl, _⟩; rfl) (fun cdv A outer s H E hr ds Qd h => ?_)
  obtain ⟨ns, rfl, hlen, h⟩ := h
  have h_tail : ∃ t, PSs2 (cxOf CX0 P w K mg base N_law "law" (defScope st_law) f cdv A outer s H E).nox H ((defBody st_law).drop 8) t ∧ ∀ (big drawn r0 sm cl : D) (rank number year own : Int) (way : Str) (kvs : List (Key × D)), (way = "moves" ∨ way = "stays" ∨ way = "lapses") → Bounds kvs → (kvs.map (·.1)).Nodup → kvs.length ≤ 5000 →
      t { nx := fun _ => Qd (.val .non), rt := fun r _ => Qd r } [.fr (.lst (ns.map D.int)), .fr big, .fr drawn, .fr r0, .fr sm, .fr (.int number), .fr (.int year), .fr (.str way), .fr (.int own), .fr cl, .fr (.tup [.int rank, .int number, .int year, .str way, .int own]), .ow (.dK kvs), .un, .un, .un, .un, .un, .un, .un, .un, .un, .un] := by
    refine ⟨_, (s_freeze 11 (s_cons (s_set 17 sc_law.nd (PN2.fx (n_lst (a_cons (e_var 10) a_nil))))
      (s_cons (s_set 18 sc_law.nd (PN2.fx (n_dict z_dict (ab_cons (b_var 11) ab_nil))))
      (s_cons (s_set 19 sc_law.nd (e_call F_lay hr (a_cons (e_var 17) (a_cons (e_var 18) a_nil))))
      (s_cons (s_if (PW2.pt (t_or (t_not (t_val (e_call F__law_are_rows hr (a_cons (e_var 19) a_nil)))) (t_or (t_cmp (op_neD hr.units) lf_eqU (b_var 17) (PN2.bo (n_lst (a_cons (e_var 10) a_nil))) (nomark _)) (t_or1 (t_cmp (op_neDK hr.units) lf_eqDK (b_var 18) (b_var 11) (nomark _))))))
      (s_one (s_ret (e_bl)))
      s_nil)
      (s_cons (s_set 20 sc_law.nd (e_var 8))
      (s_cons (s_set 21 sc_law.nd (e_str))
      (s_cons (s_if (t_cmp op_eq lf_eqS (b_var 7) (PE2.bo (e_str)) (nomark _))
      (s_one (s_while PassesOwn.never (PW2.pt (t_and (t_din (hu_of hr) (b_var 20) (b_var 11)) (t_and1 (t_cmp op_gt lf_gt (PE2.bo (e_ix (b_var 10) (PE2.bo (e_int)))) (PE2.bo (e_dget (hu_of hr) (b_var 11) (b_var 20))) (nomark _)))))
      (s_one (s_augadd 20 sc_law.nd (e_int)))))
      (s_one (s_if (PW2.pt (t_and (t_din (hu_of hr) (b_var 20) (b_var 11)) (t_and1 (t_cmp op_gt lf_gt (PE2.bo (e_ix (b_var 10) (PE2.bo (e_int)))) (PE2.bo (e_dget (hu_of hr) (b_var 11) (b_var 20))) (nomark _)))))
      (s_cons (s_set 21 sc_law.nd (e_str))
      (s_one (s_if (t_cmp op_eq lf_eqS (b_var 7) (PE2.bo (e_str)) (nomark _))
      (s_one (s_set 21 sc_law.nd (e_str)))
      s_nil)))
      s_nil)))
      (s_one (s_ret (e_and (e_cmp (op_eqD hr.units) lf_eqU (b_var 19) (PN2.bo (n_lst (a_cons (e_tup (a_cons (e_var 5) (a_cons (e_var 6) (a_cons (e_var 21) (a_cons (e_var 20) a_nil))))) a_nil))) (nomark _)) (e_one (e_cmp (op_eqD hr.units) lf_eqU (PE2.bo (e_call F_lay hr (a_cons (PN2.fx (n_lst a_nil)) (a_cons (e_var 18) a_nil)))) (PN2.bo (n_lst a_nil)) (nomark _)))))))))))))), ?_⟩
    intro big drawn r0 sm cl rank number year own way kvs hway hb nd hk
    refine ⟨sz1, [⟨rank, number, year, way, own⟩], kvs, rfl, by simp, hb, by omega, fun rows held hl => ?_⟩
    cases hl with
    | cons hp hl =>
    cases hl
    rename_i how day
    have cut : ∀ (dd : D) (d' : Int) (hh fo : D), RdT (rAnd (rTest (rOp (dDIn false) (rVarB 20) (rVarB 11))) (rTest (rOp dGt (rOp dIx (rVarB 10) (rC (.int 0))) (rOp dDGet (rVarB 11) (rVarB 20)))))
        [.fr (.lst (ns.map D.int)), .fr big, .fr drawn, .fr r0, .fr sm, .fr (.int number), .fr (.int year), .fr (.str way), .fr (.int own), .fr cl, .fr (.tup [.int rank, .int number, .int year, .str way, .int own]), .fr (.dK kvs), .un, .un, .un, .un, .un, .fr dd, .fr (.dK kvs), .fr fo, .fr (.int d'), .fr hh] (!openM kvs rank d') := by
      intro dd d' hh fo
      have e0 : openM kvs rank d' = (match valD kvs (.inl d') with | some (.int b) => decide (rank ≤ b) | _ => true) := rfl
      cases e : valD kvs (.inl d') with
      | none => exact RdT.eq (and_f (RdT.eq (fun Q q => q) (by rw [e]; rfl))) (by rw [e0, e]; rfl)
      | some dv =>
        obtain ⟨b, rfl⟩ := hb.at e
        refine RdT.eq (and_by (b1 := true) (RdT.eq (fun Q q => q) (by rw [e]; rfl)) fun _ => fun Q q => ⟨_, rfl, _, e, q⟩) ?_
        rw [e0, e]
        by_cases hc : rank ≤ b
        · simp [hc]
        · simp [hc]; omega
    refine if_f (or_ff (not_by (b1 := true) (fun Q q => ⟨[⟨number, year, how, day⟩], rfl, q⟩)) (or_ff (RdT.eq (fun Q q => ⟨sz1, rfl, rfl, q⟩) ?_) (RdT.eq (fun Q q => ⟨hb.plain, hb.plain, q⟩) (by rw [eqDK_self nd hb.plain]; rfl)))) ?_
    · rw [eqD_self 3 (.lst [.tup [.int rank, .int number, .int year, .str way, .int own]]) rfl]; rfl
    have fin : ∀ (dd : D) (how' : Str) (day' : Int), how' = how → day' = day → RdE (rAndV (rOp (dEqU false) (rVarB 19) (rLstD (rCons (rTupD (rCons (rVar 5) (rCons (rVar 6) (rCons (rVar 21) (rCons (rVar 20) rNil))))) rNil))) (rOp (dEqU false) (rCall sp_lay (rCons (rLstD rNil) (rCons (rVar 18) rNil))) (rLstD rNil)))
        [.fr (.lst (ns.map D.int)), .fr big, .fr drawn, .fr r0, .fr sm, .fr (.int number), .fr (.int year), .fr (.str way), .fr (.int own), .fr cl, .fr (.tup [.int rank, .int number, .int year, .str way, .int own]), .fr (.dK kvs), .un, .un, .un, .un, .un, .fr dd, .fr (.dK kvs), .fr (.lst [.tup [.int number, .int year, .str how, .int day]]), .fr (.int day'), .fr (.str how')] (.bl true) := by
      intro dd how' day' e1 e2
      subst e1
      subst e2
      refine andV_tt (RdE.eq (fun Q q => ⟨sz4, sz1, rfl, rfl, q⟩) ?_) (fun Q q => ⟨Nat.zero_le _, [], kvs, rfl, by simp, hb, by omega, fun rows held hl => ?_⟩)
      · rw [eqD_self 3 (.lst [.tup [.int number, .int year, .str how', .int day']]) rfl]; rfl
      · cases hl
        exact ⟨Nat.zero_le _, rfl, rfl, q⟩
    refine if_eq (p := way = "moves") (fun Q q => q) (fun hm => ?_) (fun hm => ?_)
    · -- moves: walked day by day
      obtain ⟨ff, hhow⟩ : IsFF kvs rank [] own day ∧ how = "stands" := by
        cases hp with
        | stands ff h => exact ⟨ff, rfl⟩
        | noted ff h1 h2 h3 => exact absurd hm h1
        | gone ff h1 h2 h3 => exact absurd hm h1
      subst hhow
      refine while_ind (fun m δ => ∃ d' : Int, δ = [.fr (.lst (ns.map D.int)), .fr big, .fr drawn, .fr r0, .fr sm, .fr (.int number), .fr (.int year), .fr (.str way), .fr (.int own), .fr cl, .fr (.tup [.int rank, .int number, .int year, .str way, .int own]), .fr (.dK kvs), .un, .un, .un, .un, .un, .fr (.lst [.tup [.int rank, .int number, .int year, .str way, .int own]]), .fr (.dK kvs), .fr (.lst [.tup [.int number, .int year, .str "stands", .int day]]), .fr (.int d'), .fr (.str "stands")] ∧
        own ≤ d' ∧ (∀ x, own ≤ x → x < d' → openM kvs rank x = false) ∧ m = (ub (shutDom kvs) - d').toNat) _ ⟨own, rfl, Int.le_refl _, fun x h1 h2 => by omega, rfl⟩ ?_
      rintro m δ L hL ⟨d', rfl, h1, h2, rfl⟩
      refine cut _ d' _ _ _ ?_
      cases hop : openM kvs rank d' with
      | true => exact Two.f (fin _ _ _ rfl (IsFF.uniq ⟨h1, (fun z => by cases z), hop, (fun x a1 a2 => .inr (h2 x a1 a2))⟩ ff) _ h)
      | false =>
        refine Two.t (hL _ _ _ ⟨d' + 1, rfl, by omega, fun x a1 a2 => ?_, rfl⟩ (by have := ub_lt (shut_in hop); omega) (Fg.refl _))
        by_cases hx : x < d'
        · exact h2 x a1 hx
        · have : x = d' := by omega
          rw [this]; exact hop
    · cases hp with
      | stands ff hh =>
        have e1 : day = own := by
          rcases hh with z | z
          · exact absurd z hm
          · exact z
        subst e1
        refine if_f (RdT.eq (cut _ _ _ _) (by rw [ff.op]; rfl)) (fin _ _ _ rfl rfl _ h)
      | noted ff h1 h2 h3 =>
        have hcl : openM kvs rank own = false := by
          rcases ff.all own (Int.le_refl _) (by have := ff.le; simp only at this h2; omega) with z | z
          · exact nomatch z
          · exact z
        refine if_t (RdT.eq (cut _ _ _ _) (by rw [hcl]; rfl)) (if_f (RdT.eq (fun Q q => q) ?_) (fin _ _ _ rfl rfl _ h))
        rw [show way = "stays" from h3]; rfl
      | gone ff h1 h2 h3 =>
        have hcl : openM kvs rank own = false := by
          rcases ff.all own (Int.le_refl _) (by have := ff.le; simp only at this h2; omega) with z | z
          · exact nomatch z
          · exact z
        have hla : way = "lapses" := by
          rcases hway with z | z | z
          · exact absurd z h1
          · exact absurd z h3
          · exact z
        refine if_t (RdT.eq (cut _ _ _ _) (by rw [hcl]; rfl)) (if_t (RdT.eq (fun Q q => q) ?_) (fin _ _ _ rfl rfl _ h))
        rw [hla]; rfl
  obtain ⟨t1, h_rest1, h_tail⟩ := h_tail
  have h_tail2 : ∃ t, PSs2 (cxOf CX0 P w K mg base N_law "law" (defScope st_law) f cdv A outer s H E).nox H ((defBody st_law).drop 4) t ∧ ∀ (big drawn : D) (rank small number year way own close : Int), 0 ≤ way → way < 3 → 0 ≤ small → small < 2 → 0 ≤ close → close < 2 →
      t { nx := fun _ => Qd (.val .non), rt := fun r _ => Qd r } [.fr (.lst (ns.map D.int)), .fr big, .fr drawn, .fr (.int rank), .fr (.int small), .fr (.int number), .fr (.int year), .fr (.int way), .fr (.int own), .fr (.int close), .un, .un, .un, .un, .un, .un, .un, .un, .un, .un, .un, .un] := by
    have h_rest := h_rest1
    refine ⟨_, (s_cons (s_set 7 sc_law.nd (e_ix (PN2.bo (n_lst (a_cons (e_str) (a_cons (e_str) (a_cons (e_str) a_nil))))) (b_var 7)))
      (s_cons (s_set 10 sc_law.nd (e_tup (a_cons (e_add (PE2.bo (e_int)) (b_var 3)) (a_cons (e_var 5) (a_cons (e_var 6) (a_cons (e_var 7) (a_cons (e_var 8) a_nil)))))))
      (s_cons (s_setN 11 sc_law.nd (n_dK))
      (s_cons (s_forE PassesOwn.never rfl rfl z_enumerate (a_cons (PN2.fx (n_slL (b_var 0) (o_some (PE2.bo (e_int))) (o_some (PE2.bo (e_int))))) a_nil) (g_tup (n := 2) rfl (gs_cons (g_name 12 sc_law.nd) (gs_cons (g_name 13 sc_law.nd) gs_nil)))
      (s_cons (s_asg (e_call F__law_digits hr (a_cons (e_var 13) (a_cons (PN2.fx (n_lst (a_cons (e_int) (a_cons (e_int) a_nil)))) a_nil))) (g_lst (n := 2) rfl (gs_cons (g_name 14 sc_law.nd) (gs_cons (g_name 15 sc_law.nd) gs_nil))))
      (s_cons (s_if (t_cmp op_eq lf_eqS (b_var 9) (PE2.bo (e_int)) (nomark _))
      (s_one (s_set 15 sc_law.nd (e_var 12)))
      s_nil)
      (s_cons (s_if (t_cmp op_eq lf_eqS (PE2.bo (e_mul (b_var 9) (b_var 4))) (PE2.bo (e_int)) (nomark _))
      (s_one (s_dput 11 (hu_of hr) (e_add (b_var 8) (b_var 15)) (e_var 14)))
      s_nil)
      (s_one (s_forR1 PassesOwn.never rfl rfl z_range (a_cons (e_mul (PE2.bo (e_mul (PE2.bo (e_int)) (b_var 9))) (b_var 4)) a_nil) (g_name 16 sc_law.nd)
      (s_one (s_dput 11 (hu_of hr) (e_add (PE2.bo (e_add (b_var 8) (PE2.bo (e_mul (PE2.bo (e_int)) (b_var 12))))) (b_var 16)) (e_var 14)))))))))
      h_rest)))), ?_⟩
    intro big drawn rank small number year way own close w0 w1 s0 s1 c0 c1
    obtain ⟨w, hw, hway⟩ : ∃ w : Str, atI [D.str "moves", D.str "stays", D.str "lapses"] way = some (.str w) ∧ (w = "moves" ∨ w = "stays" ∨ w = "lapses") := by
      have h5' : way = 0 ∨ way = 1 ∨ way = 2 := by omega
      rcases h5' with rfl | rfl | rfl
      · exact ⟨_, rfl, .inl rfl⟩
      · exact ⟨_, rfl, .inr (.inl rfl)⟩
      · exact ⟨_, rfl, .inr (.inr rfl)⟩
    refine ⟨sz3, _, hw, sz5, ?_⟩
    have hcs : 0 ≤ 40 * close * small ∧ 40 * close * small ≤ 40 := by
      have c2 : close = 0 ∨ close = 1 := by omega
      have s2 : small = 0 ∨ small = 1 := by omega
      rcases c2 with rfl | rfl <;> rcases s2 with rfl | rfl <;> decide
    refine loop_ind (fun ds δ => ∃ (k : Nat) (ms : List Int) (kvs : List (Key × D)), ds = enumD k (ms.map D.int) ∧ δ = [.fr (.lst (ns.map D.int)), .fr big, .fr drawn, .fr (.int rank), .fr (.int small), .fr (.int number), .fr (.int year), .fr (.str w), .fr (.int own), .fr (.int close), .fr (.tup [.int (1 + rank), .int number, .int year, .str w, .int own]), .ow (.dK kvs), .un, .un, .un, .un, .un, .un, .un, .un, .un, .un] ∧
      Bounds kvs ∧ (kvs.map (·.1)).Nodup ∧ kvs.length ≤ 41 * k ∧ k + ms.length ≤ 63) ?_ ?_ _ _ ⟨0, (ns.drop 1).take 30, [], ?_, rfl, (fun _ z => nomatch z), List.nodup_nil, Nat.le_refl _, by simp; omega⟩
    · rintro δ ⟨k, ms, kvs, e, rfl, hb, nd, hk, hl⟩
      exact h_tail _ _ _ _ _ _ _ _ _ _ _ hway hb nd (by omega)
    · rintro d r δ L hL ⟨k, ms, kvs, e, rfl, hb, nd, hk, hl⟩
      cases ms with
      | nil => cases e
      | cons m ms =>
        obtain ⟨rfl, rfl⟩ : d = .tup [.int k, .int m] ∧ r = enumD (k + 1) (ms.map D.int) := by cases e; exact ⟨rfl, rfl⟩
        rw [List.length_cons] at hl
        refine ⟨rfl, sz2, _, [_, _], rfl, by decide, by decide, Drawn.two fun bound off b0 b1 o0 o1 => ⟨rfl, ?_⟩⟩
        have inner : ∀ (off' : Int) (kv : List (Key × D)), Bounds kv → (kv.map (·.1)).Nodup → kv.length ≤ kvs.length + 1 →
            rForR1 (rCons (rOp (dI CMul fun i j => .int (i * j)) (rOp (dI CMul fun i j => .int (i * j)) (rC (.int 40)) (rVarB 9)) (rVarB 4)) rNil) (gSet 16) (rDPut 11 (rOp (dI0 fun i j => .int (i + j)) (rOp (dI0 fun i j => .int (i + j)) (rVarB 8) (rOp (dI CMul fun i j => .int (i * j)) (rC (.int 40)) (rVarB 12))) (rVarB 16)) (rVar 14))
              { nx := L, rt := fun r _ => Qd r, bk := t1 { nx := fun _ => Qd (.val .non), rt := fun r _ => Qd r }, ct := L }
              [.fr (.lst (ns.map D.int)), .fr big, .fr drawn, .fr (.int rank), .fr (.int small), .fr (.int number), .fr (.int year), .fr (.str w), .fr (.int own), .fr (.int close), .fr (.tup [.int (1 + rank), .int number, .int year, .str w, .int own]), .ow (.dK kv), .fr (.int k), .fr (.int m), .fr (.int bound), .fr (.int off'), .un, .un, .un, .un, .un, .un] := by
          intro off' kv hb' nd' hk'
          refine ⟨cmulL, .inr ⟨by omega, by omega⟩, ⟨by omega, by omega⟩, ?_⟩
          refine loop_ind (fun ds δ => ∃ (j : Nat) (kv2 : List (Key × D)), ds = (rng 0 (40 * close * small).toNat).drop j ∧ j ≤ 40 ∧ δ = [.fr (.lst (ns.map D.int)), .fr big, .fr drawn, .fr (.int rank), .fr (.int small), .fr (.int number), .fr (.int year), .fr (.str w), .fr (.int own), .fr (.int close), .fr (.tup [.int (1 + rank), .int number, .int year, .str w, .int own]), .ow (.dK kv2), .fr (.int k), .fr (.int m), .fr (.int bound), .fr (.int off'), .un, .un, .un, .un, .un, .un] ∧
            Bounds kv2 ∧ (kv2.map (·.1)).Nodup ∧ kv2.length ≤ kvs.length + 1 + j) ?_ ?_ _ _ ⟨0, kv, rfl, Nat.zero_le _, rfl, hb', nd', by omega⟩
          · rintro δ ⟨j, kv2, e, hj, rfl, hb2, nd2, hk2⟩
            exact hL _ _ ⟨k + 1, ms, kv2, rfl, rfl, hb2, nd2, by omega, by omega⟩ (by repeat constructor)
          · rintro d r δ L2 hL2 ⟨j, kv2, e, hj, rfl, hb2, nd2, hk2⟩
            have hjn : j < (40 * close * small).toNat := by
              rcases Nat.lt_or_ge j (40 * close * small).toNat with z | z
              · exact z
              · rw [List.drop_of_length_le (by simp [rng]; omega)] at e; cases e
            rw [rng_drop 0 _ j hjn] at e
            obtain ⟨rfl, rfl⟩ : d = .int (0 + j) ∧ r = (rng 0 (40 * close * small).toNat).drop (j + 1) := by cases e; exact ⟨rfl, rfl⟩
            refine ⟨cmulL, big7 (by omega), hL2 _ _ ⟨j + 1, _, rfl, by omega, rfl, hb2.put, putD_nodup nd2, ?_⟩ (by repeat constructor)⟩
            have := putD_length kv2 (.inl (own + 40 * (k : Int) + (0 + (j : Int)))) (.int bound)
            omega
        have put1 : ∀ off' : Int, (putD kvs (.inl (own + off')) (.int bound)).length ≤ kvs.length + 1 := fun off' => putD_length _ _ _
        refine if_by (fun Q q => q) (fun _ => ?_) (fun _ => ?_)
        · exact if_by (fun Q q => ⟨.inr ⟨by omega, by omega⟩, q⟩) (fun _ => ⟨big7 (by omega), inner _ _ hb.put (putD_nodup nd) (put1 _)⟩) (fun _ => inner _ _ hb nd (by omega))
        · exact if_by (fun Q q => ⟨.inr ⟨by omega, by omega⟩, q⟩) (fun _ => ⟨big7 (by omega), inner _ _ hb.put (putD_nodup nd) (put1 _)⟩) (fun _ => inner _ _ hb nd (by omega))
    · show enumD 0 (cutD (ns.map D.int) (some ((1 : Nat) : Int)) (some ((31 : Nat) : Int))) = _
      rw [cut_mid, List.map_take, List.map_drop]
  obtain ⟨t2, h_rest, h_tail2⟩ := h_tail2
  refine ⟨_, (s_cons (s_set 1 sc_law.nd (e_add (PE2.bo (e_pow (PE2.bo (e_int)) (PE2.bo (e_int)))) (PE2.bo (e_int))))
      (s_cons (s_set 2 sc_law.nd (e_call F__law_digits hr (a_cons (e_call F__law_cell hr (a_cons (e_var 0) (a_cons (e_int) a_nil))) (a_cons (PN2.fx (n_lst (a_cons (e_int) (a_cons (e_int) (a_cons (e_var 1) (a_cons (e_var 1) (a_cons (e_int) (a_cons (e_pow (PE2.bo (e_int)) (PE2.bo (e_int))) (a_cons (e_int) a_nil))))))))) a_nil))))
      (s_cons (s_asg (e_var 2) (g_lst (n := 7) rfl (gs_cons (g_name 3 sc_law.nd) (gs_cons (g_name 4 sc_law.nd) (gs_cons (g_name 5 sc_law.nd) (gs_cons (g_name 6 sc_law.nd) (gs_cons (g_name 7 sc_law.nd) (gs_cons (g_name 8 sc_law.nd) (gs_cons (g_name 9 sc_law.nd) gs_nil)))))))))
      (s_cons (s_if (t_cmp op_eq lf_eqS (b_var 4) (PE2.bo (e_int)) (nomark _))
      (s_cons (s_set 5 sc_law.nd (e_mod (b_var 5) (PE2.bo (e_int))))
      (s_one (s_set 6 sc_law.nd (e_mod (b_var 6) (PE2.bo (e_int))))))
      s_nil)
      h_rest)))), ?_⟩
  refine ⟨cpow, _, _, rfl, by decide, fun v => ⟨cpow, sz7, _, [_, _, _, _, _, _, _], rfl, by decide, by decide, Drawn.seven fun rank small number year way own close h10 h11 h20 h21 h30 h31 h40 h41 h50 h51 h60 h61 h70 h71 => ⟨rfl, ?_⟩⟩⟩
  exact if_by (fun Q q => q) (fun _ => ⟨cpos, cpos, h_tail2 _ _ _ _ _ _ _ _ _ h50 h51 h20 h21 h70 h71⟩) (fun _ => h_tail2 _ _ _ _ _ _ _ _ _ h50 h51 h20 h21 h70 h71)
end

theorem all_mk {l : PySem.W.OpenLaw} {w : World} {K : PySem.W.Frag} {h : Heap} {mg : Str → Option Value} {fa : Addr} (X : K.In h) (G : h.Ns mainGlobals mg) (hfa : mg "law" = some (.ref fa))
    {od0 an0 : Option Addr} {sl0 : Array (Option Value)} {oc0 kV0 dc0 pm0 cd0 ct0 : Value} {f0 : Addr}
    (a0 : PySem.W.nsIn K mainGlobals "height" = some (some (.ref f0))) (l0 : K.lookup f0 = some ⟨oc0, od0, .func (PySem.W.fnOf "height" "height" (defArgs st_height) (defBody st_height) (defScope st_height) .none kV0 dc0 pm0 an0 cd0 ct0), sl0⟩) (c0 : PySem.W.codeIn K cd0 "height" = true) (k0 : PySem.W.keepIn K (.ref f0) = true)
{od1 an1 : Option Addr} {sl1 : Array (Option Value)} {oc1 kV1 dc1 pm1 cd1 ct1 : Value} {f1 : Addr}
    (a1 : PySem.W.nsIn K mainGlobals "ordered" = some (some (.ref f1))) (l1 : K.lookup f1 = some ⟨oc1, od1, .func (PySem.W.fnOf "ordered" "ordered" (defArgs st_ordered) (defBody st_ordered) (defScope st_ordered) .none kV1 dc1 pm1 an1 cd1 ct1), sl1⟩) (c1 : PySem.W.codeIn K cd1 "ordered" = true) (k1 : PySem.W.keepIn K (.ref f1) = true)
{od2 an2 : Option Addr} {sl2 : Array (Option Value)} {oc2 kV2 dc2 pm2 cd2 ct2 : Value} {f2 : Addr}
    (a2 : PySem.W.nsIn K mainGlobals "open_to" = some (some (.ref f2))) (l2 : K.lookup f2 = some ⟨oc2, od2, .func (PySem.W.fnOf "open_to" "open_to" (defArgs st_open_to) (defBody st_open_to) (defScope st_open_to) .none kV2 dc2 pm2 an2 cd2 ct2), sl2⟩) (c2 : PySem.W.codeIn K cd2 "open_to" = true) (k2 : PySem.W.keepIn K (.ref f2) = true)
{od3 an3 : Option Addr} {sl3 : Array (Option Value)} {oc3 kV3 dc3 pm3 cd3 ct3 : Value} {f3 : Addr}
    (a3 : PySem.W.nsIn K mainGlobals "first_free" = some (some (.ref f3))) (l3 : K.lookup f3 = some ⟨oc3, od3, .func (PySem.W.fnOf "first_free" "first_free" (defArgs st_first_free) (defBody st_first_free) (defScope st_first_free) .none kV3 dc3 pm3 an3 cd3 ct3), sl3⟩) (c3 : PySem.W.codeIn K cd3 "first_free" = true) (k3 : PySem.W.keepIn K (.ref f3) = true)
{od4 an4 : Option Addr} {sl4 : Array (Option Value)} {oc4 kV4 dc4 pm4 cd4 ct4 : Value} {f4 : Addr}
    (a4 : PySem.W.nsIn K mainGlobals "place_of" = some (some (.ref f4))) (l4 : K.lookup f4 = some ⟨oc4, od4, .func (PySem.W.fnOf "place_of" "place_of" (defArgs st_place_of) (defBody st_place_of) (defScope st_place_of) .none kV4 dc4 pm4 an4 cd4 ct4), sl4⟩) (c4 : PySem.W.codeIn K cd4 "place_of" = true) (k4 : PySem.W.keepIn K (.ref f4) = true)
{od5 an5 : Option Addr} {sl5 : Array (Option Value)} {oc5 kV5 dc5 pm5 cd5 ct5 : Value} {f5 : Addr}
    (a5 : PySem.W.nsIn K mainGlobals "lay" = some (some (.ref f5))) (l5 : K.lookup f5 = some ⟨oc5, od5, .func (PySem.W.fnOf "lay" "lay" (defArgs st_lay) (defBody st_lay) (defScope st_lay) .none kV5 dc5 pm5 an5 cd5 ct5), sl5⟩) (c5 : PySem.W.codeIn K cd5 "lay" = true) (k5 : PySem.W.keepIn K (.ref f5) = true)
{od6 an6 : Option Addr} {sl6 : Array (Option Value)} {oc6 kV6 dc6 pm6 cd6 ct6 : Value} {f6 : Addr}
    (a6 : PySem.W.nsIn K mainGlobals "_law_cell" = some (some (.ref f6))) (l6 : K.lookup f6 = some ⟨oc6, od6, .func (PySem.W.fnOf "_law_cell" "_law_cell" (defArgs st__law_cell) (defBody st__law_cell) (defScope st__law_cell) .none kV6 dc6 pm6 an6 cd6 ct6), sl6⟩) (c6 : PySem.W.codeIn K cd6 "_law_cell" = true) (k6 : PySem.W.keepIn K (.ref f6) = true)
{od7 an7 : Option Addr} {sl7 : Array (Option Value)} {oc7 kV7 dc7 pm7 cd7 ct7 : Value} {f7 : Addr}
    (a7 : PySem.W.nsIn K mainGlobals "_law_seed" = some (some (.ref f7))) (l7 : K.lookup f7 = some ⟨oc7, od7, .func (PySem.W.fnOf "_law_seed" "_law_seed" (defArgs st__law_seed) (defBody st__law_seed) (defScope st__law_seed) .none kV7 dc7 pm7 an7 cd7 ct7), sl7⟩) (c7 : PySem.W.codeIn K cd7 "_law_seed" = true) (k7 : PySem.W.keepIn K (.ref f7) = true)
{od8 an8 : Option Addr} {sl8 : Array (Option Value)} {oc8 kV8 dc8 pm8 cd8 ct8 : Value} {f8 : Addr}
    (a8 : PySem.W.nsIn K mainGlobals "_law_digits" = some (some (.ref f8))) (l8 : K.lookup f8 = some ⟨oc8, od8, .func (PySem.W.fnOf "_law_digits" "_law_digits" (defArgs st__law_digits) (defBody st__law_digits) (defScope st__law_digits) .none kV8 dc8 pm8 an8 cd8 ct8), sl8⟩) (c8 : PySem.W.codeIn K cd8 "_law_digits" = true) (k8 : PySem.W.keepIn K (.ref f8) = true)
{od9 an9 : Option Addr} {sl9 : Array (Option Value)} {oc9 kV9 dc9 pm9 cd9 ct9 : Value} {f9 : Addr}
    (a9 : PySem.W.nsIn K mainGlobals "_law_whole" = some (some (.ref f9))) (l9 : K.lookup f9 = some ⟨oc9, od9, .func (PySem.W.fnOf "_law_whole" "_law_whole" (defArgs st__law_whole) (defBody st__law_whole) (defScope st__law_whole) .none kV9 dc9 pm9 an9 cd9 ct9), sl9⟩) (c9 : PySem.W.codeIn K cd9 "_law_whole" = true) (k9 : PySem.W.keepIn K (.ref f9) = true)
{od10 an10 : Option Addr} {sl10 : Array (Option Value)} {oc10 kV10 dc10 pm10 cd10 ct10 : Value} {f10 : Addr}
    (a10 : PySem.W.nsIn K mainGlobals "_law_are_rows" = some (some (.ref f10))) (l10 : K.lookup f10 = some ⟨oc10, od10, .func (PySem.W.fnOf "_law_are_rows" "_law_are_rows" (defArgs st__law_are_rows) (defBody st__law_are_rows) (defScope st__law_are_rows) .none kV10 dc10 pm10 an10 cd10 ct10), sl10⟩) (c10 : PySem.W.codeIn K cd10 "_law_are_rows" = true) (k10 : PySem.W.keepIn K (.ref f10) = true)
{od11 an11 : Option Addr} {sl11 : Array (Option Value)} {oc11 kV11 dc11 pm11 cd11 ct11 : Value} {f11 : Addr}
    (a11 : PySem.W.nsIn K mainGlobals "law" = some (some (.ref f11))) (l11 : K.lookup f11 = some ⟨oc11, od11, .func (PySem.W.fnOf "law" "law" (defArgs st_law) (defBody st_law) (defScope st_law) .none kV11 dc11 pm11 an11 cd11 ct11), sl11⟩) (c11 : PySem.W.codeIn K cd11 "law" = true) (k11 : PySem.W.keepIn K (.ref f11) = true)
    (z_sorted : PySem.W.nsIn K mainGlobals "sorted" = some none)
    (z_len : PySem.W.nsIn K mainGlobals "len" = some none)
    (z_enumerate : PySem.W.nsIn K mainGlobals "enumerate" = some none)
    (z_isinstance : PySem.W.nsIn K mainGlobals "isinstance" = some none)
    (z_bool : PySem.W.nsIn K mainGlobals "bool" = some none)
    (z_int : PySem.W.nsIn K mainGlobals "int" = some none)
    (z_list : PySem.W.nsIn K mainGlobals "list" = some none)
    (z_tuple : PySem.W.nsIn K mainGlobals "tuple" = some none)
    (z_str : PySem.W.nsIn K mainGlobals "str" = some none)
    (z_dict : PySem.W.nsIn K mainGlobals "dict" = some none)
    (z_range : PySem.W.nsIn K mainGlobals "range" = some none) :
    ∃ fd : FuncData, (∀ (s : Shared) (v : Value), BindsTo s fd ⟨[v], []⟩ [("_law_script", v)]) ∧ ∀ base : Heap, K.In base → base.Ns mainGlobals mg → FnOk l.prog w K mg base CX0 6 fa fd ["_law_script"] (liftSp K sp_law) := by
  have e : f11 = fa := by
    have e := hfa.symm.trans (PySem.W.mg_of X G a11)
    cases e; rfl
  subst e
  have z_sorted := PySem.W.mg_none_of X G z_sorted
  have z_len := PySem.W.mg_none_of X G z_len
  have z_enumerate := PySem.W.mg_none_of X G z_enumerate
  have z_isinstance := PySem.W.mg_none_of X G z_isinstance
  have z_bool := PySem.W.mg_none_of X G z_bool
  have z_int := PySem.W.mg_none_of X G z_int
  have z_list := PySem.W.mg_none_of X G z_list
  have z_tuple := PySem.W.mg_none_of X G z_tuple
  have z_str := PySem.W.mg_none_of X G z_str
  have z_dict := PySem.W.mg_none_of X G z_dict
  have z_range := PySem.W.mg_none_of X G z_range
  have T0 := fun_mk (st := st_height) l0 c0 k0
  have b0 := T0.binds (ps := ["entry"]) fun _ _ _ _ _ _ us hl => match us, hl with | [_], _ => rfl
  have T1 := fun_mk (st := st_ordered) l1 c1 k1
  have b1 := T1.binds (ps := ["entries"]) fun _ _ _ _ _ _ us hl => match us, hl with | [_], _ => rfl
  have T2 := fun_mk (st := st_open_to) l2 c2 k2
  have b2 := T2.binds (ps := ["rank", "day", "shut"]) fun _ _ _ _ _ _ us hl => match us, hl with | [_, _, _], _ => rfl
  have T3 := fun_mk (st := st_first_free) l3 c3 k3
  have b3 := T3.binds (ps := ["rank", "day", "shut", "onward"]) fun _ _ _ _ _ _ us hl => match us, hl with | [_, _, _, _], _ => rfl
  have T4 := fun_mk (st := st_place_of) l4 c4 k4
  have b4 := T4.binds (ps := ["entry", "shut", "onward"]) fun _ _ _ _ _ _ us hl => match us, hl with | [_, _, _], _ => rfl
  have T5 := fun_mk (st := st_lay) l5 c5 k5
  have b5 := T5.binds (ps := ["entries", "shut"]) fun _ _ _ _ _ _ us hl => match us, hl with | [_, _], _ => rfl
  have T6 := fun_mk (st := st__law_cell) l6 c6 k6
  have b6 := T6.binds (ps := ["_law_script", "_law_place"]) fun _ _ _ _ _ _ us hl => match us, hl with | [_, _], _ => rfl
  have T7 := fun_mk (st := st__law_seed) l7 c7 k7
  have b7 := T7.binds (ps := ["_law_cell_here"]) fun _ _ _ _ _ _ us hl => match us, hl with | [_], _ => rfl
  have T8 := fun_mk (st := st__law_digits) l8 c8 k8
  have b8 := T8.binds (ps := ["_law_cell_here", "_law_sizes"]) fun _ _ _ _ _ _ us hl => match us, hl with | [_, _], _ => rfl
  have T9 := fun_mk (st := st__law_whole) l9 c9 k9
  have b9 := T9.binds (ps := ["_law_thing"]) fun _ _ _ _ _ _ us hl => match us, hl with | [_], _ => rfl
  have T10 := fun_mk (st := st__law_are_rows) l10 c10 k10
  have b10 := T10.binds (ps := ["_law_found"]) fun _ _ _ _ _ _ us hl => match us, hl with | [_], _ => rfl
  have T11 := fun_mk (st := st_law) l11 c11 k11
  have b11 := T11.binds (ps := ["_law_script"]) fun _ _ _ _ _ _ us hl => match us, hl with | [_], _ => rfl
  have G0 : ∀ base : Heap, FnOk l.prog w K mg base CX0 (0 + 1) f0 _ _ (liftSp K sp_height) := fun base => ok_height T0  
  have G1 : ∀ base : Heap, FnOk l.prog w K mg base CX0 (3 + 1) f1 _ _ (liftSp K sp_ordered) := fun base => ok_ordered T1  (⟨⟨_, _, _, (G0 base).mono (by decide), PySem.W.mg_of X G a0, k0, b0⟩⟩ : Fn2 l.prog w K mg base 1 "height" sp_height) z_sorted
  have G2 : ∀ base : Heap, FnOk l.prog w K mg base CX0 (0 + 1) f2 _ _ (liftSp K sp_open_to) := fun base => ok_open_to T2  
  have G3 : ∀ base : Heap, FnOk l.prog w K mg base CX0 (1 + 1) f3 _ _ (liftSp3 K sp_first_free) := fun base => ok_first_free T3 (⟨⟨_, _, _, (G2 base).mono (by decide), PySem.W.mg_of X G a2, k2, b2⟩⟩ : Fn2 l.prog w K mg base 1 "open_to" sp_open_to) 
  have G4 : ∀ base : Heap, FnOk l.prog w K mg base CX0 (2 + 1) f4 _ _ (liftSp3 K sp_place_of) := fun base => ok_place_of T4 (⟨⟨_, _, _, (G3 base).mono (by decide), PySem.W.mg_of X G a3, k3, b3⟩⟩ : Fn3 l.prog w K mg base 2 "first_free" sp_first_free) 
  have G5 : ∀ base : Heap, FnOk l.prog w K mg base CX0 (4 + 1) f5 _ _ (liftSp K sp_lay) := fun base => ok_lay T5 (⟨⟨_, _, _, (G1 base).mono (by decide), PySem.W.mg_of X G a1, k1, b1⟩⟩ : Fn2 l.prog w K mg base 4 "ordered" sp_ordered) (⟨⟨_, _, _, (G4 base).mono (by decide), PySem.W.mg_of X G a4, k4, b4⟩⟩ : Fn3 l.prog w K mg base 4 "place_of" sp_place_of) 
  have G6 : ∀ base : Heap, FnOk l.prog w K mg base CX0 (0 + 1) f6 _ _ (liftSp K sp__law_cell) := fun base => ok__law_cell T6  z_len
  have G7 : ∀ base : Heap, FnOk l.prog w K mg base CX0 (0 + 1) f7 _ _ (liftSp K sp__law_seed) := fun base => ok__law_seed T7  
  have G8 : ∀ base : Heap, FnOk l.prog w K mg base CX0 (1 + 1) f8 _ _ (liftSp K sp__law_digits) := fun base => ok__law_digits T8 (⟨⟨_, _, _, (G7 base).mono (by decide), PySem.W.mg_of X G a7, k7, b7⟩⟩ : Fn2 l.prog w K mg base 1 "_law_seed" sp__law_seed) z_enumerate
  have G9 : ∀ base : Heap, FnOk l.prog w K mg base CX0 (0 + 1) f9 _ _ (liftSp K sp__law_whole) := fun base => ok__law_whole T9  z_isinstance z_bool z_int
  have G10 : ∀ base : Heap, FnOk l.prog w K mg base CX0 (1 + 1) f10 _ _ (liftSp K sp__law_are_rows) := fun base => ok__law_are_rows T10 (⟨⟨_, _, _, (G9 base).mono (by decide), PySem.W.mg_of X G a9, k9, b9⟩⟩ : Fn2 l.prog w K mg base 1 "_law_whole" sp__law_whole) z_isinstance z_list z_len z_tuple z_str
  have G11 : ∀ base : Heap, FnOk l.prog w K mg base CX0 (5 + 1) f11 _ _ (liftSp K sp_law) := fun base => ok_law T11 (⟨⟨_, _, _, (G5 base).mono (by decide), PySem.W.mg_of X G a5, k5, b5⟩⟩ : Fn2 l.prog w K mg base 5 "lay" sp_lay) (⟨⟨_, _, _, (G10 base).mono (by decide), PySem.W.mg_of X G a10, k10, b10⟩⟩ : Fn2 l.prog w K mg base 5 "_law_are_rows" sp__law_are_rows) (⟨⟨_, _, _, (G8 base).mono (by decide), PySem.W.mg_of X G a8, k8, b8⟩⟩ : Fn2 l.prog w K mg base 5 "_law_digits" sp__law_digits) (⟨⟨_, _, _, (G6 base).mono (by decide), PySem.W.mg_of X G a6, k6, b6⟩⟩ : Fn2 l.prog w K mg base 5 "_law_cell" sp__law_cell) z_dict z_enumerate z_range
  exact ⟨PySem.W.fnOf "law" "law" (defArgs st_law) (defBody st_law) (defScope st_law) .none kV11 dc11 pm11 an11 cd11 ct11, fun s v => .of_eq rfl, fun base _ _ => G11 base⟩
theorem law_sp {K : PySem.W.Frag} {H : Hp} {a : Addr} {ns : List Int} (hl : ns.length ≤ 63) (hS : SqL K H a (ns.map V.int)) : liftSp K sp_law [.ref a] H (fun v _ => v = .bl true) E0 :=
  ⟨[.lst (ns.map .int)], fun r => r = .val (.bl true), Reps.cons (by simp only [Rep]; exact ⟨a, _, rfl, hS, Reps.ints ns⟩) Reps.nil, ⟨ns, rfl, hl, rfl⟩, fun v H' r ok e => by subst e; exact (by simpa only [Rep] using ok.2)⟩
theorem walk {l : PySem.W.OpenLaw} {q : Program} {loose : List Str} {XP : (Str → Option Value) → Heap → Prop} {YP : World → Heap → Prop} {d : DefRec} {K : Params → PySem.W.Frag} (hn : l.most = some 63) (hdf : d.params.defaults = [])
    (hY : ∀ (w : World) (h : Heap), YP w h → (K w.params).In h)
    (F : ∀ (w : World) (mg : Str → Option Value) (fa : Addr) (h : Heap), (K w.params).In h → h.Ns mainGlobals mg → mg d.name = some (.ref fa) →
      ∃ fd : FuncData, (∀ (s : Shared) (u : Value), BindsTo s fd ⟨[u], []⟩ [("_law_script", u)]) ∧ ∀ base : Heap, (K w.params).In base → base.Ns mainGlobals mg → FnOk l.prog w (K w.params) mg base CX0 6 fa fd ["_law_script"] (liftSp (K w.params) sp_law)) :
    PySem.W.WalkO q loose XP YP l.row.toRowW d [] (fun f vs => PySem.call f vs) :=
  L2.walk_of (n := 63) (k := 6) (x := "_law_script") (CX := fun _ => CX0) (sp := fun w => liftSp (K w.params) sp_law) hn (by decide) hdf ⟨rfl, by decide, by decide⟩ hY F (fun _ _ a ns hl _ hS => law_sp hl hS) fun _ _ _ _ _ z => z
end My
open PySem PySem.W PyProof.Rows
set_option maxRecDepth 100000 in
set_option maxHeartbeats 0 in
theorem PySem.Challenge.cw_feastfall_k06_one_entry_alone_holds : PySem.Challenge.rw_feastfall_k06_one_entry_alone.Holds := by
  w_on; o_law; k_head; (case hw => w_witness2)
  k_fill
  refine My.walk (l := PySem.Challenge.rw_feastfall_k06_one_entry_alone) rfl rfl (fun w h Y => PySem.W.kIn_of Y) ?F
  case F =>
    intro w mg fa h KX G hmg
    refine' My.all_mk KX G hmg ?a0 ?l0 ?c0 ?k0 ?a1 ?l1 ?c1 ?k1 ?a2 ?l2 ?c2 ?k2 ?a3 ?l3 ?c3 ?k3 ?a4 ?l4 ?c4 ?k4 ?a5 ?l5 ?c5 ?k5 ?a6 ?l6 ?c6 ?k6 ?a7 ?l7 ?c7 ?k7 ?a8 ?l8 ?c8 ?k8 ?a9 ?l9 ?c9 ?k9 ?a10 ?l10 ?c10 ?k10 ?a11 ?l11 ?c11 ?k11 ?z_sorted ?z_len ?z_enumerate ?z_isinstance ?z_bool ?z_int ?z_list ?z_tuple ?z_str ?z_dict ?z_range
    (case a0 => k_is); (case l0 => k_is); (case c0 => k_is); (case k0 => k_is); (case a1 => k_is); (case l1 => k_is); (case c1 => k_is); (case k1 => k_is); (case a2 => k_is); (case l2 => k_is); (case c2 => k_is); (case k2 => k_is); (case a3 => k_is); (case l3 => k_is); (case c3 => k_is); (case k3 => k_is); (case a4 => k_is); (case l4 => k_is); (case c4 => k_is); (case k4 => k_is); (case a5 => k_is); (case l5 => k_is); (case c5 => k_is); (case k5 => k_is); (case a6 => k_is); (case l6 => k_is); (case c6 => k_is); (case k6 => k_is); (case a7 => k_is); (case l7 => k_is); (case c7 => k_is); (case k7 => k_is); (case a8 => k_is); (case l8 => k_is); (case c8 => k_is); (case k8 => k_is); (case a9 => k_is); (case l9 => k_is); (case c9 => k_is); (case k9 => k_is); (case a10 => k_is); (case l10 => k_is); (case c10 => k_is); (case k10 => k_is); (case a11 => k_is); (case l11 => k_is); (case c11 => k_is); (case k11 => k_is); (case z_sorted => k_is); (case z_len => k_is); (case z_enumerate => k_is); (case z_isinstance => k_is); (case z_bool => k_is); (case z_int => k_is); (case z_list => k_is); (case z_tuple => k_is); (case z_str => k_is); (case z_dict => k_is); (case z_range => k_is)


