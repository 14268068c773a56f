import PyProof.Rows.All
import Wide.All
import OpenK.AllK
import Wide.FinOn
import Lean
import PyProof.EqAt
import PyProof.EqKinds
import PyProof.TupleCall
import PySem.Challenge.RW_feastfall_k36_texts_that_write_no_order
set_option Elab.async false
set_option linter.all false
set_option maxRecDepth 100000
namespace L2
open PySem PySem.Spec PyProof.Rows
abbrev Key := Sum Int Str
def keyIs : Key -> Value -> Bool
  | .inl k, v => Value.isInt k v
  | .inr x, v => Value.isStrOf x v
def keyH (w : World) : Key -> Int
  | .inl k => hashInt k
  | .inr x => hashStr w x
theorem keyIs_shape : ∀ {k : Key} {v : Value}, keyIs k v = true -> (∃ i t, k = Sum.inl i /\ v = Value.int i t) \/ (∃ x t, k = Sum.inr x /\ v = Value.str x t)
  | .inl i, v, h => by
    obtain ⟨t, e⟩ := Value.isInt_shape (k := i) (v := v) h; exact .inl ⟨i, t, rfl, e⟩
  | .inr x, v, h => by
    obtain ⟨t, e⟩ := Value.isStrOf_shape (x := x) (v := v) h; exact .inr ⟨x, t, rfl, e⟩
theorem keyIs_int (i : Int) (t : Tok) : keyIs (.inl i) (.int i t) = true := by simp [keyIs, Value.isInt]
theorem keyIs_str (x : Str) (t : Tok) : keyIs (.inr x) (.str x t) = true := by simp [keyIs, Value.isStrOf]
theorem key_ll (a b : Int) : decide ((Sum.inl a : Key) = Sum.inl b) = (a == b) := by
  by_cases e : a = b
  · subst e; simp
  · have h : ¬ (Sum.inl a : Key) = Sum.inl b := fun q => e (Sum.inl.inj q)
    rw [decide_eq_false h]; exact (beq_eq_false_iff_ne.mpr e).symm
theorem key_rr (a b : Str) : decide ((Sum.inr a : Key) = Sum.inr b) = decide (a = b) := by
  by_cases e : a = b
  · subst e; simp
  · have h : ¬ (Sum.inr a : Key) = Sum.inr b := fun q => e (Sum.inr.inj q)
    rw [decide_eq_false h, decide_eq_false e]
theorem key_lr (a : Int) (b : Str) : decide ((Sum.inl a : Key) = Sum.inr b) = false := decide_eq_false (fun q => nomatch q)
theorem key_rl (a : Str) (b : Int) : decide ((Sum.inr a : Key) = Sum.inl b) = false := decide_eq_false (fun q => nomatch q)
def mixKind (prog : Program) (w : World) : PySem.KeyKind prog w Key where
  is := keyIs
  hash := keyH w
  inj := fun v a b ha hb => by
    rcases keyIs_shape ha with ⟨i, t, rfl, rfl⟩ | ⟨x, t, rfl, rfl⟩
    · rcases keyIs_shape hb with ⟨j, u, rfl, e⟩ | ⟨y, u, rfl, e⟩
      · injection e with e1 _; rw [e1]
      · exact nomatch e
    · rcases keyIs_shape hb with ⟨j, u, rfl, e⟩ | ⟨y, u, rfl, e⟩
      · exact nomatch e
      · injection e with e1 _; rw [e1]
  byValue := fun k v h => by
    rcases keyIs_shape h with ⟨i, t, rfl, rfl⟩ | ⟨x, t, rfl, rfl⟩ <;> rfl
  pyHash := fun hv h => by
    rcases keyIs_shape hv with ⟨i, t, rfl, rfl⟩ | ⟨x, t, rfl, rfl⟩
    · exact wpAny_pyHash_int h
    · exact wpAny_pyHash_str h
  eqBool := fun hu hv h => by
    rcases keyIs_shape hu with ⟨i, t, rfl, rfl⟩ | ⟨x, t, rfl, rfl⟩
    · rcases keyIs_shape hv with ⟨j, u, rfl, rfl⟩ | ⟨y, u, rfl, rfl⟩
      · rw [key_ll] at h; exact wpAny_eqBool_int h
      · rw [key_lr] at h; exact SeqAt.EqAt.int_str i t y u _ _ _ _ h
    · rcases keyIs_shape hv with ⟨j, u, rfl, rfl⟩ | ⟨y, u, rfl, rfl⟩
      · rw [key_rl] at h; exact SeqAt.EqAt.str_int x t j u _ _ _ _ h
      · rw [key_rr] at h; exact wpAny_eqBool_str h
  «strs» := fun k x t v h => by
    rcases keyIs_shape h with ⟨i, u, rfl, e⟩ | ⟨y, u, rfl, e⟩
    · exact nomatch e
    · injection e with e1 _
      subst e1
      cases v <;> rfl
theorem mixKind_int (prog : Program) (w : World) (i : Int) (t : Tok) : (mixKind prog w).is (.inl i) (.int i t) = true := keyIs_int i t
theorem mixKind_str (prog : Program) (w : World) (x : Str) (t : Tok) : (mixKind prog w).is (.inr x) (.str x t) = true := keyIs_str x t
inductive V where
  | non | bl (b : Bool) | int (i : Int) | str (x : Str) | byt (b : Array UInt8) | flt (b : UInt64) | ref (a : Addr) | ty (n : String)
  deriving DecidableEq
def RelV : V -> Value -> Prop
  | .non, u => u = Value.none
  | .bl b, u => u = Value.bool b
  | .int i, u => ∃ t, u = Value.int i t
  | .str x, u => ∃ t, u = Value.str x t
  | .byt b, u => ∃ t, u = Value.bytes b t
  | .flt b, u => ∃ t, u = Value.float b t
  | .ref a, u => u = Value.ref a
  | .ty n, u => u = Value.type n
abbrev Vals : List V -> List Value -> Prop := Paired RelV
theorem Vals.length {xs : List V} {us : List Value} (r : Vals xs us) : xs.length = us.length := Paired.length r
theorem Vals.get : ∀ {xs : List V} {us : List Value} {i : Nat} {x : V}, Vals xs us -> xs[i]? = some x -> ∃ u, us[i]? = some u /\ RelV x u
  | _, _, _, _, .nil, e => by simp at e
  | _, _, 0, _, .cons r _, e => by simp at e; subst e; exact ⟨_, rfl, r⟩
  | _, _, i + 1, x, .cons _ t, e => by
    obtain ⟨u, h1, h2⟩ := Vals.get (i := i) (x := x) t (by simpa using e); exact ⟨u, by simpa using h1, h2⟩
theorem Vals.append : ∀ {xs ys : List V} {us ws : List Value}, Vals xs us -> Vals ys ws -> Vals (xs ++ ys) (us ++ ws)
  | _, _, _, _, .nil, s => s
  | _, _, _, _, .cons r t, s => .cons r (Vals.append t s)
theorem Vals.take : ∀ {xs : List V} {us : List Value} (n : Nat), Vals xs us -> Vals (xs.take n) (us.take n)
  | _, _, 0, _ => .nil
  | _, _, _ + 1, .nil => .nil
  | _, _, n + 1, .cons r t => .cons r (Vals.take n t)
theorem Vals.drop : ∀ {xs : List V} {us : List Value} (n : Nat), Vals xs us -> Vals (xs.drop n) (us.drop n)
  | _, _, 0, r => r
  | _, _, _ + 1, .nil => .nil
  | _, _, n + 1, .cons _ t => Vals.drop n t
def RelO : Option V -> Option Value -> Prop
  | some v, some u => RelV v u
  | none, none => True
  | _, _ => False
def KV {κ : Type} : List (κ × V) -> List (κ × Value) -> Prop := Paired fun (p : κ × V) (q : κ × Value) => p.1 = q.1 /\ RelV p.2 q.2
def kV : Key -> V
  | .inl i => .int i
  | .inr x => .str x
inductive HO where
  | lst (xs : List V)
  | tup (xs : List V)
  | dK (kvs : List (Key × V)) | dT (kvs : List (List Key × V))
  | set (S : Int -> Bool) (n : Nat)
  | ins (C dx : Addr) (fs : List (Str × V))
  | own (x : Addr)
  | xd (fs : List (Str × V))
  | met (f x : Addr)
  | rng (lo hi : Int)
  | frz (o : Obj) (u : HO)
  | tbl (ps : Array Value)
  | ext (φ : Heap -> Prop)
abbrev Hp := Addr -> Option HO
def upd (H : Hp) (a : Addr) (o : HO) : Hp := fun b => if b = a then some o else H b
theorem upd_same {H : Hp} {a : Addr} {o : HO} : upd H a o a = some o := by unfold upd; rw [if_pos rfl]
theorem upd_ne {H : Hp} {a b : Addr} {o : HO} (h : b ≠ a) : upd H a o b = H b := by unfold upd; rw [if_neg h]
theorem ne_of_none {H : Hp} {a b : Addr} {o : HO} (h : H a = some o) (h' : H b = none) : a ≠ b := by
  intro e; subst e; rw [h] at h'; cases h'
section
variable (P : Program) (w : World)
def ObjOk (H : Hp) (h : Heap) (a : Addr) : HO -> Prop
  | .lst xs => xs.length <= sizeLine /\ ∃ (its : List Value) (n : Nat), Vals xs its /\ h.get? a = some { cls := .type "list", data := .seq its.toArray n }
  | .tup xs => xs.length <= sizeLine /\ ∃ its : List Value, Vals xs its /\ IsTup h a its.toArray
  | .dK kvs => kvs.length <= sizeLine /\ (a == sysModules) = false /\ ∃ vs, KV kvs vs /\ h.DictOf (mixKind P w) a vs
  | .dT kvs => kvs.length <= sizeLine /\ (a == sysModules) = false /\ ∃ xs : List (List Key × Addr × Value),
      Paired (fun (p : List Key × V) (q : List Key × Addr × Value) => p.1 = q.1 /\ H q.2.1 = some (.tup (p.1.map kV)) /\ RelV p.2 q.2.2) kvs xs /\
      ∃ o es ep, h.get? a = some o /\ o.ExactDict /\ o.data = .dict es ep /\ es.toList = xs.map (entryOfKey (tupleKind (mixKind P w))) /\ (xs.map (·.1)).Nodup
  | .set S n => h.SetOf (intKind P w) a S n
  | .ins C dx fs => H dx = some (.own a) /\ fs.length <= 1000 /\ dx ≠ a /\ h.get? a = some (PySem.W.instObj C dx) /\
      ∃ mA, h.Ns1 dx mA /\ (∀ f, RelO (fs.lookup f) (mA f)) /\ PySem.Within mA (fs.map (·.1))
  | .own _ => ∃ o, h.get? a = some o
  | .xd fs => ∃ mA, h.Ns1 a mA /\ ∀ f, RelO (fs.lookup f) (mA f)
  | .rng lo hi => ∃ t u v, h.get? a = some { cls := .type "range", data := .fields #[.int lo t, .int hi u, .int 1 v] }
  | .frz o u => h.get? a = some o /\ ObjOk H h a u
  | .tbl ps => h.get? a = some { cls := .none, data := .fields ps }
  | .met f x => h.get? a = some (PySem.W.methodObj (.ref f) (.ref x))
  | .ext φ => φ h /\ (∃ o, h.get? a = some o) /\ ∀ h1 h2 : Heap, φ h1 -> (∀ o, h1.get? a = some o -> h2.get? a = some o) -> φ h2
def HOk (H : Hp) (h : Heap) : Prop := ∀ a o, H a = some o -> ObjOk P w H h a o
end
section
variable {P : Program} {w : World} {H H' : Hp} {h h' : Heap} {a : Addr} {o : HO}
theorem ObjOk.lt (x : ObjOk P w H h a o) : a < h.objs.size := by
  cases o with
  | lst xs => obtain ⟨_, _, _, _, e⟩ := x; exact Heap.lt_size e
  | tup xs => obtain ⟨_, _, _, p⟩ := x; exact p.lt
  | dK kvs => obtain ⟨_, _, _, _, o, _, _, e, _⟩ := x; exact Heap.lt_size e
  | dT kvs => obtain ⟨_, _, _, _, o, _, _, e, _⟩ := x; exact Heap.lt_size e
  | set S n => obtain ⟨o, _, _, _, e, _⟩ := x; exact Heap.lt_size e
  | ins C dx fs => obtain ⟨_, _, _, e, _⟩ := x; exact Heap.lt_size e
  | own y => obtain ⟨_, e⟩ := x; exact Heap.lt_size e
  | xd fs => obtain ⟨_, ⟨_, _, _, e, _⟩, _⟩ := x; exact Heap.lt_size e
  | rng lo hi => obtain ⟨_, _, _, e⟩ := x; exact Heap.lt_size e
  | frz ob u => obtain ⟨e, _⟩ := x; exact Heap.lt_size e
  | tbl ps => exact Heap.lt_size (show h.get? a = some _ from x)
  | met f y => exact Heap.lt_size (show h.get? a = some _ from x)
  | ext φ => obtain ⟨_, ⟨_, e⟩, _⟩ := x; exact Heap.lt_size e
theorem Paired.mapP {α β : Type} {F G : α -> β -> Prop} : ∀ {l₁ : List α} {l₂ : List β}, Paired F l₁ l₂ -> (∀ a b, F a b -> G a b) -> Paired G l₁ l₂
  | _, _, .nil, _ => .nil
  | _, _, .cons r t, f => .cons (f _ _ r) (Paired.mapP t f)
theorem ObjOk.stay (x : ObjOk P w H h a o) (k : ∀ b u, (b = a \/ H b = some (.own a)) -> h.get? b = some u -> h'.get? b = some u)
 (ho : ∀ b, H b = some (.own a) -> H' b = some (.own a)) (ht : ∀ b xs, H b = some (.tup xs) -> H' b = some (.tup xs)) : ObjOk P w H' h' a o := by
  induction o with
  | lst xs => obtain ⟨z, its, n, r, e⟩ := x; exact ⟨z, its, n, r, k _ _ (.inl rfl) e⟩
  | tup xs => obtain ⟨z, its, r, ob, e, c⟩ := x; exact ⟨z, its, r, ob, k _ _ (.inl rfl) e, c⟩
  | dK kvs => obtain ⟨z, y, vs, r, ob, es, ep, e, c⟩ := x; exact ⟨z, y, vs, r, ob, es, ep, k _ _ (.inl rfl) e, c⟩
  | dT kvs =>
    obtain ⟨z, y, xs, r, ob, es, ep, e, c⟩ := x; exact ⟨z, y, xs, Paired.mapP r fun p q z => ⟨z.1, ht _ _ z.2.1, z.2.2⟩, ob, es, ep, k _ _ (.inl rfl) e, c⟩
  | set S n => obtain ⟨ob, es, ep, t, e, c⟩ := x; exact ⟨ob, es, ep, t, k _ _ (.inl rfl) e, c⟩
  | ins C dx fs =>
    obtain ⟨d, z, ne, e, mA, ⟨od, es, ep, e2, c⟩, r⟩ := x; exact ⟨ho _ d, z, ne, k _ _ (.inl rfl) e, mA, ⟨od, es, ep, k _ _ (.inr d) e2, c⟩, r⟩
  | own y => obtain ⟨ob, e⟩ := x; exact ⟨ob, k _ _ (.inl rfl) e⟩
  | xd fs => obtain ⟨mA, ⟨od, es, ep, e, c⟩, r⟩ := x; exact ⟨mA, ⟨od, es, ep, k _ _ (.inl rfl) e, c⟩, r⟩
  | rng lo hi => obtain ⟨t, u, v, e⟩ := x; exact ⟨t, u, v, k _ _ (.inl rfl) e⟩
  | frz ob u ih => obtain ⟨e, q⟩ := x; exact ⟨k _ _ (.inl rfl) e, ih q⟩
  | tbl ps =>
    have e : h.get? a = some { cls := .none, data := .fields ps } := x
    show h'.get? a = some { cls := .none, data := .fields ps }
    exact k a _ (.inl rfl) e
  | met f y =>
    have e : h.get? a = some (PySem.W.methodObj (.ref f) (.ref y)) := x
    show h'.get? a = some (PySem.W.methodObj (.ref f) (.ref y))
    exact k a _ (.inl rfl) e
  | ext φ => obtain ⟨p, ⟨o, e⟩, st⟩ := x; exact ⟨st _ _ p fun o q => k _ _ (.inl rfl) q, ⟨o, k _ _ (.inl rfl) e⟩, st⟩
theorem HOk.lt (x : HOk P w H h) (e : H a = some o) : a < h.objs.size := (x a o e).lt
theorem HOk.fresh (x : HOk P w H h) (e : h.objs.size <= a) : H a = none := by
  cases q : H a with
  | none => rfl
  | some u => exact absurd (Nat.lt_of_lt_of_le (x.lt q) e) (Nat.lt_irrefl _)
theorem HOk.kept (x : HOk P w H h) (k : ∀ b u, h.get? b = some u -> h'.get? b = some u) : HOk P w H h' := fun a o e =>
  (x a o e).stay (fun b u _ q => k b u q) (fun _ q => q) fun _ _ q => q
theorem HOk.laid (x : HOk P w H h) (k : ∀ b u, h.get? b = some u -> h'.get? b = some u) (hp : h.objs.size <= a) (new : ObjOk P w (upd H a o) h' a o) : HOk P w (upd H a o) h' := fun b u e => by
  have hn := x.fresh hp
  by_cases hb : b = a
  · subst hb; rw [upd_same] at e; cases e; exact new
  · rw [upd_ne hb] at e
    exact (x b u e).stay (fun c v _ q => k c v q) (fun c q => by rw [upd_ne (ne_of_none q hn)]; exact q) fun c xs q => by rw [upd_ne (ne_of_none q hn)]; exact q
end
def Rd (H : Hp) (a : Addr) (u : HO) : Prop := H a = some u \/ ∃ o, H a = some (.frz o u)
theorem Rd.ok {P : Program} {w : World} {H : Hp} {h : Heap} {a : Addr} {u : HO} (r : Rd H a u) (x : HOk P w H h) : ObjOk P w H h a u := by
  rcases r with r | ⟨o, r⟩
  · exact x a u r
  · obtain ⟨_, q⟩ := x a _ r
    exact q
def Mut : Option HO -> Prop
  | some (.lst _) => True
  | some (.dK _) => True
  | some (.dT _) => True
  | some (.set _ _) => True
  | some (.ins _ _ _) => True
  | some (.ext _) => True
  | _ => False
section
variable {P : Program} {w : World} {H : Hp} {h h' : Heap} {x e : Addr} {o' : HO}
theorem HOk.write (ok : HOk P w H h) (mu : Mut (H x)) (he : e = x \/ H e = some (.own x)) (k : ∀ b u, b ≠ e -> h.get? b = some u -> h'.get? b = some u) (heo : ∃ u, h'.get? e = some u)
 (new : ObjOk P w (upd H x o') h' x o') : HOk P w (upd H x o') h' := fun b u q => by
  have nown : ∀ c y, H c = some (.own y) -> c ≠ x := fun c y r z => by subst z; rw [r] at mu; exact mu
  have ntup : ∀ c xs, H c = some (.tup xs) -> c ≠ x := fun c xs r z => by subst z; rw [r] at mu; exact mu
  by_cases hb : b = x
  · subst hb; rw [upd_same] at q; cases q; exact new
  · rw [upd_ne hb] at q
    by_cases hbe : b = e
    · have q' : H b = some (.own x) := by
        rcases he with z | z
        · exact absurd (hbe.trans z) hb
        · rw [hbe]; exact z
      rw [q] at q'; cases q'; obtain ⟨v, hv⟩ := heo; exact ⟨v, by rw [hbe]; exact hv⟩
    · refine (ok b u q).stay (fun c v hc r => k c v ?_ r) (fun c r => by rw [upd_ne (nown c b r)]; exact r) fun c xs r => by rw [upd_ne (ntup c xs r)]; exact r
      rcases hc with rfl | hc
      · exact hbe
      · rintro rfl
        rcases he with z | z
        · exact nown c b hc z
        · rw [hc] at z; cases z; exact hb rfl
end
structure Un (fs ex : List Addr) (H H' : Hp) (h h' : Heap) : Prop where
  keep : ∀ b o, h.get? b = some o -> H b = none -> b ∉ fs -> b ∉ ex -> h'.get? b = some o
  slot : ∀ b o, h.get? b = some o -> H b = none -> b ∈ fs -> b ∉ ex -> ∃ sl, h'.get? b = some { o with slots := sl }
  free : ∀ b o, h.get? b = some o -> H b = none -> b ∉ ex -> H' b = none
  there : ∀ b o, h.get? b = some o -> b ∉ ex -> ∃ o', h'.get? b = some o'
  tups : ∀ b xs, H b = some (.tup xs) -> H' b = some (.tup xs)
  frzs : ∀ b o u, H b = some (.frz o u) -> H' b = some (.frz o u)
  tbls : ∀ b ps, H b = some (.tbl ps) -> ∃ more, H' b = some (.tbl (ps ++ more))
section
variable {fs fs' ex ex' : List Addr} {H H1 H2 : Hp} {h h1 h2 h' : Heap} {a x e : Addr} {o : HO}
theorem Un.any (u : Un fs ex H H1 h h1) {b : Addr} {ob : Obj} (q : h.get? b = some ob) (n : H b = none) (hx : b ∉ ex) : ∃ sl, h1.get? b = some { ob with slots := sl } := by
  by_cases hb : b ∈ fs
  · exact u.slot b ob q n hb hx
  · exact ⟨ob.slots, u.keep b ob q n hb hx⟩
theorem Un.kept (k : ∀ b u, h.get? b = some u -> h'.get? b = some u) : Un fs ex H H h h' :=
  ⟨fun b ob q _ _ _ => k b ob q, fun b ob q _ _ _ => ⟨ob.slots, k b ob q⟩, fun _ _ _ n _ => n, fun b ob q _ => ⟨ob, k b ob q⟩, fun _ _ q => q, fun _ _ _ q => q, fun _ ps q => ⟨#[], by rw [q]; simp⟩⟩
theorem Un.refl : Un fs ex H H h h := Un.kept fun _ _ q => q
theorem Un.laid (k : ∀ b u, h.get? b = some u -> h'.get? b = some u) (hp : h.objs.size <= a) (hn : H a = none) : Un fs ex H (upd H a o) h h' where
  keep := fun b u q _ _ _ => k b u q
  slot := fun b u q _ _ _ => ⟨u.slots, k b u q⟩
  free := fun b u q n _ => by rw [upd_ne (Nat.ne_of_lt (Nat.lt_of_lt_of_le (Heap.lt_size q) hp))]; exact n
  there := fun b u q _ => ⟨u, k b u q⟩
  tups := fun b xs q => by rw [upd_ne (ne_of_none q hn)]; exact q
  frzs := fun b u xs q => by rw [upd_ne (ne_of_none q hn)]; exact q
  tbls := fun b ps q => ⟨#[], by rw [upd_ne (ne_of_none q hn), q]; simp⟩
theorem Un.write (mu : Mut (H x)) (he : e = x \/ H e = some (.own x)) (k : ∀ b u, b ≠ e -> h.get? b = some u -> h'.get? b = some u) (heo : ∃ u, h'.get? e = some u) : Un fs ex H (upd H x o) h h' := by
  have hx : ∀ b, H b = none -> b ≠ x := fun b n z => by subst z; rw [n] at mu; exact mu
  have hb : ∀ b, H b = none -> b ≠ e := fun b n z => by
    subst z
    rcases he with r | r
    · exact hx b n r
    · rw [n] at r; cases r
  have hm : ∀ b u, H b = some u -> ¬ Mut (some u) -> b ≠ x := fun b u q nm z => by subst z; rw [q] at mu; exact nm mu
  refine ⟨fun b u q n _ _ => k b u (hb b n) q, fun b u q n _ _ => ⟨u.slots, k b u (hb b n) q⟩, fun b u q n _ => by rw [upd_ne (hx b n)]; exact n, fun b u q _ => ?_,
    fun b xs q => by rw [upd_ne (hm b _ q fun z => z)]; exact q, fun b u xs q => by rw [upd_ne (hm b _ q fun z => z)]; exact q, fun b ps q => ⟨#[], by rw [upd_ne (hm b _ q fun z => z), q]; simp⟩⟩
  by_cases hbe : b = e
  · subst hbe; exact heo
  · exact ⟨u, k b u hbe q⟩
end
def trk (h : Heap) (H : Hp) : List Addr := (List.range h.objs.size).filter fun a => (H a).isSome
def hidT (h : Heap) (H : Hp) : Heap := PySem.W.hideAll h (trk h H)
theorem hidT_size (h : Heap) (H : Hp) : (hidT h H).objs.size = h.objs.size := PySem.W.hideAll_size _ _
theorem hidT_get {h : Heap} {H : Hp} {b : Addr} {o : Obj} (e : h.get? b = some o) (n : H b = none) : (hidT h H).get? b = some o :=
  PySem.W.hideAll_get _ e fun hm => by
    have q : (H b).isSome = true := (List.mem_filter.mp hm).2; rw [n] at q; simp at q
theorem of_hidT {h : Heap} {H : Hp} {b : Addr} {o : Obj} (e : (hidT h H).get? b = some o) : h.get? b = some o /\ H b = none := by
  have e' : h.get? b = some o := PySem.W.of_hideAll (trk h H) e; refine ⟨e', ?_⟩
  cases q : H b with
  | none => rfl
  | some x =>
    have hm : b ∈ trk h H := List.mem_filter.mpr ⟨List.mem_range.mpr (Heap.lt_size e'), by simp [q]⟩; have z : (hidT h H).get? b = none := PySem.W.hideAll_none (trk h H) hm; rw [z] at e; cases e
def allNews (g h : Heap) (L : Addr) : List (Addr × Obj) := (List.range h.objs.size).filterMap fun a => if a = L \/ (g.get? a).isSome = true then none else (h.get? a).map fun o => (a, o)
def rest (g h : Heap) (L d : Addr) : List (Addr × Obj) := (allNews g h L).filter fun p => decide (p.1 ≠ d)
structure Mod (K : PySem.W.Frag) (mg : Str -> Option Value) (base : Heap) : Prop where
  kin : K.In base
  glob : base.Ns mainGlobals mg
  blt : ∃ mb, base.Ns builtinsNs mb /\ ∀ x : Str, x ≠ "__name__" -> mb x = bootBuiltins x
  nolimit : base.NoLimit
structure Cx where
  prog : Program
  w : World
  K : PySem.W.Frag
  mg : Str -> Option Value
  base : Heap
  A : Around
  N : List Str
  s₀ : Shared
  H₀ : Hp
  env : Env
  outer : List Env
  stack : List Env
  ex : List Addr
  fn : Str -> Bool
  calm : Bool
  pn : List (Addr × Obj)
  xe : Value -> Shared -> Prop
def frs (l : List Env) : List Addr := l.filterMap (·.frame)
abbrev Cx.fs (X : Cx) : List Addr := frs X.outer
def Vis (sc : Scope) (x : Str) : Prop := sc.names.lookup x = some .local \/ sc.names.lookup x = some .cell \/ sc.names.lookup x = some .free
def Loc (sc : Scope) (x : Str) : Prop := sc.names.lookup x = some .local \/ sc.names.lookup x = some .cell
def Look (env : Env) (h : Heap) (m : Str -> Option Value) (x : Str) (u : Value) : Prop :=
  (env.kindOf x = some .local /\ m x = some u) \/ ((env.kindOf x = some .cell \/ env.kindOf x = some .free) /\ ∃ c, env.cells.lookup x = some c /\ h.IsCell c (some u))
structure Cx.Ok (X : Cx) : Prop where
  mod : Mod X.K X.mg X.base
  kind : X.env.scope.kind = .function
  glob : X.env.globals = mainGlobals
  blt : X.env.builtins = builtinsNs
  above : X.s₀.heap.objs.size <= X.env.locals
  inj : ∀ x y c, X.env.cells.lookup x = some c -> X.env.cells.lookup y = some c -> x = y
  has : ∀ x, (X.env.kindOf x = some .cell \/ X.env.kindOf x = some .free) -> ∃ c, X.env.cells.lookup x = some c
  cab : ∀ x c, X.fn x = true -> X.env.cells.lookup x = some c -> X.s₀.heap.objs.size <= c
  hd : X.calm = true -> X.A.handled = none
  frames : X.A.frames = some X.stack
  stk : X.stack = X.outer \/ (X.stack = X.env :: X.outer /\ X.env.frame = some X.env.locals)
  exf : ∀ b ∈ X.ex, b ≠ X.env.locals /\ ∀ x c, X.env.cells.lookup x = some c -> c ≠ b
  bs : ∀ b o, X.base.get? b = some o -> X.s₀.heap.get? b = some o /\ X.H₀ b = none
  bsz : X.base.objs.size <= X.s₀.heap.objs.size
  noex : ∀ b o, X.base.get? b = some o -> b ∉ X.ex
  exfs : ∀ b ∈ X.ex, b ∉ X.fs
  funs : X.s₀.heap.FunFrames X.base X.outer
  frf : ∀ b ∈ X.fs, X.H₀ b = none
structure Inv (X : Cx) (pins : List (Addr × Obj)) (σ : List (Option V)) (H : Hp) (s : Shared) : Prop where
  ok : X.Ok
  os : s.os = X.s₀.os
  bare : AllBare s.gens
  base : Un X.fs X.ex X.H₀ H X.s₀.heap s.heap
  loc : ∃ m, s.heap.Ns X.env.locals m /\ ∀ (i : Nat) (x : Str) (v : V), X.N[i]? = some x -> σ[i]? = some (some v) -> Vis X.env.scope x -> ∃ u, RelV v u /\ Look X.env s.heap m x u
  cell : ∀ x c, X.env.cells.lookup x = some c -> ∃ v, s.heap.IsCell c v
  free : H X.env.locals = none
  freeC : ∀ x c, X.env.cells.lookup x = some c -> H c = none
  pin : ∀ p ∈ X.pn ++ pins, s.heap.get? p.1 = some p.2 /\ H p.1 = none /\ p.1 ≠ X.env.locals /\ p.1 ∉ X.fs /\ ∀ v, p.2.data ≠ .cell v
  hok : HOk X.prog X.w H s.heap
  len : σ.length = X.N.length
section
variable {X : Cx} {pins : List (Addr × Obj)} {σ : List (Option V)} {H H' : Hp} {s : Shared} {h' : Heap}
theorem Cx.Ok.nofr (ok : X.Ok) {b : Addr} {o : Obj} (e : X.base.get? b = some o) : b ∉ X.fs := fun hb => by
  have := (ok.funs.mem hb).1; rw [e] at this; cases this
theorem Inv.bs (I : Inv X pins σ H s) : ∀ b o, X.base.get? b = some o -> s.heap.get? b = some o /\ H b = none := fun b o e =>
  ⟨I.base.keep b o (I.ok.bs b o e).1 (I.ok.bs b o e).2 (I.ok.nofr e) (I.ok.noex b o e), I.base.free b o (I.ok.bs b o e).1 (I.ok.bs b o e).2 (I.ok.noex b o e)⟩
theorem Inv.bk (I : Inv X pins σ H s) : ∀ b o, X.base.get? b = some o -> s.heap.get? b = some o := fun b o e => (I.bs b o e).1
theorem Inv.mod (I : Inv X pins σ H s) : Mod X.K X.mg X.base := I.ok.mod
theorem Inv.kIn (I : Inv X pins σ H s) : X.K.In s.heap := I.ok.mod.kin.keeps I.bk
theorem Inv.lt (I : Inv X pins σ H s) : X.env.locals < s.heap.objs.size := let ⟨_, hn, _⟩ := I.loc; hn.lt
theorem Inv.sz (I : Inv X pins σ H s) : X.s₀.heap.objs.size <= s.heap.objs.size := Nat.le_trans I.ok.above (Nat.le_of_lt I.lt)
theorem Inv.nofs (I : Inv X pins σ H s) {a : Addr} (h : s.heap.objs.size <= a) : a ∉ X.fs := fun hb => by
  obtain ⟨_, o, ho, _⟩ := I.ok.funs.mem hb; exact absurd (Nat.lt_of_lt_of_le (Heap.lt_size ho) (Nat.le_trans I.sz h)) (Nat.lt_irrefl _)
theorem Inv.cne (I : Inv X pins σ H s) : ∀ x c, X.env.cells.lookup x = some c -> c ≠ X.env.locals := fun x c e z => by
  obtain ⟨v, o, ho, hd⟩ := I.cell x c e; obtain ⟨m, ⟨o', es, ep, ho', hd', _⟩, _⟩ := I.loc; rw [z, ho'] at ho; cases ho; rw [hd'] at hd; cases hd
theorem Inv.funs (I : Inv X pins σ H s) : s.heap.FunFrames X.base X.outer := by
  have all : ∀ (l : List Env), (∀ b ∈ frs l, b ∈ X.fs) -> X.s₀.heap.FunFrames X.base l -> s.heap.FunFrames X.base l := by
    intro l
    induction l with
    | nil => intro _ _; trivial
    | cons env r ih =>
      intro hs hl; obtain ⟨hk, ⟨L, o, hf, hn, ho, hd⟩, hr⟩ := hl; have hL : L ∈ X.fs := hs L (by unfold frs; rw [List.filterMap_cons, hf]; exact List.mem_cons_self); obtain ⟨sl, e⟩ := I.base.slot L o ho (I.ok.frf L hL) hL fun z => I.ok.exfs L z hL
      exact ⟨hk, ⟨L, _, hf, hn, e, hd⟩, ih (fun b hb => hs b (by unfold frs; rw [List.filterMap_cons, hf]; exact List.mem_cons_of_mem _ hb)) hr⟩
  exact all X.outer (fun _ hb => hb) I.ok.funs
theorem Inv.stack (I : Inv X pins σ H s) : s.heap.FunFrames X.base X.stack := by
  rcases I.ok.stk with e | ⟨e, hf⟩
  · rw [e]; exact I.funs
  · rw [e]
    obtain ⟨m, hn, _⟩ := I.loc; refine .cons (by rw [I.ok.kind]; decide) hf hn ?_ I.funs; exact Heap.get?_none_of_le (Nat.le_trans I.ok.bsz I.ok.above)
theorem Inv.stkSub (I : Inv X pins σ H s) : ∀ b ∈ frs X.stack, b ∈ X.env.locals :: X.fs := fun b hb => by
  rcases I.ok.stk with e | ⟨e, hf⟩
  · rw [e] at hb; exact List.mem_cons_of_mem _ hb
  · rw [e] at hb
    unfold frs at hb; rw [List.filterMap_cons, hf] at hb; exact hb
theorem Inv.stkFree (I : Inv X pins σ H s) : ∀ b ∈ frs X.stack, H b = none := fun b hb => by
  rcases List.mem_cons.mp (I.stkSub b hb) with e | hb
  · rw [e]; exact I.free
  · obtain ⟨_, o, ho, _⟩ := I.ok.funs.mem hb
    exact I.base.free b o ho (I.ok.frf b hb) fun z => I.ok.exfs b z hb
theorem Inv.step {g' : Array GenState} {t' : Nat} {d' : Drawn} {ch : List Addr} (I : Inv X pins σ H s)
 (hch : ∀ b ∈ ch, (b ∈ X.ex \/ X.s₀.heap.objs.size <= b) /\ b ≠ X.env.locals /\ (∀ x c, X.env.cells.lookup x = some c -> c ≠ b) /\ ∀ p ∈ X.pn ++ pins, p.1 ≠ b)
 (keep : ∀ b o, b ≠ X.env.locals -> b ∉ X.fs -> b ∉ ch -> s.heap.get? b = some o -> H b = none -> h'.get? b = some o)
 (slot : ∀ b o, b ≠ X.env.locals -> b ∈ X.fs -> b ∉ ch -> s.heap.get? b = some o -> H b = none -> ∃ sl, h'.get? b = some { o with slots := sl }) (free : ∀ b o, b ∉ ch -> s.heap.get? b = some o -> H b = none -> H' b = none)
 (there : ∀ b o, b ∉ ch -> s.heap.get? b = some o -> ∃ o', h'.get? b = some o')
 (tups : ∀ b xs, H b = some (.tup xs) -> H' b = some (.tup xs)) (frzs : ∀ b o u, H b = some (.frz o u) -> H' b = some (.frz o u)) (tbls : ∀ b ps, H b = some (.tbl ps) -> ∃ more, H' b = some (.tbl (ps ++ more)))
 (ns : ∀ m, s.heap.Ns X.env.locals m -> h'.Ns X.env.locals m) (hok : HOk X.prog X.w H' h') (hg : AllBare g') :
 Inv X pins σ H' { s with heap := h', gens := g', drawn := d', toks := t' } := by
  have neL : ∀ b o, X.s₀.heap.get? b = some o -> b ≠ X.env.locals := fun b o e => Nat.ne_of_lt (Nat.lt_of_lt_of_le (Heap.lt_size e) I.ok.above)
  have neC : ∀ b o, X.s₀.heap.get? b = some o -> b ∉ X.ex -> b ∉ ch := fun b o e hx hb => by
    rcases (hch b hb).1 with z | z
    · exact hx z
    · exact absurd (Nat.lt_of_lt_of_le (Heap.lt_size e) z) (Nat.lt_irrefl _)
  have cellK : ∀ x c, X.env.cells.lookup x = some c -> ∀ v, s.heap.IsCell c v -> h'.IsCell c v := fun x c e v ⟨o, ho, hd⟩ => by
    have nch : c ∉ ch := fun z => (hch c z).2.2.1 x c e rfl
    by_cases hc : c ∈ X.fs
    · obtain ⟨sl, q⟩ := slot c o (I.cne x c e) hc nch ho (I.freeC x c e)
      exact ⟨_, q, hd⟩
    · exact ⟨o, keep c o (I.cne x c e) hc nch ho (I.freeC x c e), hd⟩
  refine ⟨I.ok, I.os, hg, ⟨fun b o e n hb hx => ?_, fun b o e n hb hx => ?_, fun b o e n hx => ?_, fun b o e hx => ?_, fun b xs e => tups b xs (I.base.tups b xs e), fun b o xs e => frzs b o xs (I.base.frzs b o xs e), fun b ps e => ?_⟩, ?_, fun x c e => ?_, ?_, fun x c e => ?_, fun p hp => ?_, hok, I.len⟩
  · exact keep b o (neL b o e) hb (neC b o e hx) (I.base.keep b o e n hb hx) (I.base.free b o e n hx)
  · obtain ⟨sl, e1⟩ := I.base.slot b o e n hb hx
    obtain ⟨sl', e2⟩ := slot b _ (neL b o e) hb (neC b o e hx) e1 (I.base.free b o e n hx); exact ⟨sl', e2⟩
  · obtain ⟨o', e1⟩ := I.base.there b o e hx
    exact free b o' (neC b o e hx) e1 (I.base.free b o e n hx)
  · obtain ⟨o', e1⟩ := I.base.there b o e hx
    exact there b o' (neC b o e hx) e1
  · obtain ⟨m1, e1⟩ := I.base.tbls b ps e
    obtain ⟨m2, e2⟩ := tbls b _ e1; exact ⟨m1 ++ m2, by rw [e2, Array.append_assoc]⟩
  · obtain ⟨m, hn, hl⟩ := I.loc
    refine ⟨m, ns m hn, fun i x v e1 e2 e3 => ?_⟩; obtain ⟨u, r, l⟩ := hl i x v e1 e2 e3; refine ⟨u, r, ?_⟩
    rcases l with l | ⟨k, c, e, z⟩
    · exact .inl l
    · exact .inr ⟨k, c, e, cellK x c e _ z⟩
  · obtain ⟨v, z⟩ := I.cell x c e
    exact ⟨v, cellK x c e v z⟩
  · obtain ⟨m, ⟨o, _, _, ho, _⟩, _⟩ := I.loc
    exact free _ o (fun z => (hch _ z).2.1 rfl) ho I.free
  · obtain ⟨v, o, ho, hd⟩ := I.cell x c e
    exact free c o (fun z => (hch c z).2.2.1 x c e rfl) ho (I.freeC x c e)
  · obtain ⟨e, n, ne, nf, d⟩ := I.pin p hp
    have nch : p.1 ∉ ch := fun z => (hch p.1 z).2.2.2 p hp rfl
    exact ⟨keep p.1 p.2 ne nf nch e n, free p.1 p.2 nch e n, ne, nf, d⟩
theorem Inv.un {t' : Nat} (I : Inv X pins σ H s) (u : Un X.fs [] H H' s.heap h') (hok : HOk X.prog X.w H' h') : Inv X pins σ H' { s with heap := h', toks := t' } := by
  obtain ⟨m, ⟨o, es, ep, ho, r⟩, _⟩ := id I.loc; obtain ⟨sl, hL⟩ := u.any ho I.free (by simp)
  exact I.step (g' := s.gens) (d' := s.drawn) (ch := []) (fun _ z => nomatch z) (fun b o _ hb _ e n => u.keep b o e n hb (by simp)) (fun b o _ hb _ e n => u.slot b o e n hb (by simp)) (fun b o _ e n => u.free b o e n (by simp)) (fun b o _ e => u.there b o e (by simp)) u.tups u.frzs u.tbls (fun m' hm => by
    obtain ⟨o', es', ep', ho', r'⟩ := hm; rw [ho] at ho'; cases ho'
    exact ⟨_, es', ep', hL, r'⟩) hok I.bare
theorem Inv.call {g' : Array GenState} {t' : Nat} {d' : Drawn} {ch : List Addr} (I : Inv X pins σ H s) (u : Un (frs X.stack) ch H H' s.heap h') (hok : HOk X.prog X.w H' h') (hg : AllBare g')
 (hch : ∀ b ∈ ch, (b ∈ X.ex \/ X.s₀.heap.objs.size <= b) /\ b ≠ X.env.locals /\ (∀ x c, X.env.cells.lookup x = some c -> c ≠ b) /\ ∀ p ∈ X.pn ++ pins, p.1 ≠ b) :
 Inv X pins σ H' { s with heap := h', gens := g', drawn := d', toks := t' } := by
  obtain ⟨m, ⟨o, es, ep, ho, r⟩, _⟩ := id I.loc; obtain ⟨sl, hL⟩ := u.any ho I.free fun z => (hch _ z).2.1 rfl
  exact I.step (ch := ch) hch (fun b o hL hb hc e n => u.keep b o e n (fun z => (List.mem_cons.mp (I.stkSub b z)).elim hL hb) hc) (fun b o _ _ hc e n => u.any e n hc) (fun b o hc e n => u.free b o e n hc) (fun b o hc e => u.there b o e hc) u.tups u.frzs u.tbls (fun m' hm => by
    obtain ⟨o', es', ep', ho', r'⟩ := hm; rw [ho] at ho'; cases ho'
    exact ⟨_, es', ep', hL, r'⟩) hok hg
theorem Inv.turned {t' : Nat} {it : Addr} (I : Inv X pins σ H s) (k : ∀ b o, b ≠ it -> s.heap.get? b = some o -> h'.get? b = some o) (hn : H it = none) (hL : it ≠ X.env.locals)
 (h1 : it ∈ X.ex \/ X.s₀.heap.objs.size <= it) (h2 : ∀ x c, X.env.cells.lookup x = some c -> c ≠ it) (h3 : ∀ p ∈ X.pn ++ pins, p.1 ≠ it) : Inv X pins σ H { s with heap := h', toks := t' } := by
  have nit : ∀ b u, H b = some u -> b ≠ it := fun b u e z => by rw [z, hn] at e; cases e
  refine I.step (g' := s.gens) (d' := s.drawn) (ch := [it]) (fun b hb => ?_) (fun b o _ _ hc e _ => k b o (fun z => hc (by simp [z])) e) (fun b o _ _ hc e _ => ⟨o.slots, k b o (fun z => hc (by simp [z])) e⟩) (fun _ _ _ _ n => n)
    (fun b o hc e => ⟨o, k b o (fun z => hc (by simp [z])) e⟩) (fun _ _ e => e) (fun _ _ _ e => e) (fun b ps e => ⟨#[], by rw [e]; simp⟩) (fun m hm => ?_) (fun b u e => ?_) I.bare
  · have e : b = it := by simpa using hb
    subst e; exact ⟨h1, hL, h2, h3⟩
  · obtain ⟨o, es, ep, ho, r⟩ := hm
    exact ⟨o, es, ep, k _ o (Ne.symm hL) ho, r⟩
  · refine (I.hok b u e).stay (fun c v hc q => k c v ?_ q) (fun _ q => q) fun _ _ q => q
    rcases hc with z | z
    · rw [z]; exact nit b u e
    · exact nit c _ z
theorem Inv.tok (I : Inv X pins σ H s) (t : Nat) : Inv X pins σ H { s with toks := t } := I.un (h' := s.heap) (t' := t) Un.refl I.hok
theorem Inv.kept {t' : Nat} (I : Inv X pins σ H s) (k : ∀ b u, s.heap.get? b = some u -> h'.get? b = some u) : Inv X pins σ H { s with heap := h', toks := t' } := I.un (Un.kept k) (I.hok.kept k)
theorem Inv.laid {a : Addr} {o : HO} {t' : Nat} (I : Inv X pins σ H s) (k : ∀ b u, s.heap.get? b = some u -> h'.get? b = some u) (hp : s.heap.objs.size <= a) (new : ObjOk X.prog X.w (upd H a o) h' a o) :
 Inv X pins σ (upd H a o) { s with heap := h', toks := t' } := I.un (Un.laid k hp (I.hok.fresh hp)) (I.hok.laid k hp new)
theorem Inv.write {x e : Addr} {o : HO} {t' : Nat} (I : Inv X pins σ H s) (mu : Mut (H x)) (he : e = x \/ H e = some (.own x)) (k : ∀ b u, b ≠ e -> s.heap.get? b = some u -> h'.get? b = some u) (heo : ∃ u, h'.get? e = some u)
 (new : ObjOk X.prog X.w (upd H x o) h' x o) : Inv X pins σ (upd H x o) { s with heap := h', toks := t' } := I.un (Un.write mu he k heo) (I.hok.write mu he k heo new)
theorem Inv.pins_of {pins' : List (Addr × Obj)} (I : Inv X pins σ H s) (h : ∀ p ∈ pins', s.heap.get? p.1 = some p.2 /\ H p.1 = none /\ p.1 ≠ X.env.locals /\ p.1 ∉ X.fs /\ ∀ v, p.2.data ≠ .cell v) : Inv X pins' σ H s :=
  ⟨I.ok, I.os, I.bare, I.base, I.loc, I.cell, I.free, I.freeC, fun p hp => (List.mem_append.mp hp).elim (fun z => I.pin p (List.mem_append_left _ z)) (h p), I.hok, I.len⟩
theorem nodup_ix {N : List Str} (hN : N.Nodup) {i j : Nat} {x : Str} (a : N[i]? = some x) (b : N[j]? = some x) : i = j := by
  obtain ⟨h1, e1⟩ := List.getElem?_eq_some_iff.mp a; obtain ⟨h2, e2⟩ := List.getElem?_eq_some_iff.mp b; exact (List.getElem_inj hN).mp (e1.trans e2.symm)
theorem store_ok2 {M : Model} {A : Around} {E : Value -> Shared -> Prop} {i : Nat} {x : Str} {v : V} {u : Value} {Q : Unit -> Shared -> Prop} (I : Inv X pins σ H s) (hN : X.N.Nodup) (hi : X.N[i]? = some x) (hx : Loc X.env.scope x) (r : RelV v u)
 (h : ∀ s', Inv X pins (σ.set i (some v)) H s' -> (∃ a, Heap.SameBut a s.heap s'.heap /\ (a = X.env.locals \/ X.env.cells.lookup x = some a)) -> Q () s') (hf : X.fn x = true \/ X.env.scope.names.lookup x = some .local := by first | exact .inl rfl | exact .inr rfl | assumption) : wpAny M A (storeName X.env x u) Q E s := by
  obtain ⟨m, hn, hl⟩ := id I.loc; have hcls : (X.env.scope.kind == .class || (X.env.scope.kind == .module && X.env.locals != X.env.globals)) = false := by rw [I.ok.kind]; rfl
  have hiσ : i < σ.length := by rw [I.len]; exact (List.getElem?_eq_some_iff.mp hi).1
  have cne := I.cne; have tracked : ∀ {a : Addr} {h' : Heap}, (∃ o, s.heap.get? a = some o /\ H a = none) -> Heap.SameBut a s.heap h' -> HOk X.prog X.w H h' := fun {a h'} ha hs b ob e => by
    obtain ⟨_, _, hfree⟩ := ha; refine (I.hok b ob e).stay (fun c w' hc q => (hs.2 c ?_).trans q) (fun _ q => q) fun _ _ q => q
    rintro rfl
    rcases hc with rfl | hc
    · rw [hfree] at e; cases e
    · rw [hfree] at hc; cases hc
  rcases hx with hk | hk
  · refine wpAny_storeName_local hk hn (fun h' hn' hs => ?_) hcls
    obtain ⟨oL, _, _, hoL, _⟩ := id hn; refine h _ ⟨I.ok, I.os, I.bare, ⟨fun b o e n hb hx => ?_, fun b o e n hb hx => ?_, I.base.free, fun b o e hx => ?_, I.base.tups, I.base.frzs, I.base.tbls⟩, ⟨_, hn', fun j y v' e1 e2 e3 => ?_⟩, fun y c e => ?_, I.free, I.freeC, fun p hp => ?_, tracked ⟨oL, hoL, I.free⟩ hs, by simpa using I.len⟩ ⟨_, hs, .inl rfl⟩
    · exact (hs.2 b (Nat.ne_of_lt (Nat.lt_of_lt_of_le (Heap.lt_size e) I.ok.above))).trans (I.base.keep b o e n hb hx)
    · obtain ⟨sl, e1⟩ := I.base.slot b o e n hb hx
      exact ⟨sl, (hs.2 b (Nat.ne_of_lt (Nat.lt_of_lt_of_le (Heap.lt_size e) I.ok.above))).trans e1⟩
    · obtain ⟨o', e1⟩ := I.base.there b o e hx
      exact ⟨o', (hs.2 b (Nat.ne_of_lt (Nat.lt_of_lt_of_le (Heap.lt_size e) I.ok.above))).trans e1⟩
    · by_cases hj : j = i
      · subst hj
        rw [hi] at e1; cases e1; rw [List.getElem?_set_self hiσ] at e2; cases e2; exact ⟨u, r, .inl ⟨hk, by simp⟩⟩
      · rw [List.getElem?_set_ne (Ne.symm hj)] at e2
        obtain ⟨u', r', q⟩ := hl j y v' e1 e2 e3; refine ⟨u', r', ?_⟩
        rcases q with ⟨k, e⟩ | ⟨k, c, e, z⟩
        · refine .inl ⟨k, ?_⟩
          have : y ≠ x := fun e => hj (nodup_ix hN e1 (e ▸ hi))
          simp [this, e]
        · exact .inr ⟨k, c, e, z.sameBut hs (cne y c e)⟩
    · obtain ⟨w', z⟩ := I.cell y c e
      exact ⟨w', z.sameBut hs (cne y c e)⟩
    · obtain ⟨e, n, ne, nf, d⟩ := I.pin p hp
      exact ⟨(hs.2 p.1 ne).trans e, n, ne, nf, d⟩
  · have hfn : X.fn x = true := by
      rcases hf with z | z
      · exact z
      · rw [z] at hk; cases hk
    obtain ⟨c, hc⟩ := I.ok.has x (.inl hk); obtain ⟨w', z⟩ := I.cell x c hc; refine wpAny_storeName_cell I.ok.kind hk hc z (fun h' hc' hs => ?_); obtain ⟨oc, hoc, hocd⟩ := id z
    refine h { s with heap := h' } ⟨I.ok, I.os, I.bare, ⟨fun b o e n hb hx => ?_, fun b o e n hb hx => ?_, I.base.free, fun b o e hx => ?_, I.base.tups, I.base.frzs, I.base.tbls⟩, ⟨m, hn.sameBut hs (Ne.symm (cne x c hc)), fun j y v' e1 e2 e3 => ?_⟩, fun y c' e => ?_, I.free, I.freeC, fun p hp => ?_, tracked ⟨oc, hoc, I.freeC x c hc⟩ hs, by simpa using I.len⟩ ⟨c, hs, .inr hc⟩
    · exact (hs.2 b (Nat.ne_of_lt (Nat.lt_of_lt_of_le (Heap.lt_size e) (I.ok.cab x c hfn hc)))).trans (I.base.keep b o e n hb hx)
    · obtain ⟨sl, e1⟩ := I.base.slot b o e n hb hx
      exact ⟨sl, (hs.2 b (Nat.ne_of_lt (Nat.lt_of_lt_of_le (Heap.lt_size e) (I.ok.cab x c hfn hc)))).trans e1⟩
    · obtain ⟨o', e1⟩ := I.base.there b o e hx
      exact ⟨o', (hs.2 b (Nat.ne_of_lt (Nat.lt_of_lt_of_le (Heap.lt_size e) (I.ok.cab x c hfn hc)))).trans e1⟩
    · by_cases hj : j = i
      · subst hj
        rw [hi] at e1; cases e1; rw [List.getElem?_set_self hiσ] at e2; cases e2; exact ⟨u, r, .inr ⟨.inl hk, c, hc, hc'⟩⟩
      · rw [List.getElem?_set_ne (Ne.symm hj)] at e2
        obtain ⟨u', r', q⟩ := hl j y v' e1 e2 e3; refine ⟨u', r', ?_⟩
        rcases q with q | ⟨k, c', e, z'⟩
        · exact .inl q
        · refine .inr ⟨k, c', e, z'.sameBut hs ?_⟩
          rintro rfl; exact hj (nodup_ix hN e1 (I.ok.inj _ _ _ e hc ▸ hi))
    · by_cases hcc : c' = c
      · subst hcc; exact ⟨_, hc'⟩
      · obtain ⟨w2, z2⟩ := I.cell y c' e
        exact ⟨w2, z2.sameBut hs hcc⟩
    · obtain ⟨e, n, ne, nf, d⟩ := I.pin p hp
      refine ⟨(hs.2 p.1 ?_).trans e, n, ne, nf, d⟩; intro q; rw [q, hoc] at e; have q' : oc = p.2 := Option.some.inj e; exact d w' (by rw [<- q']; exact hocd)
theorem store_ok {M : Model} {A : Around} {E : Value -> Shared -> Prop} {i : Nat} {x : Str} {v : V} {u : Value} {Q : Unit -> Shared -> Prop} (I : Inv X pins σ H s) (hN : X.N.Nodup) (hi : X.N[i]? = some x) (hx : Loc X.env.scope x) (r : RelV v u)
 (h : ∀ s', Inv X pins (σ.set i (some v)) H s' -> Q () s') (hf : X.fn x = true \/ X.env.scope.names.lookup x = some .local := by first | exact .inl rfl | exact .inr rfl | assumption) : wpAny M A (storeName X.env x u) Q E s :=
  store_ok2 I hN hi hx r (fun s' I' _ => h s' I') hf
end
abbrev XK := Value -> Option Addr -> Hp -> Prop
abbrev St := List (Option V)
abbrev VK := V -> Hp -> Prop
abbrev TE := St -> Hp -> VK -> Prop
abbrev TT := St -> Hp -> (Bool -> Hp -> Prop) -> Prop
abbrev TA := St -> Hp -> (List V -> Hp -> Prop) -> Prop
structure Ends where
  nx : St -> Hp -> Prop
  rt : VK
  bk : St -> Hp -> Prop := fun _ _ => False
  ct : St -> Hp -> Prop := fun _ _ => False
abbrev TS := Ends -> St -> Hp -> Prop
def EP (X : Cx) (pins : List (Addr × Obj)) (σ : St) (Q : VK) (u : Value) (s' : Shared) : Prop := ∃ v H', Inv X pins σ H' s' /\ RelV v u /\ Q v H'
def TP (X : Cx) (pins : List (Addr × Obj)) (σ : St) (Q : Bool -> Hp -> Prop) (b : Bool) (s' : Shared) : Prop := ∃ H', Inv X pins σ H' s' /\ Q b H'
def AP (X : Cx) (pins : List (Addr × Obj)) (σ : St) (Q : List V -> Hp -> Prop) (us : List Value) (s' : Shared) : Prop := ∃ vs H', Inv X pins σ H' s' /\ Vals vs us /\ Q vs H'
def SP (X : Cx) (pins : List (Addr × Obj)) (D : Ends) (f : Flow) (s' : Shared) : Prop :=
  match f with
  | .next => ∃ σ' H', Inv X pins σ' H' s' /\ D.nx σ' H'
  | .brk => ∃ σ' H', Inv X pins σ' H' s' /\ D.bk σ' H'
  | .cont => ∃ σ' H', Inv X pins σ' H' s' /\ D.ct σ' H'
  | .ret u => ∃ v σ' H', Inv X pins σ' H' s' /\ RelV v u /\ D.rt v H'
def PE (X : Cx) (e : Expr) (t : TE) : Prop :=
  ∀ (pins : List (Addr × Obj)) (s : Shared) (σ : St) (H : Hp) (Q : VK), Inv X pins σ H s -> t σ H Q -> wpAny (model X.prog X.w) X.A (eval e X.env) (EP X pins σ Q) X.xe s
def PT (X : Cx) (e : Expr) (t : TT) : Prop :=
  ∀ (pins : List (Addr × Obj)) (s : Shared) (σ : St) (H : Hp) (Q : Bool -> Hp -> Prop), Inv X pins σ H s -> t σ H Q -> wpAny (model X.prog X.w) X.A (isTrue e X.env (eval e X.env)) (TP X pins σ Q) X.xe s
def PW (X : Cx) (e : Expr) (t : TT) : Prop :=
  ∀ (whole : Sem Value) (pins : List (Addr × Obj)) (s : Shared) (σ : St) (H : Hp) (Q : Bool -> Hp -> Prop), Inv X pins σ H s -> t σ H Q -> wpAny (model X.prog X.w) X.A (isTrue e X.env whole) (TP X pins σ Q) X.xe s
theorem PW.pt {X : Cx} {e : Expr} {t : TT} (h : PW X e t) : PT X e t := h _
def PA (X : Cx) (es : List Expr) (t : TA) : Prop :=
  ∀ (pos : Pos) (pins : List (Addr × Obj)) (s : Shared) (σ : St) (H : Hp) (Q : List V -> Hp -> Prop), Inv X pins σ H s -> t σ H Q -> wpAny (model X.prog X.w) X.A (spliced (backTo pos (starEach es X.env))) (AP X pins σ Q) X.xe s
def PS (X : Cx) (st : Stmt) (t : TS) : Prop :=
  ∀ (pins : List (Addr × Obj)) (s : Shared) (σ : St) (H : Hp) (D : Ends), Inv X pins σ H s -> t D σ H -> wpAny (model X.prog X.w) X.A (exec st X.env) (SP X pins D) X.xe s
def PSs (X : Cx) (st : List Stmt) (t : TS) : Prop :=
  ∀ (pins : List (Addr × Obj)) (s : Shared) (σ : St) (H : Hp) (D : Ends), Inv X pins σ H s -> t D σ H -> wpAny (model X.prog X.w) X.A (execs st X.env) (SP X pins D) X.xe s
theorem thn {α : Type} {t : Sem α} {Q Q' : α -> Shared -> Prop} {M : Model} {A : Around} {E : Value -> Shared -> Prop} {s : Shared} (h : wpAny M A t Q E s) (hQ : ∀ a s, Q a s -> Q' a s) : wpAny M A t Q' E s := wpAny_mono h hQ fun _ _ x => x
section
variable {X : Cx}
def tVar (i : Nat) : TE := fun σ H Q => ∃ v, σ[i]? = some (some v) /\ Q v H
def tC (v : V) : TE := fun _ H Q => Q v H
theorem pe_var {i : Nat} {x : Str} {pos : Pos} (hN : X.N[i]? = some x) (hv : Vis X.env.scope x) (hd : (x == ("__debug__" : Str)) = false := by decide) (hcd : (x == ("__classdict__" : Str)) = false := by decide) : PE X (.Name x pos) (tVar i) := by
  intro pins s σ H Q I h; obtain ⟨v, e, h⟩ := h; obtain ⟨m, hn, hl⟩ := I.loc; obtain ⟨u, r, l⟩ := hl i x v hN e hv; have fin : EP X pins σ Q u s := ⟨v, H, I, r, h⟩
  rcases l with ⟨hk, hm⟩ | ⟨hk, c, hc, hcell⟩
  · exact wpAny_Name (wpAny_loadName_local I.ok.kind hk hn hm fin) hd
  · rcases hk with hk | hk
    · exact wpAny_Name (wpAny_loadName_cell I.ok.kind hk hc hcell fin) hd
    · exact wpAny_Name (wpAny_loadName_free I.ok.kind hk hc hcell fin hcd) hd
theorem pe_int {i j pos} : PE X (.Constant (.int i) j pos) (tC (.int i)) := fun _ _ _ H _ I h => wpAny_Constant_int ⟨.int i, H, I.tok _, ⟨_, rfl⟩, h⟩
theorem pe_bl {b j pos} : PE X (.Constant (.bool b) j pos) (tC (.bl b)) := fun _ _ _ H _ I h => Constant_bool ⟨.bl b, H, I, rfl, h⟩
theorem pe_non {j pos} : PE X (.Constant .none j pos) (tC .non) := fun _ _ _ H _ I h => Constant_none ⟨.non, H, I, rfl, h⟩
theorem pe_str {x j pos} : PE X (.Constant (.str x) j pos) (tC (.str x)) := fun _ _ _ H _ I h => Calls.Constant_str ⟨.str x, H, I.tok _, ⟨_, rfl⟩, h⟩
def Gl (X : Cx) (x : Str) : Prop := X.env.kindOf x = some .globalImplicit
theorem ld_glob {E : Value -> Shared -> Prop} {pins : List (Addr × Obj)} {s : Shared} {σ : St} {H : Hp} {x : Str} {u : Value} {pos : Pos} {Q : Value -> Shared -> Prop} (I : Inv X pins σ H s) (hg : Gl X x) (hm : X.mg x = some u) (h : Q u s)
 (hd : (x == ("__debug__" : Str)) = false := by decide) : wpAny (model X.prog X.w) X.A (eval (.Name x pos) X.env) Q E s :=
  Calls.Name_function_global I.ok.kind hg (Calls.loadGlobal_global (by rw [I.ok.glob]; exact I.mod.glob.keeps I.bk) hm h) hd
theorem ld_blt {E : Value -> Shared -> Prop} {pins : List (Addr × Obj)} {s : Shared} {σ : St} {H : Hp} {x : Str} {u : Value} {pos : Pos} {Q : Value -> Shared -> Prop} (I : Inv X pins σ H s) (hg : Gl X x) (hm : X.mg x = none) (hv : bootBuiltins x = some u) (h : Q u s)
 (hn : x ≠ "__name__" := by decide) (hd : (x == ("__debug__" : Str)) = false := by decide) : wpAny (model X.prog X.w) X.A (eval (.Name x pos) X.env) Q E s := by
  obtain ⟨mb, h1, h2⟩ := I.mod.blt; exact Calls.Name_function_global I.ok.kind hg (Calls.loadGlobal_builtin (by rw [I.ok.glob]; exact I.mod.glob.keeps I.bk) hm (by rw [I.ok.blt]; exact h1.keeps I.bk) ((h2 x hn).trans hv) h) hd
theorem pe_bltn {x : Str} {v : V} {u : Value} {pos : Pos} (hg : Gl X x) (hm : X.mg x = none) (hv : bootBuiltins x = some u) (r : RelV v u) (hn : x ≠ "__name__" := by decide) (hd : (x == ("__debug__" : Str)) = false := by decide) : PE X (.Name x pos) (tC v) :=
  fun _ _ _ H _ I h => ld_blt I hg hm hv ⟨v, H, I, r, h⟩ hn hd
variable {a b : Expr} {ta tb : TE} {pos : Pos}
def PC (X : Cx) (op : CmpOp) (a b : Expr) (t : TE) : Prop :=
  ∀ (pins : List (Addr × Obj)) (s : Shared) (σ : St) (H : Hp) (Q : VK), Inv X pins σ H s -> t σ H Q ->
    wpAny (model X.prog X.w) X.A (eval a X.env) (fun v s₁ => wpAny (model X.prog X.w) X.A (eval b X.env) (fun u s₂ => wpAny (model X.prog X.w) X.A (compareOp op v u) (EP X pins σ Q) X.xe s₂) X.xe s₁) X.xe s
def tB (t : TE) : TT := fun σ H Q => t σ H fun x H1 => ∃ c, x = .bl c /\ Q c H1
theorem pt_cmp {op : CmpOp} {t : TE} (h : PC X op a b t) (h1 : behindInMarks op b = false := by first | exact nobehind _ (by decide) (by decide) | rfl) : PT X (.Compare a [op] [b] pos) (tB t) := by
  intro pins s σ H Q I hw; refine wpAny_isTrue_Compare1 (thn (h pins s σ H _ I hw) fun v s1 h1 => thn h1 fun u s2 h2 => thn h2 fun c s3 ⟨x, H1, I1, r1, q1⟩ => ?_) h1; obtain ⟨d, rfl, q⟩ := q1; cases r1; exact wpAny_truthy_bool ⟨H1, I1, q⟩
theorem pt_val {e : Expr} {t : TE} (h : PE X e t) (he : ∀ whole, isTrue e X.env whole = (do let v <- whole; standAt e.pos; holding [v] (truthy v)) := by intro _; rfl) : PT X e (tB t) := by
  intro pins s σ H Q I hw; refine isTrue_plain (thn (h pins s σ H _ I hw) fun v s1 ⟨x, H1, I1, r1, q1⟩ => ?_) (he _); obtain ⟨d, rfl, q⟩ := q1; cases r1; exact wpAny_truthy_bool ⟨H1, I1, q⟩
variable {tA tB' : TT} {rest : List Expr}
def tAnd (t u : TT) : TT := fun σ H Q => t σ H fun c H1 => if c = true then u σ H1 Q else Q false H1
def tOr (t u : TT) : TT := fun σ H Q => t σ H fun c H1 => if c = true then Q true H1 else u σ H1 Q
def tNot (t : TT) : TT := fun σ H Q => t σ H fun c H1 => Q (!c) H1
theorem pw_and1 (ha : PT X a tA) : PW X (.BoolOp .And [a] pos) tA := by
  intro wh pins s σ H Q I h; refine isTrue_and (thn (ha pins s σ H Q I h) fun c s1 e => ?_)
  cases c with
  | true => exact isTrue_and_nil e
  | false => exact e
theorem pw_or1 (ha : PT X a tA) : PW X (.BoolOp .Or [a] pos) tA := by
  intro wh pins s σ H Q I h; refine isTrue_or (thn (ha pins s σ H Q I h) fun c s1 e => ?_)
  cases c with
  | false => exact isTrue_or_nil e
  | true => exact e
theorem pw_and (ha : PT X a tA) (hb : PW X (.BoolOp .And (b :: rest) pos) tB') : PW X (.BoolOp .And (a :: b :: rest) pos) (tAnd tA tB') := by
  intro wh pins s σ H Q I h; refine isTrue_and (thn (ha pins s σ H _ I h) fun c s1 ⟨H1, I1, q1⟩ => ?_)
  cases c with
  | true => exact hb wh pins s1 σ H1 Q I1 q1
  | false => exact ⟨H1, I1, q1⟩
theorem pw_or (ha : PT X a tA) (hb : PW X (.BoolOp .Or (b :: rest) pos) tB') : PW X (.BoolOp .Or (a :: b :: rest) pos) (tOr tA tB') := by
  intro wh pins s σ H Q I h; refine isTrue_or (thn (ha pins s σ H _ I h) fun c s1 ⟨H1, I1, q1⟩ => ?_)
  cases c with
  | true => exact ⟨H1, I1, q1⟩
  | false => exact hb wh pins s1 σ H1 Q I1 q1
theorem pt_not (ha : PT X a tA) : PT X (.UnaryOp .Not a pos) (tNot tA) := by
  intro pins s σ H Q I h; exact isTrue_not (ha pins s σ H (fun c H1 => Q (!c) H1) I h)
def tAndV (ta tb : TE) : TE := fun σ H Q => ta σ H fun x H1 => ∃ c, x = .bl c /\ if c = true then tb σ H1 Q else Q (.bl false) H1
def tOrV (ta tb : TE) : TE := fun σ H Q => ta σ H fun x H1 => ∃ c, x = .bl c /\ if c = true then Q (.bl true) H1 else tb σ H1 Q
def tNotV (ta : TE) : TE := fun σ H Q => ta σ H fun x H1 => ∃ c, x = .bl c /\ Q (.bl (!c)) H1
theorem pe_one {op} {t : TE} (h : PE X a t) : PE X (.BoolOp op [a] pos) t := fun pins s σ H Q I hw => BoolOp_one (h pins s σ H Q I hw)
theorem pe_and (ha : PE X a ta) (hb : PE X (.BoolOp .And (b :: rest) pos) tb) : PE X (.BoolOp .And (a :: b :: rest) pos) (tAndV ta tb) := by
  intro pins s σ H Q I h; refine BoolOp_and (thn (ha pins s σ H _ I h) fun v s1 ⟨x, H1, I1, r1, q1⟩ => ?_); obtain ⟨c, rfl, q1⟩ := q1; cases r1; refine wpAny_truthy_bool ?_
  cases c with
  | true => exact hb pins s1 σ H1 Q I1 q1
  | false => exact ⟨.bl false, H1, I1, rfl, q1⟩
theorem pe_or (ha : PE X a ta) (hb : PE X (.BoolOp .Or (b :: rest) pos) tb) : PE X (.BoolOp .Or (a :: b :: rest) pos) (tOrV ta tb) := by
  intro pins s σ H Q I h; refine BoolOp_or (thn (ha pins s σ H _ I h) fun v s1 ⟨x, H1, I1, r1, q1⟩ => ?_); obtain ⟨c, rfl, q1⟩ := q1; cases r1; refine wpAny_truthy_bool ?_
  cases c with
  | false => exact hb pins s1 σ H1 Q I1 q1
  | true => exact ⟨.bl true, H1, I1, rfl, q1⟩
theorem pe_not (ha : PE X a ta) : PE X (.UnaryOp .Not a pos) (tNotV ta) := by
  intro pins s σ H Q I h; refine UnaryOp_ (thn (ha pins s σ H _ I h) fun v s1 ⟨x, H1, I1, r1, q1⟩ => ?_); obtain ⟨c, rfl, q1⟩ := q1; cases r1; exact not_of (wpAny_truthy_bool ⟨.bl (!c), H1, I1, rfl, q1⟩)
def tIf (t : TT) (ta tb : TE) : TE := fun σ H Q => t σ H fun c H1 => if c = true then ta σ H1 Q else tb σ H1 Q
theorem pe_ifExp {c : Expr} (hc : PT X c tA) (ha : PE X a ta) (hb : PE X b tb) : PE X (.IfExp c a b pos) (tIf tA ta tb) := by
  intro pins s σ H Q I h; refine wpAny_IfExp (thn (hc pins s σ H _ I h) fun d s1 ⟨H1, I1, q1⟩ => ?_)
  cases d with
  | true => exact ha pins s1 σ H1 Q I1 q1
  | false => exact hb pins s1 σ H1 Q I1 q1
end
def SqL (K : PySem.W.Frag) (H : Hp) (a : Addr) (xs : List V) : Prop :=
  Rd H a (.lst xs) \/
    ∃ (o : Obj) (its : Array Value) (n : Nat), K.lookup a = some o /\ o.cls = .type "list" /\ o.dict = none /\ o.data = .seq its n /\ its.size <= sizeLine /\ Vals xs its.toList
def SqT (K : PySem.W.Frag) (H : Hp) (a : Addr) (xs : List V) : Prop :=
  Rd H a (.tup xs) \/
    ∃ (o : Obj) (its : Array Value) (n : Nat), K.lookup a = some o /\ o.cls = .type "tuple" /\ o.data = .seq its n /\ its.size <= sizeLine /\ Vals xs its.toList
def absV : Value -> Option V
  | .none => some .non
  | .bool b => some (.bl b)
  | .int i _ => some (.int i)
  | .str x _ => some (.str x)
  | .bytes b _ => some (.byt b)
  | .float b _ => some (.flt b)
  | .ref a => some (.ref a)
  | .type n => some (.ty n)
  | _ => none
theorem RelV.abs {x : V} {u : Value} (r : RelV x u) : absV u = some x := by
  cases x with
  | non => cases r; rfl
  | bl _ => cases r; rfl
  | int _ => obtain ⟨t, rfl⟩ := r; rfl
  | str _ => obtain ⟨t, rfl⟩ := r; rfl
  | byt _ => obtain ⟨t, rfl⟩ := r; rfl
  | flt _ => obtain ⟨t, rfl⟩ := r; rfl
  | ref _ => cases r; rfl
  | ty _ => cases r; rfl
theorem RelV.inj {x y : V} {u : Value} (r : RelV x u) (q : RelV y u) : x = y := Option.some.inj (r.abs.symm.trans q.abs)
theorem Vals.inj : ∀ {xs ys : List V} {us : List Value}, Vals xs us -> Vals ys us -> xs = ys
  | _, _, _, .nil, .nil => rfl
  | _, _, _, .cons r t, .cons r' t' => by rw [r.inj r', Vals.inj t t']
section
variable {X : Cx} {pins : List (Addr × Obj)} {σ : St} {H : Hp} {s : Shared} {a : Addr} {xs ys : List V}
theorem SqL.of {K : PySem.W.Frag} (h : H a = some (.lst xs)) : SqL K H a xs := .inl (.inl h)
theorem SqT.of {K : PySem.W.Frag} (h : H a = some (.tup xs)) : SqT K H a xs := .inl (.inl h)
theorem Inv.list (I : Inv X pins σ H s) (h : SqL X.K H a xs) : ∃ its : List Value, Vals xs its /\ PlainL s.heap a its.toArray /\ xs.length <= sizeLine := by
  rcases h with h | ⟨o, its, n, hk, hc, hd, hs, hz, r⟩
  · obtain ⟨z, its, n, r, e⟩ := h.ok I.hok
    exact ⟨its, r, ⟨_, n, e, rfl, rfl, rfl⟩, z⟩
  · refine ⟨its.toList, r, ⟨o, n, I.kIn a o hk, hc, hd, by simpa using hs⟩, ?_⟩
    have e := r.length; simp only [Array.length_toList] at e; omega
theorem Inv.tuple (I : Inv X pins σ H s) (h : SqT X.K H a xs) : ∃ its : List Value, Vals xs its /\ IsTup s.heap a its.toArray /\ xs.length <= sizeLine := by
  rcases h with h | ⟨o, its, n, hk, hc, hs, hz, r⟩
  · obtain ⟨z, its, r, p⟩ := h.ok I.hok
    exact ⟨its, r, p, z⟩
  · refine ⟨its.toList, r, ⟨o, I.kIn a o hk, hc, n, by simpa using hs⟩, ?_⟩
    have e := r.length; simp only [Array.length_toList] at e; omega
theorem Inv.list_inj (I : Inv X pins σ H s) (h : SqL X.K H a xs) (h' : SqL X.K H a ys) : xs = ys := by
  obtain ⟨its, r, ⟨o, n, e, _, _, d⟩, _⟩ := I.list h; obtain ⟨its', r', ⟨o', n', e', _, _, d'⟩, _⟩ := I.list h'; rw [e] at e'; cases e'; rw [d] at d'
  injection d' with d1 _
  have : its = its' := by simpa using congrArg Array.toList d1
  subst this; exact r.inj r'
theorem Inv.tuple_inj (I : Inv X pins σ H s) (h : SqT X.K H a xs) (h' : SqT X.K H a ys) : xs = ys := by
  obtain ⟨its, r, ⟨o, e, _, n, d⟩, _⟩ := I.tuple h; obtain ⟨its', r', ⟨o', e', _, n', d'⟩, _⟩ := I.tuple h'; rw [e] at e'; cases e'; rw [d] at d'
  injection d' with d1 _
  have : its = its' := by simpa using congrArg Array.toList d1
  subst this; exact r.inj r'
end
abbrev Cx.wish (X : Cx) (E : Value -> Shared -> Prop) : Cx := { X with xe := E }
abbrev Cx.nox (X : Cx) : Cx := X.wish fun _ _ => False
theorem Cx.Ok.wish {X : Cx} (ok : X.Ok) (E : Value -> Shared -> Prop) : (X.wish E).Ok :=
  ⟨ok.mod, ok.kind, ok.glob, ok.blt, ok.above, ok.inj, ok.has, ok.cab, ok.hd, ok.frames, ok.stk, ok.exf, ok.bs, ok.bsz, ok.noex, ok.exfs, ok.funs, ok.frf⟩
theorem Cx.Ok.unwish {X : Cx} {E : Value -> Shared -> Prop} (ok : (X.wish E).Ok) : X.Ok :=
  ⟨ok.mod, ok.kind, ok.glob, ok.blt, ok.above, ok.inj, ok.has, ok.cab, ok.hd, ok.frames, ok.stk, ok.exf, ok.bs, ok.bsz, ok.noex, ok.exfs, ok.funs, ok.frf⟩
section
variable {X : Cx} {pins : List (Addr × Obj)} {σ : St} {H : Hp} {s : Shared} {E : Value -> Shared -> Prop}
theorem Inv.wish (I : Inv X pins σ H s) (E : Value -> Shared -> Prop) : Inv (X.wish E) pins σ H s := ⟨I.ok.wish E, I.os, I.bare, I.base, I.loc, I.cell, I.free, I.freeC, I.pin, I.hok, I.len⟩
theorem Inv.unwish (I : Inv (X.wish E) pins σ H s) : Inv X pins σ H s := ⟨I.ok.unwish, I.os, I.bare, I.base, I.loc, I.cell, I.free, I.freeC, I.pin, I.hok, I.len⟩
theorem SP.unwish {D : Ends} {f : Flow} {s' : Shared} (h : SP (X.wish E) pins D f s') : SP X pins D f s' := by
  cases f with
  | next => obtain ⟨σ', H', I, q⟩ := h; exact ⟨σ', H', I.unwish, q⟩
  | brk => obtain ⟨σ', H', I, q⟩ := h; exact ⟨σ', H', I.unwish, q⟩
  | cont => obtain ⟨σ', H', I, q⟩ := h; exact ⟨σ', H', I.unwish, q⟩
  | ret u => obtain ⟨v, σ', H', I, r, q⟩ := h; exact ⟨v, σ', H', I.unwish, r, q⟩
theorem PSs.nox {st : List Stmt} {t : TS} (h : PSs X.nox st t) : PSs X st t := fun pins s σ H D I hw =>
  wpAny_mono (h pins s σ H D (I.wish _) hw) (fun _ _ q => q.unwish) fun _ _ z => False.elim z
end
section
variable {X : Cx} {st : Stmt} {rest : List Stmt} {t u : TS} {e : Expr} {te : TE} {pos : Pos}
def tNext : TS := fun D σ H => D.nx σ H
def tSeq (t u : TS) : TS := fun D σ H => t { D with nx := u D } σ H
theorem pss_nil : PSs X [] tNext := fun _ _ σ H _ I h => wpAny_execs_nil ⟨σ, H, I, h⟩
theorem pss_cons (h1 : PS X st t) (h2 : PSs X rest u) : PSs X (st :: rest) (tSeq t u) := by
  intro pins s σ H D I h
  refine wpAny_execs_cons (thn (h1 pins s σ H { D with nx := u D } I h) fun f s1 q => ?_)
  cases f with
  | next =>
    obtain ⟨σ', H', I', q⟩ := q; exact h2 pins s1 σ' H' D I' q
  | ret v => exact q
  | brk => exact q
  | cont => exact q
theorem pss_one (h1 : PS X st t) : PSs X [st] t := by
  intro pins s σ H D I h; refine wpAny_execs_cons (thn (h1 pins s σ H D I h) fun f s1 q => ?_)
  cases f with
  | next => exact wpAny_execs_nil q
  | ret v => exact q
  | brk => exact q
  | cont => exact q
theorem Inv.quiet {pins : List (Addr × Obj)} {σ : St} {H : Hp} {s : Shared} (I : Inv X pins σ H s) : interactive X.env = false := by simp [interactive, I.ok.kind]
def tDrop (te : TE) : TS := fun D σ H => te σ H fun _ H1 => D.nx σ H1
theorem ps_expr (he : PE X e te) (hs : swapsWith e none pos.line X.env = pure false := by rfl) : PS X (.Expr e pos) (tDrop te) := by
  intro pins s σ H D I h; exact wpAny_Expr_any (thn (he pins s σ H _ I h) fun v s1 ⟨x, H1, I1, r1, q1⟩ => ⟨σ, H1, I1, q1⟩) I.quiet hs
def tRet (te : TE) : TS := fun D σ H => te σ H D.rt
theorem ps_ret (he : PE X e te) : PS X (.Return (some e) pos) (tRet te) := by
  intro pins s σ H D I h; exact wpAny_Return_some (thn (he pins s σ H _ I h) fun v s1 ⟨x, H1, I1, r1, q1⟩ => ⟨x, σ, H1, I1, r1, q1⟩)
def tIfS (c : TT) (t u : TS) : TS := fun D σ H => c σ H fun b H1 => if b = true then t D σ H1 else u D σ H1
theorem ps_if {c : Expr} {a b : List Stmt} {tc : TT} (hc : PT X c tc) (ha : PSs X a t) (hb : PSs X b u) : PS X (.If c a b pos) (tIfS tc t u) := by
  intro pins s σ H D I h; refine wpAny_If (thn (hc pins s σ H _ I h) fun d s1 ⟨H1, I1, q1⟩ => ?_)
  cases d with
  | true => exact ha pins s1 σ H1 D I1 q1
  | false => exact hb pins s1 σ H1 D I1 q1
end
abbrev TG := V -> St -> Hp -> (St -> Hp -> Prop) -> Prop
abbrev TGs := List V -> St -> Hp -> (St -> Hp -> Prop) -> Prop
def PG (X : Cx) (target : Expr) (t : TG) : Prop :=
  ∀ (pins : List (Addr × Obj)) (s : Shared) (σ : St) (H : Hp) (v : V) (u : Value) (Q : St -> Hp -> Prop), Inv X pins σ H s -> RelV v u -> t v σ H Q ->
    wpAny (model X.prog X.w) X.A (assign target X.env u) (fun _ s' => ∃ σ' H', Inv X pins σ' H' s' /\ Q σ' H') X.xe s
def PGs (X : Cx) (ts : List Expr) (t : TGs) : Prop :=
  ∀ (pins : List (Addr × Obj)) (s : Shared) (σ : St) (H : Hp) (vs : List V) (us : List Value) (Q : St -> Hp -> Prop), Inv X pins σ H s -> Vals vs us -> t vs σ H Q ->
    wpAny (model X.prog X.w) X.A (assignInOrder ((assignEach ts X.env).map (·.2)) us) (fun _ s' => ∃ σ' H', Inv X pins σ' H' s' /\ Q σ' H') X.xe s
section
variable {X : Cx} {pos : Pos}
def gName (i : Nat) : TG := fun v σ H Q => Q (σ.set i (some v)) H
theorem pg_name {i : Nat} {x : Str} (hN : X.N.Nodup) (hi : X.N[i]? = some x) (hx : Loc X.env.scope x) (hf : X.fn x = true \/ X.env.scope.names.lookup x = some .local := by first | exact .inl rfl | exact .inr rfl | assumption) : PG X (.Name x pos) (gName i) := by
  intro pins s σ H v u Q I r h; exact wpAny_assign_Name (store_ok I hN hi hx r (fun s' I' => ⟨_, H, I', h⟩) hf)
def gNil : TGs := fun vs σ H Q => vs = [] /\ Q σ H
def gCons (t : TG) (u : TGs) : TGs := fun vs σ H Q => ∃ v r, vs = v :: r /\ t v σ H fun σ' H' => u r σ' H' Q
theorem pgs_nil : PGs X [] gNil := by
  intro pins s σ H vs us Q I r h; obtain ⟨e, h⟩ := h; subst e; cases r; exact assignInOrder_nil ⟨σ, H, I, h⟩
theorem pgs_cons {e : Expr} {es : List Expr} {t : TG} {u : TGs} (h1 : PG X e t) (h2 : PGs X es u)
 (hs : (assignEach (e :: es) X.env).map (·.2) = assign e X.env :: (assignEach es X.env).map (·.2) := by rfl) : PGs X (e :: es) (gCons t u) := by
  intro pins s σ H vs us Q I r h; obtain ⟨v, vr, e1, h⟩ := h; subst e1
  cases r with
  | cons r rr =>
    rw [hs]; refine assignInOrder_cons (thn (h1 pins s σ H _ _ _ I r h) fun _ s1 ⟨σ1, H1, I1, q1⟩ => ?_); exact h2 pins s1 σ1 H1 _ _ Q I1 rr q1
def gTup (K : PySem.W.Frag) (n : Nat) (t : TGs) : TG := fun v σ H Q => ∃ a xs, v = .ref a /\ SqT K H a xs /\ xs.length = n /\ t xs σ H Q
theorem pg_tup {es : List Expr} {k : Nat} {t : TGs} {n : Nat} (hc : X.calm = true) (h : PGs X es t)
 (hn : (assignEach es X.env).length = n := by rfl) (hst : (assignEach es X.env).findIdx? (·.1) = none := by rfl) : PG X (.Tuple es k pos) (gTup X.K n t) := by
  intro pins s σ H v u Q I r hw; obtain ⟨a, xs, e1, hq, hl, hw⟩ := hw; subst e1; cases r; obtain ⟨its, rv, ht, hz⟩ := I.tuple hq; refine assign_Tuple_tuple (I.ok.hd hc) ht (by simp [hn, <- hl, rv.length]) hst fun h' hx => ?_
  have I1 : Inv X pins σ H { s with heap := h' } := I.kept (t' := s.toks) fun b o e => hx b o (Nat.ne_of_lt (Heap.lt_size e)) e
  exact h pins _ σ H xs _ Q I1 (by simpa using rv) hw
def tAsg (te : TE) (g : TG) : TS := fun D σ H => te σ H fun x H1 => g x σ H1 D.nx
theorem ps_asg {tg e : Expr} {te : TE} {g : TG} (he : PE X e te) (hg : PG X tg g) (hs : swapsWithSole [tg] e pos.line X.env = pure false := by rfl) (hw : swappedStores [tg] e X.env = pure none := by rfl)
 (h1 : (assignEach [tg] X.env).map (·.2) = [assign tg X.env] := by rfl) : PS X (.Assign [tg] e pos) (tAsg te g) := by
  intro pins s σ H D I h; refine wpAny_Assign_stores (thn (he pins s σ H _ I h) fun v s1 ⟨x, H1, I1, r1, q1⟩ => ?_) hs hw; rw [h1]; exact thn (hg pins s1 σ H1 x v _ I1 r1 q1) fun _ s2 q => q
theorem ps_set {i : Nat} {x : Str} {e : Expr} {te : TE} {pos' : Pos} (hN : X.N.Nodup) (hi : X.N[i]? = some x) (hx : Loc X.env.scope x) (he : PE X e te) (hs : swapsWith e (some (.Name x pos')) pos.line X.env = pure false := by rfl) (hf : X.fn x = true \/ X.env.scope.names.lookup x = some .local := by first | exact .inl rfl | exact .inr rfl | assumption) :
 PS X (.Assign [.Name x pos'] e pos) (tAsg te (gName i)) := by
  intro pins s σ H D I h; refine wpAny_Assign_Name (thn (he pins s σ H _ I h) fun v s1 ⟨y, H1, I1, r1, q1⟩ => ?_) hs; exact store_ok I1 hN hi hx r1 (fun s2 I2 => ⟨_, H1, I2, q1⟩) hf
end
section
variable {X : Cx} {pos : Pos}
end
structure It where
  go : Nat -> Hp -> Prop
  yld : Nat -> Hp -> V -> Hp -> Prop
  stop : Nat -> Hp -> Prop
def FpOk (X : Cx) (pins : List (Addr × Obj)) (H : Hp) (b : Addr) : Prop :=
  H b = none /\ b ≠ X.env.locals /\ b ∉ X.fs /\ (b ∈ X.ex \/ X.s₀.heap.objs.size <= b) /\ (∀ x c, X.env.cells.lookup x = some c -> c ≠ b) /\ ∀ p ∈ X.pn ++ pins, p.1 ≠ b
theorem Inv.fpOk {X : Cx} {pins : List (Addr × Obj)} {σ : St} {H H' : Hp} {s : Shared} {b : Addr} (I : Inv X pins σ H s) (hb : s.heap.objs.size <= b) (hn : H' b = none) : FpOk X pins H' b := by
  refine ⟨hn, Nat.ne_of_gt (Nat.lt_of_lt_of_le I.lt hb), I.nofs hb, .inr (Nat.le_trans I.sz hb), fun x c e z => ?_, fun p hp z => ?_⟩
  · obtain ⟨v, q⟩ := I.cell x c e
    exact absurd (Nat.lt_of_lt_of_le q.lt (by rw [z]; exact hb)) (Nat.lt_irrefl _)
  · exact absurd (Nat.lt_of_lt_of_le (Heap.lt_size (I.pin p hp).1) (by rw [z]; exact hb)) (Nat.lt_irrefl _)
structure Turn (P : Program) (w : World) (K : PySem.W.Frag) (tg : Expr) (J : It) (fp : List Addr) (it : Addr) (tn : Nat -> Heap -> Prop) : Prop where
  mem : it ∈ fp
  obj : ∀ i h, tn i h -> ∀ b ∈ fp, ∃ o, h.get? b = some o /\ ∀ v, o.data ≠ .cell v
  keep : ∀ i h h', tn i h -> (∀ b ∈ fp, ∀ o, h.get? b = some o -> h'.get? b = some o) -> tn i h'
  item : ∀ (X : Cx), X.prog = P -> X.w = w -> X.K = K -> X.calm = true -> ∀ (i : Nat) (pins : List (Addr × Obj)) (s : Shared) (σ : St) (H : Hp) (E : Value -> Shared -> Prop), Inv X pins σ H s -> (∀ b ∈ fp, FpOk X pins H b) -> tn i s.heap -> J.go i H ->
    wpAny (model P w) X.A (pyNext (.ref it)) (fun r s1 => ∃ u, r = some u /\
      wpAny (model P w) X.A (letOwnedTupleGo tg (.ref it) u) (fun _ s2 => ∃ x H', Inv X pins σ H' s2 /\ RelV x u /\ J.yld i H x H' /\ tn (i + 1) s2.heap /\ ∀ b ∈ fp, H' b = none) E s1) E s
  done : ∀ (X : Cx), X.prog = P -> X.w = w -> X.K = K -> X.calm = true -> ∀ (i : Nat) (pins : List (Addr × Obj)) (s : Shared) (σ : St) (H : Hp) (E : Value -> Shared -> Prop), Inv X pins σ H s -> (∀ b ∈ fp, FpOk X pins H b) -> tn i s.heap -> J.stop i H ->
    wpAny (model P w) X.A (pyNext (.ref it)) (fun r s1 => r = none /\ Inv X pins σ H s1) E s
  self : ∀ (A : Around) (i : Nat) (s : Shared) (Q : Value -> Shared -> Prop) (E : Value -> Shared -> Prop), tn i s.heap -> Q (.ref it) s -> wpAny (model P w) A (pyIter (.ref it)) Q E s
abbrev TI := St -> Hp -> (It -> Hp -> Prop) -> Prop
def PIE (X : Cx) (pins : List (Addr × Obj)) (σ : St) (tg : Expr) (R : It -> Hp -> Prop) (itv : Value) (s2 : Shared) : Prop :=
  ∃ (it : Addr) (fp : List Addr) (tn : Nat -> Heap -> Prop) (J : It) (H' : Hp), itv = .ref it /\ Inv X pins σ H' s2 /\ Turn X.prog X.w X.K tg J fp it tn /\ tn 0 s2.heap /\ (∀ b ∈ fp, FpOk X pins H' b) /\ R J H'
def PI (X : Cx) (tg iter : Expr) (wi : TI) : Prop :=
  ∀ (pins : List (Addr × Obj)) (s : Shared) (σ : St) (H : Hp) (R : It -> Hp -> Prop), Inv X pins σ H s -> wi σ H R ->
    wpAny (model X.prog X.w) X.A (eval iter X.env) (fun v s1 => wpAny (model X.prog X.w) X.A (pyIter v) (PIE X pins σ tg R) X.xe s1) X.xe s
theorem go_of {M : Model} {A : Around} {E : Value -> Shared -> Prop} {s : Shared} {tg : Expr} {it : Addr} {u : Value} {o : Obj} {n : String} {vs : Array Value} {Q : Unit -> Shared -> Prop} (ho : s.heap.get? it = some o) (hc : o.cls = .type n) (hd : o.data = .fields vs)
 (hn : ["enumerate", "zip", "dict_itemiterator", "dict_reverseitemiterator", "odict_iterator", "itertools.zip_longest", "itertools.pairwise"].contains n = false) (hQ : Q () s) : wpAny M A (letOwnedTupleGo tg (.ref it) u) Q E s := by
  unfold letOwnedTupleGo
  cases tg <;> first
    | exact wpAny_pure hQ
    | (cases u <;> first
        | exact wpAny_pure hQ
        | (refine wpAny_bind (wpAny_load ho ?_)
           rw [hc, hd]
           show wpAny M A (if (["enumerate", "zip", "dict_itemiterator", "dict_reverseitemiterator", "odict_iterator", "itertools.zip_longest", "itertools.pairwise"].contains n && vs[0]? == some (rawInt _)) = true then _ else _) Q E s
           rw [if_neg (by intro h; rw [hn, Bool.false_and] at h; cases h)]
           exact wpAny_pure hQ))
def Itt (K : PySem.W.Frag) (a : Addr) : It :=
  ⟨fun i H => ∃ xs x, SqT K H a xs /\ xs[i]? = some x, fun i H x H' => H' = H /\ ∀ xs, SqT K H a xs -> xs[i]? = some x, fun i H => ∃ xs, SqT K H a xs /\ xs.length <= i⟩
theorem turn_tuple {P : Program} {w : World} {K : PySem.W.Frag} {tg : Expr} (a it : Addr) : Turn P w K tg (Itt K a) [it] it (fun i h => h.IsTupleIter it a i) where
  mem := by simp
  obj := fun i h st b hb => by
    have e : b = it := by simpa using hb
    subst e; obtain ⟨o, e, c, d⟩ := st; exact ⟨o, e, fun v z => by rw [d] at z; cases z⟩
  keep := fun i h h' st k => st.at fun o e => k it (by simp) o e
  item := by
    intro X hP hw hK hc i pins s σ H E I hf st hg; subst hP hw hK; obtain ⟨xs, x, hq, hx⟩ := hg; obtain ⟨its, rv, p, hz⟩ := I.tuple hq; obtain ⟨u, hu, ru⟩ := rv.get hx; obtain ⟨f0, f1, f2, f3, f4, f5⟩ := hf it (by simp); refine wpAny_pyNext_tuple_item st (show s.heap.IsTuple a its.toArray from p) (x := u) (by simpa using hu) fun h' st' sb => ?_
    have I1 : Inv X pins σ H { s with heap := h' } := I.turned (t' := s.toks) (fun b o hb e => (sb.2 b hb).trans e) f0 f1 f3 f4 f5; obtain ⟨o, e, c, d⟩ := id st'
    exact ⟨u, rfl, go_of (s := { s with heap := h' }) e c d (by decide) ⟨x, H, I1, ru, ⟨rfl, fun ys hy => by rw [I.tuple_inj hy hq]; exact hx⟩, st', fun b hb => (hf b hb).1⟩⟩
  done := by
    intro X hP hw hK hc i pins s σ H E I hf st hg; subst hP hw hK; obtain ⟨xs, hq, hx⟩ := hg; obtain ⟨its, rv, p, hz⟩ := I.tuple hq; obtain ⟨f0, f1, f2, f3, f4, f5⟩ := hf it (by simp); have hl := rv.length; exact wpAny_pyNext_tuple_end (I.ok.hd hc) st (show s.heap.IsTuple a its.toArray from p) (by simp; omega) fun h' eb => ⟨rfl, I.turned (t' := s.toks) (fun b o hb e => eb b o hb e) f0 f1 f3 f4 f5⟩
  self := fun _ _ _ _ _ st h => wpAny_pyIter_tupleiter st h
section
variable {X : Cx} {tg : Expr}
def iTup (K : PySem.W.Frag) (tl : TE) : TI := fun σ H R => tl σ H fun x H1 => ∃ a, x = .ref a /\ (∃ xs, SqT K H1 a xs) /\ R (Itt K a) H1
theorem pi_tup {l : Expr} {tl : TE} (hl : PE X l tl) : PI X tg l (iTup X.K tl) := by
  intro pins s σ H R I h; refine thn (hl pins s σ H _ I h) fun v s1 ⟨x, H1, I1, r1, q1⟩ => ?_
  obtain ⟨a, e, ⟨xs, hq⟩, q⟩ := q1; subst e; cases r1; obtain ⟨its, rv, p, hz⟩ := I1.tuple hq; refine wpAny_pyIter_tuple (show s1.heap.IsTuple a its.toArray from p) ?_; refine ⟨s1.heap.objs.size, [s1.heap.objs.size], _, _, H1, rfl, I1.kept (t' := s1.toks) fun b o e => Heap.get?_push_of_some _ e, turn_tuple a _, ⟨_, Heap.get?_push_size _ rfl, rfl, rfl⟩, fun b hb => ?_, q⟩; have e : b = s1.heap.objs.size := by simpa using hb
  subst e; exact I1.fpOk (Nat.le_refl _) (I1.hok.fresh (Nat.le_refl _))
def tFor (wi : TI) (g : TG) (tb : TS) : TS := fun D σ H => wi σ H fun J H1 => ∃ W : Nat -> Nat -> St -> Hp -> Prop, (∃ m, W 0 m σ H1) /\ ∀ i m σ H, W i m σ H ->
  (J.stop i H /\ D.nx σ H) \/ (J.go i H /\ ∃ N : St -> Hp -> Prop, (∀ σ' H', N σ' H' -> ∃ m', m' < m /\ W (i + 1) m' σ' H') /\ ∀ x H', J.yld i H x H' -> g x σ H' fun σ2 H2 => tb { D with nx := N, ct := N, bk := D.nx } σ2 H2)
def pinsAt (fp : List Addr) (h : Heap) : List (Addr × Obj) := fp.filterMap fun b => (h.get? b).map fun o => (b, o)
theorem mem_pinsAt {fp : List Addr} {h : Heap} {b : Addr} {o : Obj} (hb : b ∈ fp) (e : h.get? b = some o) : (b, o) ∈ pinsAt fp h := List.mem_filterMap.mpr ⟨b, hb, by rw [e]; rfl⟩
theorem of_pinsAt {fp : List Addr} {h : Heap} {p : Addr × Obj} (hp : p ∈ pinsAt fp h) : p.1 ∈ fp /\ h.get? p.1 = some p.2 := by
  obtain ⟨b, hb, e⟩ := List.mem_filterMap.mp hp
  cases q : h.get? b with
  | none => rw [q] at e; cases e
  | some o =>
    rw [q] at e; have e' : (b, o) = p := Option.some.inj e; subst e'; exact ⟨hb, q⟩
theorem Inv.pinned {pins : List (Addr × Obj)} {σ : St} {H : Hp} {s : Shared} {fp : List Addr} (I : Inv X pins σ H s) (hf : ∀ b ∈ fp, FpOk X pins H b) (ho : ∀ b ∈ fp, ∃ o, s.heap.get? b = some o /\ ∀ v, o.data ≠ .cell v) : Inv X (pins ++ pinsAt fp s.heap) σ H s :=
  I.pins_of fun p hp => (List.mem_append.mp hp).elim (fun z => I.pin p (List.mem_append_right _ z)) fun z => by
    obtain ⟨hb, e⟩ := of_pinsAt z; obtain ⟨f0, f1, f2, _⟩ := hf p.1 hb; obtain ⟨o, e', d⟩ := ho p.1 hb; rw [e] at e'; cases e'; exact ⟨e, f0, f1, f2, d⟩
theorem Inv.unpinned {pins pl : List (Addr × Obj)} {σ : St} {H : Hp} {s : Shared} (I : Inv X (pins ++ pl) σ H s) : Inv X pins σ H s := I.pins_of fun p hp => I.pin p (List.mem_append_right _ (List.mem_append_left _ hp))
theorem ps_for {iter : Expr} {body : List Stmt} {wi : TI} {g : TG} {tb : TS} {pos : Pos} (hp : PassesOwn (model X.prog X.w) X.A X.env X.xe) (hc : X.calm = true) (hi : PI X tg iter wi) (hg : PG X tg g) (hb : PSs X body tb)
 (hs : ∀ x, foldedSetIterable iter X.env x = pure x := by intro _; rfl) : PS X (.For tg iter body [] pos) (tFor wi g tb) := by
  intro pins s σ H D I h; refine wpAny_For (thn (hi pins s σ H _ I h) fun v s1 h1 => thn h1 fun itv s2 h2 => ?_) hs; obtain ⟨it, fp, tn, J, H2, e, I2, T, st2, f2, W, ⟨m0, w0⟩, turn⟩ := h2; subst e; have stat : ∀ {H' : Hp}, (∀ b ∈ fp, H' b = none) -> ∀ b ∈ fp, FpOk X pins H' b := fun hn b hb => ⟨hn b hb, (f2 b hb).2⟩
  refine codeAny_forLoop_any (fun n s' => ∃ i σ' H', Inv X pins σ' H' s' /\ tn i s'.heap /\ (∀ b ∈ fp, H' b = none) /\ W i n σ' H') ?_ m0 ⟨0, σ, H2, I2, st2, fun b hb => (f2 b hb).1, w0⟩; rintro n s3 ⟨i, σ3, H3, I3, st3, fr3, w3⟩
  rcases turn i n σ3 H3 w3 with ⟨stop, qn⟩ | ⟨go, N, hN, step⟩
  · refine wpAny_passesOwn hp (thn (T.done X rfl rfl rfl hc i pins s3 σ3 H3 X.xe I3 (stat fr3) st3 stop) fun r s4 ⟨hr, I4⟩ => ?_)
    subst hr; exact wpAny_execs_nil ⟨σ3, H3, I4, qn⟩
  · refine wpAny_passesOwn hp (thn (T.item X rfl rfl rfl hc i pins s3 σ3 H3 X.xe I3 (stat fr3) st3 go) fun r s4 ⟨u, hr, h4⟩ => ?_)
    subst hr; refine wpAny_passesOwn hp (thn h4 fun _ s5 ⟨x, H5, I5, r5, y5, st5, fr5⟩ => ?_); have I5' := I5.pinned (stat fr5) (T.obj _ _ st5); refine wpAny_passesOwn hp (thn (hg _ s5 σ3 H5 x u _ I5' r5 (step x H5 y5)) fun _ s6 ⟨σ6, H6, I6, q6⟩ => ?_); refine wpAny_passesOwn hp (thn (hb _ s6 σ6 H6 _ I6 q6) fun f s7 q7 => ?_); have again : ∀ {σ7 : St} {H7 : Hp}, Inv X (pins ++ pinsAt fp s5.heap) σ7 H7 s7 -> N σ7 H7 -> ∃ m, m < n /\ ∃ i σ' H', Inv X pins σ' H' s7 /\ tn i s7.heap /\ (∀ b ∈ fp, H' b = none) /\ W i m σ' H' := fun {σ7 H7} I7 n7 => by
      obtain ⟨m', hm, w7⟩ := hN σ7 H7 n7; refine ⟨m', hm, i + 1, σ7, H7, I7.unpinned, T.keep _ _ _ st5 fun b hb o e => (I7.pin (b, o) (List.mem_append_right _ (List.mem_append_right _ (mem_pinsAt hb e)))).1, fun b hb => ?_, w7⟩; obtain ⟨o, e, d⟩ := T.obj _ _ st5 b hb; exact (I7.pin (b, o) (List.mem_append_right _ (List.mem_append_right _ (mem_pinsAt hb e)))).2.1
    cases f with
    | next => obtain ⟨σ7, H7, I7, n7⟩ := q7; exact again I7 n7
    | cont => obtain ⟨σ7, H7, I7, n7⟩ := q7; exact again I7 n7
    | brk => obtain ⟨σ7, H7, I7, q7⟩ := q7; exact ⟨σ7, H7, I7.unpinned, q7⟩
    | ret v => obtain ⟨x7, σ7, H7, I7, r7, q7⟩ := q7; exact ⟨x7, σ7, H7, I7.unpinned, r7, q7⟩
end
theorem for_tup {K : PySem.W.Frag} {a : Addr} {xs : List V} {g : TG} {tb : TS} {D : Ends} {σ : St} {H : Hp} (Pv : Nat -> St -> Hp -> Prop) (h0 : Pv 0 σ H) (hl : ∀ i σ H, i <= xs.length -> Pv i σ H -> SqT K H a xs)
 (hs : ∀ i x σ H, xs[i]? = some x -> Pv i σ H -> g x σ H fun σ2 H2 => tb { D with nx := Pv (i + 1), ct := Pv (i + 1), bk := D.nx } σ2 H2) (hd : ∀ σ H, Pv xs.length σ H -> D.nx σ H) :
 ∃ W : Nat -> Nat -> St -> Hp -> Prop, (∃ m, W 0 m σ H) /\ ∀ i m σ H, W i m σ H ->
 ((Itt K a).stop i H /\ D.nx σ H) \/ ((Itt K a).go i H /\ ∃ N : St -> Hp -> Prop, (∀ σ' H', N σ' H' -> ∃ m', m' < m /\ W (i + 1) m' σ' H') /\ ∀ x H', (Itt K a).yld i H x H' -> g x σ H' fun σ2 H2 => tb { D with nx := N, ct := N, bk := D.nx } σ2 H2) := by
  refine ⟨fun i m σ H => m = xs.length - i /\ i <= xs.length /\ Pv i σ H, ⟨xs.length, by simp, Nat.zero_le _, h0⟩, ?_⟩; rintro i m σ H ⟨rfl, hi, p⟩; have q := hl i σ H hi p
  by_cases hlt : i < xs.length
  · refine .inr ⟨⟨xs, xs[i], q, by simp [hlt]⟩, Pv (i + 1), fun σ' H' p' => ⟨xs.length - (i + 1), by omega, rfl, hlt, p'⟩, fun x H' y => ?_⟩
    obtain ⟨e, y⟩ := y; subst e; exact hs i x σ _ (y xs q) p
  · have e : i = xs.length := by omega
    subst e; exact .inl ⟨⟨xs, q, Nat.le_refl _⟩, hd σ H p⟩
abbrev R2 := V -> V -> Hp -> VK -> Prop
def OpR (X : Cx) (f : Value -> Value -> Sem Value) (r : R2) : Prop :=
  ∀ (pins : List (Addr × Obj)) (s : Shared) (σ : St) (H : Hp) (x y : V) (v u : Value) (Q : VK), Inv X pins σ H s -> RelV x v -> RelV y u -> r x y H Q ->
    wpAny (model X.prog X.w) X.A (f v u) (EP X pins σ Q) X.xe s
def UnR (X : Cx) (f : Value -> Sem Value) (r : V -> Hp -> VK -> Prop) : Prop :=
  ∀ (pins : List (Addr × Obj)) (s : Shared) (σ : St) (H : Hp) (x : V) (v : Value) (Q : VK), Inv X pins σ H s -> RelV x v -> r x H Q ->
    wpAny (model X.prog X.w) X.A (f v) (EP X pins σ Q) X.xe s
def CallR (X : Cx) (f : Value) (r : List V -> Hp -> VK -> Prop) : Prop :=
  ∀ (pins : List (Addr × Obj)) (s : Shared) (σ : St) (H : Hp) (xs : List V) (us : List Value) (Q : VK), Inv X pins σ H s -> Vals xs us -> r xs H Q ->
    wpAny (model X.prog X.w) X.A (call f us) (EP X pins σ Q) X.xe s
def tOp (r : R2) (ta tb : TE) : TE := fun σ H Q => ta σ H fun x H1 => tb σ H1 fun y H2 => r x y H2 Q
def tUn (r : V -> Hp -> VK -> Prop) (ta : TE) : TE := fun σ H Q => ta σ H fun x H1 => r x H1 Q
def rI (C : Int -> Int -> Prop) (g : Int -> Int -> V) : R2 := fun x y H Q => ∃ i j, x = .int i /\ y = .int j /\ C i j /\ Q (g i j) H
def rI0 (g : Int -> Int -> V) : R2 := fun x y H Q => ∃ i j, x = .int i /\ y = .int j /\ Q (g i j) H
def rU (g : Int -> V) : V -> Hp -> VK -> Prop := fun x H Q => ∃ i, x = .int i /\ Q (g i) H
section
variable {X : Cx} {a b c : Expr} {ta tb tc : TE} {pos : Pos}
theorem binT (ha : PE X a ta) (hb : PE X b tb) {pins : List (Addr × Obj)} {s : Shared} {σ : St} {H : Hp} {R : V -> V -> Hp -> Prop} (I : Inv X pins σ H s)
 (h : ta σ H fun x H1 => tb σ H1 fun y H2 => R x y H2) {Q : Value -> Shared -> Prop} {f : Value -> Value -> Sem Value}
 (hf : ∀ v u s2 x y H2, Inv X pins σ H2 s2 -> RelV x v -> RelV y u -> R x y H2 -> wpAny (model X.prog X.w) X.A (f v u) Q X.xe s2) :
 wpAny (model X.prog X.w) X.A (eval a X.env) (fun v s₁ => wpAny (model X.prog X.w) X.A (eval b X.env) (fun u s₂ => wpAny (model X.prog X.w) X.A (f v u) Q X.xe s₂) X.xe s₁) X.xe s := by
  refine thn (ha pins s σ H _ I h) fun v s1 ⟨x, H1, I1, r1, q1⟩ => ?_
  refine thn (hb pins s1 σ H1 _ I1 q1) fun u s2 ⟨y, H2, I2, r2, q2⟩ => ?_
  exact hf v u s2 x y H2 I2 r1 r2 q2
theorem pe_op {op : Operator} {r : R2} (ho : OpR X (binaryOp op) r) (ha : PE X a ta) (hb : PE X b tb) : PE X (.BinOp a op b pos) (tOp r ta tb) := by
  intro pins s σ H Q I h; exact wpAny_BinOp (binT ha hb I h fun v u s2 x y H2 I2 rx ry q => ho pins s2 σ H2 x y v u Q I2 rx ry q)
theorem pe_un {op : UnaryOp} {r : V -> Hp -> VK -> Prop} (ho : UnR X (unaryOp op) r) (ha : PE X a ta) : PE X (.UnaryOp op a pos) (tUn r ta) := by
  intro pins s σ H Q I h; exact UnaryOp_ (thn (ha pins s σ H _ I h) fun v s1 ⟨x, H1, I1, r1, q1⟩ => ho pins s1 σ H1 x v Q I1 r1 q1)
theorem opI {f : Value -> Value -> Sem Value} {C : Int -> Int -> Prop} {g : Int -> Int -> Int}
 (rule : ∀ (i j : Int) (t u : Tok) (s : Shared) (Q : Value -> Shared -> Prop) (E : Value -> Shared -> Prop), C i j -> Q (.int (g i j) s.toks) { s with toks := s.toks + 1 } -> wpAny (model X.prog X.w) X.A (f (.int i t) (.int j u)) Q E s) :
 OpR X f (rI C fun i j => .int (g i j)) := by
  intro pins s σ H x y v u Q I rx ry h; obtain ⟨i, j, rfl, rfl, hc, q⟩ := h; obtain ⟨t, rfl⟩ := rx; obtain ⟨t', rfl⟩ := ry; exact rule i j t t' s _ _ hc ⟨.int (g i j), H, I.tok _, ⟨_, rfl⟩, q⟩
theorem opI0 {f : Value -> Value -> Sem Value} {g : Int -> Int -> Int}
 (rule : ∀ (i j : Int) (t u : Tok) (s : Shared) (Q : Value -> Shared -> Prop) (E : Value -> Shared -> Prop), Q (.int (g i j) s.toks) { s with toks := s.toks + 1 } -> wpAny (model X.prog X.w) X.A (f (.int i t) (.int j u)) Q E s) :
 OpR X f (rI0 fun i j => .int (g i j)) := by
  intro pins s σ H x y v u Q I rx ry h; obtain ⟨i, j, rfl, rfl, q⟩ := h; obtain ⟨t, rfl⟩ := rx; obtain ⟨t', rfl⟩ := ry; exact rule i j t t' s _ _ ⟨.int (g i j), H, I.tok _, ⟨_, rfl⟩, q⟩
theorem opB0 {f : Value -> Value -> Sem Value} {g : Int -> Int -> Bool}
 (rule : ∀ (i j : Int) (t u : Tok) (s : Shared) (Q : Value -> Shared -> Prop) (E : Value -> Shared -> Prop), Q (.bool (g i j)) s -> wpAny (model X.prog X.w) X.A (f (.int i t) (.int j u)) Q E s) :
 OpR X f (rI0 fun i j => .bl (g i j)) := by
  intro pins s σ H x y v u Q I rx ry h; obtain ⟨i, j, rfl, rfl, q⟩ := h; obtain ⟨t, rfl⟩ := rx; obtain ⟨t', rfl⟩ := ry; exact rule i j t t' s _ _ ⟨.bl (g i j), H, I, rfl, q⟩
def CPow (i j : Int) : Prop := 0 <= j /\ j <= 1000000 /\ i.natAbs < 2 ^ 64
def CMul (i j : Int) : Prop := (-(2 ^ 64) < i /\ i < 2 ^ 64) \/ (-(2 ^ 64) < j /\ j < 2 ^ 64)
theorem CMul.ok {i j : Int} (h : CMul i j) : IntMulOk i j := by
  rcases h with ⟨h1, h2⟩ | ⟨h1, h2⟩
  · exact .of_left (intBits_le_64 h1 h2)
  · exact .of_right (intBits_le_64 h1 h2)
theorem op_add : OpR X (binaryOp .Add) (rI0 fun i j => .int (i + j)) := opI0 fun _ _ _ _ _ _ _ q => add_int q
theorem op_mul : OpR X (binaryOp .Mult) (rI CMul fun i j => .int (i * j)) := opI fun _ _ _ _ _ _ _ hc q => mul_int q hc.ok
theorem op_mod : OpR X (binaryOp .Mod) (rI (fun _ j => 0 < j) fun i j => .int (i % j)) := opI fun i j _ _ _ _ _ hc q => by
  have h1 : (0 : Int) < j := hc; exact mod_int' (by omega) (by rw [Int.fmod_eq_emod_of_nonneg i (by omega)]; exact q)
theorem op_pow : OpR X (binaryOp .Pow) (rI CPow fun i j => .int (i ^ j.toNat)) := opI fun _ _ _ _ _ _ _ hc q => pow_int_small hc.1 hc.2.1 hc.2.2 q
theorem unI {f : Value -> Sem Value} {g : Int -> Int}
 (rule : ∀ (i : Int) (t : Tok) (s : Shared) (Q : Value -> Shared -> Prop) (E : Value -> Shared -> Prop), Q (.int (g i) s.toks) { s with toks := s.toks + 1 } -> wpAny (model X.prog X.w) X.A (f (.int i t)) Q E s) :
 UnR X f (rU fun i => .int (g i)) := by
  intro pins s σ H x v Q I rx h; obtain ⟨i, rfl, q⟩ := h; obtain ⟨t, rfl⟩ := rx; exact rule i t s _ _ ⟨.int (g i), H, I.tok _, ⟨_, rfl⟩, q⟩
theorem un_neg : UnR X (unaryOp .USub) (rU fun i => .int (-i)) := unI fun _ _ _ _ _ q => neg_int q
end
def scal : V -> V -> Bool
  | .non, .non => true | .non, .int _ => true | .int _, .non => true | .non, .bl _ => true | .bl _, .non => true | .non, .str _ => true | .str _, .non => true
  | .int _, .int _ => true | .bl _, .bl _ => true | .str _, .str _ => true | .byt _, .byt _ => true
  | .int _, .str _ => true | .str _, .int _ => true | .bl _, .str _ => true | .str _, .bl _ => true
  | _, _ => false
def rEq : R2 := fun x y H Q => scal x y = true /\ Q (.bl (decide (x = y))) H
def rNe : R2 := fun x y H Q => scal x y = true /\ Q (.bl (!decide (x = y))) H
theorem dec_int {i j : Int} : decide (V.int i = V.int j) = (i == j) := by
  rw [Bool.eq_iff_iff]; simp
theorem dec_bl {i j : Bool} : decide (V.bl i = V.bl j) = (i == j) := by
  rw [Bool.eq_iff_iff]; simp
theorem dec_str {i j : Str} : decide (V.str i = V.str j) = (i == j) := by
  rw [Bool.eq_iff_iff]; simp
theorem dec_byt {i j : Array UInt8} : decide (V.byt i = V.byt j) = (i.toList == j.toList) := by
  rw [Bool.eq_iff_iff]; cases i; cases j; simp
section
variable {X : Cx} {a b c : Expr} {ta tb tc : TE} {pos : Pos}
theorem fin_bl {pins : List (Addr × Obj)} {σ : St} {H : Hp} {s : Shared} {Q : VK} {k k' : Bool} (I : Inv X pins σ H s) (q : Q (.bl k) H) (e : k = k') : EP X pins σ Q (.bool k') s := by
  subst e; exact ⟨.bl k, H, I, rfl, q⟩
theorem op_eq : OpR X (compareOp .Eq) rEq := by
  intro pins s σ H x y v u Q I rx ry h; obtain ⟨hs, q⟩ := h
  cases x with
  | non =>
    cases rx
    cases y with
    | non => cases ry; exact PySem.EqNone.eq_none_none (fin_bl I q (by simp))
    | bl j => cases ry; exact PySem.EqNone.eq_none_bool (fin_bl I q (by simp))
    | int j => obtain ⟨t', rfl⟩ := ry; exact PySem.EqNone.eq_none_int (fin_bl I q (by simp))
    | str j => obtain ⟨t', rfl⟩ := ry; exact PySem.EqNone.eq_none_str (fin_bl I q (by simp))
    | _ => exact absurd (show false = true from hs) Bool.false_ne_true
  | bl i =>
    cases rx
    cases y with
    | non => cases ry; exact PySem.EqNone.eq_bool_none (fin_bl I q (by simp))
    | bl j => cases ry; exact eq_bool (fin_bl I q dec_bl)
    | str j => obtain ⟨t', rfl⟩ := ry; exact PySem.EqMixed.eq_bool_str (fin_bl I q (by simp))
    | _ => exact absurd (show false = true from hs) Bool.false_ne_true
  | int i =>
    obtain ⟨t, rfl⟩ := rx
    cases y with
    | non => cases ry; exact PySem.EqNone.eq_int_none (fin_bl I q (by simp))
    | int j => obtain ⟨t', rfl⟩ := ry; exact eq_int (fin_bl I q dec_int)
    | str j => obtain ⟨t', rfl⟩ := ry; exact PySem.EqMixed.eq_int_str (fin_bl I q (by simp))
    | _ => exact absurd (show false = true from hs) Bool.false_ne_true
  | str i =>
    obtain ⟨t, rfl⟩ := rx
    cases y with
    | non => cases ry; exact PySem.EqNone.eq_str_none (fin_bl I q (by simp))
    | bl j => cases ry; exact PySem.EqMixed.eq_str_bool (fin_bl I q (by simp))
    | int j => obtain ⟨t', rfl⟩ := ry; exact PySem.EqMixed.eq_str_int (fin_bl I q (by simp))
    | str j => obtain ⟨t', rfl⟩ := ry; exact eq_str (fin_bl I q dec_str)
    | _ => exact absurd (show false = true from hs) Bool.false_ne_true
  | byt i =>
    obtain ⟨t, rfl⟩ := rx
    cases y with
    | byt j => obtain ⟨t', rfl⟩ := ry; exact PySem.W.eq_bytes (fin_bl I q dec_byt)
    | _ => exact absurd (show false = true from hs) Bool.false_ne_true
  | _ => cases y <;> exact absurd (show false = true from hs) Bool.false_ne_true
theorem op_ne : OpR X (compareOp .NotEq) rNe := by
  intro pins s σ H x y v u Q I rx ry h; obtain ⟨hs, q⟩ := h
  cases x with
  | non =>
    cases rx
    cases y with
    | non => cases ry; exact PySem.EqNone.ne_none_none (fin_bl I q (by simp))
    | bl j => cases ry; exact PySem.EqNone.ne_none_bool (fin_bl I q (by simp))
    | int j => obtain ⟨t', rfl⟩ := ry; exact PySem.EqNone.ne_none_int (fin_bl I q (by simp))
    | str j => obtain ⟨t', rfl⟩ := ry; exact PySem.EqNone.ne_none_str (fin_bl I q (by simp))
    | _ => exact absurd (show false = true from hs) Bool.false_ne_true
  | bl i =>
    cases rx
    cases y with
    | non => cases ry; exact PySem.EqNone.ne_bool_none (fin_bl I q (by simp))
    | bl j => cases ry; exact ne_bool (fin_bl I q (congrArg not dec_bl))
    | str j => obtain ⟨t', rfl⟩ := ry; exact PySem.EqMixed.ne_bool_str (fin_bl I q (by simp))
    | _ => exact absurd (show false = true from hs) Bool.false_ne_true
  | int i =>
    obtain ⟨t, rfl⟩ := rx
    cases y with
    | non => cases ry; exact PySem.EqNone.ne_int_none (fin_bl I q (by simp))
    | int j => obtain ⟨t', rfl⟩ := ry; exact ne_int (fin_bl I q (congrArg not dec_int))
    | str j => obtain ⟨t', rfl⟩ := ry; exact PySem.EqMixed.ne_int_str (fin_bl I q (by simp))
    | _ => exact absurd (show false = true from hs) Bool.false_ne_true
  | str i =>
    obtain ⟨t, rfl⟩ := rx
    cases y with
    | non => cases ry; exact PySem.EqNone.ne_str_none (fin_bl I q (by simp))
    | bl j => cases ry; exact PySem.EqMixed.ne_str_bool (fin_bl I q (by simp))
    | int j => obtain ⟨t', rfl⟩ := ry; exact PySem.EqMixed.ne_str_int (fin_bl I q (by simp))
    | str j => obtain ⟨t', rfl⟩ := ry; exact ne_str (fin_bl I q (congrArg not dec_str))
    | _ => exact absurd (show false = true from hs) Bool.false_ne_true
  | byt i =>
    obtain ⟨t, rfl⟩ := rx
    cases y with
    | byt j => obtain ⟨t', rfl⟩ := ry; exact PySem.W.ne_bytes (fin_bl I q (congrArg not dec_byt))
    | _ => exact absurd (show false = true from hs) Bool.false_ne_true
  | _ => cases y <;> exact absurd (show false = true from hs) Bool.false_ne_true
theorem op_lt : OpR X (compareOp .Lt) (rI0 fun i j => .bl (decide (i < j))) := opB0 fun _ _ _ _ _ _ _ q => lt_int q
theorem op_gt : OpR X (compareOp .Gt) (rI0 fun i j => .bl (decide (j < i))) := opB0 fun _ _ _ _ _ _ _ q => gt_int q
theorem op_ge : OpR X (compareOp .GtE) (rI0 fun i j => .bl (decide (j <= i))) := opB0 fun _ _ _ _ _ _ _ q => ge_int q
theorem op_isN : OpR X (compareOp .Is) (fun x y H Q => y = .non /\ Q (.bl (decide (x = .non))) H) := by
  intro pins s σ H x y v u Q I rx ry h; obtain ⟨rfl, q⟩ := h; cases ry; refine is_none_gen (fin_bl I q ?_)
  cases x <;> first
    | (cases rx; rfl)
    | (obtain ⟨t, rfl⟩ := rx; rfl)
theorem op_notin_str : OpR X (compareOp .NotIn) (fun x y H Q => ∃ i j, x = .str i /\ y = .str j /\ Q (.bl (!(!(Builtin.Str.occurrences j i 0 j.length 1).isEmpty))) H) := by
  intro pins s σ H x y v u Q I rx ry h; obtain ⟨i, j, rfl, rfl, q⟩ := h; obtain ⟨t, rfl⟩ := rx; obtain ⟨t', rfl⟩ := ry; exact notIn_str (fin_bl I q rfl)
theorem nomark (b : Expr) {op : CmpOp} (h : op ≠ .In := by decide) (h2 : op ≠ .NotIn := by decide) : behindInMarks op b = false := by
  have e1 : (op == CmpOp.In) = false := by cases op <;> first | rfl | exact absurd rfl h
  have e2 : (op == CmpOp.NotIn) = false := by cases op <;> first | rfl | exact absurd rfl h2
  cases b <;> simp [behindInMarks, e1, e2]
theorem pe_cmpR {op : CmpOp} {r : R2} (ho : OpR X (compareOp op) r) (ha : PE X a ta) (hb : PE X b tb) (hm : behindInMarks op b = false) : PE X (.Compare a [op] [b] pos) (tOp r ta tb) := by
  intro pins s σ H Q I h; exact wpAny_Compare1 (binT ha hb I h fun v u s2 x y H2 I2 rx ry q => ho pins s2 σ H2 x y v u Q I2 rx ry q) hm
def tTest (t : TE) : TT := fun σ H Q => t σ H fun x H' => ∃ k, x = .bl k /\ Q k H'
theorem pt_cmpR {op : CmpOp} {r : R2} (ho : OpR X (compareOp op) r) (ha : PE X a ta) (hb : PE X b tb) (hm : behindInMarks op b = false) : PT X (.Compare a [op] [b] pos) (tTest (tOp r ta tb)) := by
  intro pins s σ H Q I h
  refine wpAny_isTrue_Compare1 (thn (ha pins s σ H _ I h) fun v s1 ⟨x, H1, I1, r1, q1⟩ => thn (hb pins s1 σ H1 _ I1 q1) fun u s2 ⟨y, H2, I2, r2, q2⟩ =>
    thn (ho pins s2 σ H2 x y v u _ I2 r1 r2 q2) fun c s3 ⟨z, H3, I3, r3, k, e, q3⟩ => ?_) hm
  subst e; cases r3; exact wpAny_truthy_bool ⟨H3, I3, q3⟩
theorem line63 : (sizeLine : Nat) < 2 ^ 63 := by rw [sizeLine_eq]; decide
theorem op_add_str : OpR X (binaryOp .Add) (fun x y H Q => ∃ i j, x = .str i /\ y = .str j /\ i.length + j.length <= sizeLine /\ Q (.str (i ++ j)) H) := by
  intro pins s σ H x y v u Q I rx ry h; obtain ⟨i, j, rfl, rfl, hz, q⟩ := h; obtain ⟨t, rfl⟩ := rx; obtain ⟨t', rfl⟩ := ry; exact add_str (fun t' tk => ⟨.str (i ++ j), H, I.tok _, ⟨_, rfl⟩, q⟩) hz
theorem vals1 {x : V} {us : List Value} (r : Vals [x] us) : ∃ u, us = [u] /\ RelV x u := by
  cases r with
  | cons r1 r2 => cases r2; exact ⟨_, rfl, r1⟩
theorem vals2 {x y : V} {us : List Value} (r : Vals [x, y] us) : ∃ u w', us = [u, w'] /\ RelV x u /\ RelV y w' := by
  cases r with
  | cons r1 r2 =>
    cases r2 with
    | cons r3 r4 => cases r4; exact ⟨_, _, rfl, r1, r3⟩
theorem call_str_int : CallR X (.type "str") (fun xs H Q => ∃ i, xs = [.int i] /\ i.natAbs.log2 < 1920 /\ Q (.str (toString i)) H) := by
  intro pins s σ H xs us Q I r h; obtain ⟨i, rfl, hz, q⟩ := h; obtain ⟨u, rfl, t, rfl⟩ := vals1 r; exact PySem.P.str_of_int hz ⟨.str _, H, I.tok _, ⟨_, rfl⟩, q⟩
end
structure ObjM (h : Heap) (x dx C : Addr) (mA : Str -> Option Value) : Prop where
  obj : h.get? x = some (PySem.W.instObj C dx)
  ns : h.Ns1 dx mA
  ne : dx ≠ x
section
variable {prog : Program} {w : World} {A : Around} {E : Value -> Shared -> Prop} {s : Shared} {K : PySem.W.Frag} {x dx C f : Addr} {mA : Str -> Option Value} {name : Str} {v : Value}
end
section
variable {P : Program} {w : World} {H H' : Hp} {h h' : Heap} {a C dx : Addr} {fs fs' : List (Str × V)}
end
structure Cls (K : PySem.W.Frag) (C : Addr) : Prop where
  pg : PySem.W.plainGet K C Str.empty = true
  hd : PySem.W.hasDictIn K C = true
  po : PySem.W.plainOver K C = true
  sa : PySem.W.findIn K (.ref C) "__setattr__" = some (some (.builtin "object.__setattr__"))
structure Con (K : PySem.W.Frag) (C : Addr) (f : Str) (v : V) (u : Value) : Prop where
  at_ : PySem.W.findIn K (.ref C) f = some (some u)
  rel : RelV v u
  get : PySem.W.specialIn K u "__get__" = some none
  cp : PySem.W.copiedNames.contains f = false
structure Meth (K : PySem.W.Frag) (C : Addr) (m : Str) (f : Addr) : Prop where
  at_ : PySem.W.findIn K (.ref C) m = some (some (.ref f))
  fn : PySem.W.isFn K (.ref f) = true
  kp : PySem.W.keepIn K (.ref f) = true
section
variable {X : Cx} {pins : List (Addr × Obj)} {σ : St} {H : Hp} {s : Shared} {a C dx : Addr} {fs : List (Str × V)} {f : Str} {v : V} {A : Around} {E : Value -> Shared -> Prop}
end
section
variable {X : Cx} {o e value : Expr} {f : Str} {pos pos' tpos : Pos} {ta tv : TE}
end
section
variable {X : Cx} {pins : List (Addr × Obj)} {σ : St} {H : Hp} {s : Shared} {A : Around} {E : Value -> Shared -> Prop} {Q : Value -> Shared -> Prop} {c : Value} {b : Bool}
inductive TyOf (K : PySem.W.Frag) (H : Hp) : V -> Value -> Prop where
  | non : TyOf K H .non (.type "NoneType")
  | bl (x : Bool) : TyOf K H (.bl x) (.type "bool")
  | int (i : Int) : TyOf K H (.int i) (.type "int")
  | str (x : Str) : TyOf K H (.str x) (.type "str")
  | flt (x : UInt64) : TyOf K H (.flt x) (.type "float")
  | lst {a : Addr} {xs : List V} (e : H a = some (.lst xs)) : TyOf K H (.ref a) (.type "list")
  | frz {a : Addr} {o : Obj} {xs : List V} (e : H a = some (.frz o (.lst xs))) : TyOf K H (.ref a) (.type "list")
  | tup {a : Addr} {xs : List V} (e : H a = some (.tup xs)) : TyOf K H (.ref a) (.type "tuple")
  | dK {a : Addr} {kvs : List (Key × V)} (e : H a = some (.dK kvs)) : TyOf K H (.ref a) (.type "dict")
  | dT {a : Addr} {kvs : List (List Key × V)} (e : H a = some (.dT kvs)) : TyOf K H (.ref a) (.type "dict")
  | ins {a C dx : Addr} {fs : List (Str × V)} (e : H a = some (.ins C dx fs)) (cl : Cls K C) (ha : PySem.W.findIn K (.ref C) "__class__" = some (some (.builtin "object.__class__")))
      (hn : PySem.W.specialIn K (.builtin "object.__class__") "__get__" = some (some (.builtin "getset_descriptor.__get__"))) (htk : PySem.W.takesIn K (.builtin "object.__class__") = some true)
      (hm : PySem.W.mroIn K C (.type "object") = some true) : TyOf K H (.ref a) (.ref C)
end
structure Room (k : Nat) (A : Around) : Prop where
  hd : A.handled = none
  dp : A.depth + 3 * k + 5 < recursionLimit
  un : A.units + 16 * k + 200 < cLine
theorem Room.mono {j k : Nat} {A : Around} (r : Room k A) (h : j <= k) : Room j A := ⟨r.hd, by have := r.dp; omega, by have := r.un; omega⟩
theorem Room.deeper {k : Nat} {A : Around} (r : Room (k + 1) A) (env : Env) : Room k (A.deeper env) :=
  ⟨r.hd, by have := r.dp; show A.depth + 1 + 3 * k + 5 < _; omega, by have := r.un; show A.units + 3 + 16 * k + 200 < _; omega⟩
theorem Room.depth {k : Nat} {A : Around} (r : Room k A) : A.depth < recursionLimit := by have := r.dp; omega
theorem Room.units {k : Nat} {A : Around} (r : Room k A) : A.units + 64 < cLine := by have := r.un; omega
def tNil : TA := fun _ H Q => Q [] H
def tCons (ta : TE) (tr : TA) : TA := fun σ H Q => ta σ H fun x H1 => tr σ H1 fun xs H2 => Q (x :: xs) H2
section
variable {X : Cx} {e : Expr} {es : List Expr} {te : TE} {t : TA} {pos : Pos}
theorem pa_nil : PA X [] tNil := fun _ _ _ _ H Q I h => Calls.spliced_nil ⟨[], H, I, .nil, h⟩
theorem pa_cons (ha : PE X e te) (hr : PA X es t) (hs : starEach (e :: es) X.env = (false, eval e X.env) :: starEach es X.env := by rfl) : PA X (e :: es) (tCons te t) := by
  intro pos pins s σ H Q I h; rw [hs]
  show wpAny _ _ (spliced ((false, eval e X.env) :: backTo pos (starEach es X.env))) _ _ s
  refine Calls.spliced_cons (thn (ha pins s σ H _ I h) fun u s1 ⟨x, H1, I1, r1, q1⟩ => ?_); exact thn (hr pos pins s1 σ H1 _ I1 q1) fun us s2 ⟨xs, H2, I2, r2, q2⟩ => ⟨x :: xs, H2, I2, .cons r1 r2, q2⟩
def tTup (t : TA) : TE := fun σ H Q => t σ H fun xs H1 => xs.length <= sizeLine /\ ∀ p, H1 p = none -> Q (.ref p) (upd H1 p (.tup xs))
def tLst (t : TA) : TE := fun σ H Q => t σ H fun xs H1 => xs.length <= sizeLine /\ ∀ p, H1 p = none -> Q (.ref p) (upd H1 p (.lst xs))
theorem pe_tup {x1} (h : PA X es t) : PE X (.Tuple es x1 pos) (tTup t) := by
  intro pins s σ H Q I hq; refine wpAny_Tuple_spliced (thn (h pos pins s σ H _ I hq) fun us s1 ⟨xs, H1, I1, r, z, q⟩ => ⟨by rw [<- r.length]; exact z, ?_⟩); have hf : H1 s1.heap.objs.size = none := I1.hok.fresh (Nat.le_refl _); refine ⟨.ref s1.heap.objs.size, upd H1 s1.heap.objs.size (.tup xs), I1.laid (t' := s1.toks) (fun b u e => Heap.get?_push_of_some _ e) (Nat.le_refl _) ?_, rfl, q _ hf⟩; exact ⟨z, us, r, ⟨_, Heap.get?_push_size _ rfl, rfl, _, rfl⟩⟩
theorem pe_lst (h : PA X es t) : PE X (.List es pos) (tLst t) := by
  intro pins s σ H Q I hq; refine wpAny_List_spliced (thn (h pos pins s σ H _ I hq) fun us s1 ⟨xs, H1, I1, r, z, q⟩ => ⟨by rw [<- r.length]; exact z, ?_⟩); have hf : H1 s1.heap.objs.size = none := I1.hok.fresh (Nat.le_refl _); refine ⟨.ref s1.heap.objs.size, upd H1 s1.heap.objs.size (.lst xs), I1.laid (t' := s1.toks) (fun b u e => Heap.get?_push_of_some _ e) (Nat.le_refl _) ?_, rfl, q _ hf⟩; exact ⟨z, us, 0, r, Heap.get?_push_size _ rfl⟩
end
abbrev Sp := List V -> Hp -> VK -> XK -> Prop
abbrev CXT := List Env -> Hp -> Shared -> XK -> Value -> Shared -> Prop
structure Env0 (P : Program) (w : World) (K : PySem.W.Frag) (mg : Str -> Option Value) (base : Heap) (A : Around) (outer : List Env) (s : Shared) (H : Hp) : Prop where
  frames : A.frames = some outer
  mod : Mod K mg base
  bs : ∀ b o, base.get? b = some o -> s.heap.get? b = some o /\ H b = none
  bsz : base.objs.size <= s.heap.objs.size
  funs : s.heap.FunFrames base outer
  frf : ∀ b ∈ frs outer, H b = none
  hok : HOk P w H s.heap
  bare : AllBare s.gens
def CE (outer : List Env) (P : Program) (w : World) (H : Hp) (s : Shared) (Q : VK) (u : Value) (s' : Shared) : Prop :=
  ∃ v H', s'.os = s.os /\ AllBare s'.gens /\ Un (frs outer) [] H H' s.heap s'.heap /\ HOk P w H' s'.heap /\ RelV v u /\ Q v H'
def CR (CX : CXT) (outer : List Env) (P : Program) (w : World) (H : Hp) (s : Shared) (Q : VK) (E : XK) (r : Result) (s' : Shared) : Prop :=
  match r with
  | .ok (.ret u) => CE outer P w H s Q u s'
  | .ok _ => False
  | .error e => CX outer H s E e s'
structure FnOk (P : Program) (w : World) (K : PySem.W.Frag) (mg : Str -> Option Value) (base : Heap) (CX : CXT) (k : Nat) (f : Addr) (fd : FuncData) (ps : List Str) (sp : Sp) : Prop where
  len : ∀ vs H Q E, sp vs H Q E -> vs.length = ps.length
  run : ∀ (A : Around) (outer : List Env) (s : Shared) (H : Hp) (args : Args) (us : List Value) (vs : List V) (Q : VK) (E : XK), Room k A -> Env0 P w K mg base A outer s H -> BindsTo s fd args (ps.zip us) -> Vals vs us -> sp vs H Q E ->
    codeAny (model P w) A (.call (.ref f) args) (CR CX outer P w H s Q E) s
theorem FnOk.mono {P : Program} {w : World} {K : PySem.W.Frag} {mg : Str -> Option Value} {base : Heap} {CX : CXT} {j k : Nat} {f : Addr} {fd : FuncData} {ps : List Str} {sp : Sp} (F : FnOk P w K mg base CX j f fd ps sp) (h : j <= k) :
 FnOk P w K mg base CX k f fd ps sp := ⟨F.len, fun A outer s H args us vs Q E hr => F.run A outer s H args us vs Q E (hr.mono h)⟩
section
variable {X : Cx} {pins : List (Addr × Obj)} {σ : St} {H : Hp} {s s' : Shared}
theorem Inv.env0 (I : Inv X pins σ H s) : Env0 X.prog X.w X.K X.mg X.base X.A X.stack s H :=
  ⟨I.ok.frames, I.ok.mod, I.bs, Nat.le_trans I.ok.bsz I.sz, I.stack, I.stkFree, I.hok, I.bare⟩
end
def Binds (K : PySem.W.Frag) (fd : FuncData) (ps : List Str) (ds : List Value) : Prop :=
  ∀ (s : Shared) (us : List Value), K.In s.heap -> (us ++ ds).length = ps.length -> BindsTo s fd ⟨us, []⟩ (ps.zip (us ++ ds))
theorem Binds.all {K : PySem.W.Frag} {fd : FuncData} {ps : List Str} (h : ∀ us : List Value, us.length = ps.length -> bindArgs fd ⟨us, []⟩ = pure (ps.zip us)) : Binds K fd ps [] := fun s us _ hl => by
  rw [List.append_nil] at hl ⊢; exact .of_eq (h us hl)
section
variable {X : Cx} {CX : CXT} {k : Nat} {f C : Addr} {fd : FuncData} {ps : List Str} {sp : Sp} {dvs : List V} {ds : List Value} {E : XK} {x m : Str} {p pos apos : Pos} {e o : Expr} {es : List Expr} {ta : TE} {t : TA}
structure Mk (K : PySem.W.Frag) (C f : Addr) : Prop where
  makes : PySem.W.makesIn K C = true
  init : PySem.W.findIn K (.ref C) "__init__" = some (some (.ref f))
  fn : PySem.W.isFn K (.ref f) = true
  kp : PySem.W.keepIn K (.ref C) = true
end
section
variable {X : Cx} {CX : CXT} {k : Nat} {f C : Addr} {fd : FuncData} {ps ks : List Str} {sp : Sp} {E : XK} {x m : Str} {p pos apos kpos : Pos} {e o : Expr} {es : List Expr} {kws : List Keyword} {te ta : TE} {t tk : TA} {nm : Option Str}
structure KBinds (K : PySem.W.Frag) (fd : FuncData) (ps ks : List Str) (g : List Value -> List Value -> List Value) (gV : List V -> List V -> List V) : Prop where
  to : ∀ (s : Shared) (us ws : List Value), K.In s.heap -> (g us ws).length = ps.length -> BindsTo s fd ⟨us, ks.zip ws⟩ (ps.zip (g us ws))
  rel : ∀ {vs : List V} {us : List Value} {zs : List V} {ws : List Value}, Vals vs us -> Vals zs ws -> Vals (gV vs zs) (g us ws)
variable {g : List Value -> List Value -> List Value} {gV : List V -> List V -> List V}
end
structure FnScope (N P : List Str) (sc : Scope) : Prop where
  kind : sc.kind = .function
  co : sc.isCoroutine = false
  gen : sc.isGenerator = false
  nd : N.Nodup
  pre : N.take P.length = P
  par : ∀ x ∈ P, sc.names.lookup x = some .local \/ sc.names.lookup x = some .cell
  nofree : ∀ y ∈ sc.names, y.2 ≠ .free
theorem bindL_out {kindOf : Str -> Option NameKind} {x : Str} : ∀ {binds : List (Str × Value)} {m : Str -> Option Value}, (∀ v, (x, v) ∉ binds) -> bindL kindOf binds m x = m x
  | [], _, _ => rfl
  | (n, v) :: r, m, h => by
    unfold bindL; rw [bindL_out fun w hw => h w (List.mem_cons_of_mem _ hw)]
    split
    · have : x ≠ n := by rintro rfl; exact h v List.mem_cons_self
      simp [this]
    · rfl
theorem bindC_out {kindOf : Str -> Option NameKind} {x : Str} : ∀ {binds : List (Str × Value)} {m : Str -> Option Value}, (∀ v, (x, v) ∉ binds) -> bindC kindOf binds m x = m x
  | [], _, _ => rfl
  | (n, v) :: r, m, h => by
    unfold bindC; rw [bindC_out fun w hw => h w (List.mem_cons_of_mem _ hw)]
    split
    · rfl
    · have : x ≠ n := by rintro rfl; exact h v List.mem_cons_self
      simp [this]
theorem bindL_get {kindOf : Str -> Option NameKind} {x : Str} {v : Value} : ∀ {P : List Str} {vs : List Value} {i : Nat} {m : Str -> Option Value}, P.Nodup -> P[i]? = some x -> vs[i]? = some v -> kindOf x = some .local ->
 bindL kindOf (P.zip vs) m x = some v
  | [], _, _, _, _, h, _, _ => by simp at h
  | _ :: _, [], _, _, _, _, h, _ => by simp at h
  | p :: P, w :: vs, 0, m, nd, h1, h2, hk => by
    simp at h1 h2; subst h1; subst h2
    show bindL kindOf ((p, w) :: P.zip vs) m p = _
    unfold bindL; rw [bindL_out fun v hv => (List.nodup_cons.mp nd).1 (List.of_mem_zip hv).1, if_pos hk]; simp
  | p :: P, w :: vs, i + 1, m, nd, h1, h2, hk => by
    show bindL kindOf ((p, w) :: P.zip vs) m x = _
    unfold bindL; exact bindL_get (i := i) (List.nodup_cons.mp nd).2 (by simpa using h1) (by simpa using h2) hk
theorem bindC_get {kindOf : Str -> Option NameKind} {x : Str} {v : Value} : ∀ {P : List Str} {vs : List Value} {i : Nat} {m : Str -> Option Value}, P.Nodup -> P[i]? = some x -> vs[i]? = some v -> kindOf x ≠ some .local ->
 bindC kindOf (P.zip vs) m x = some v
  | [], _, _, _, _, h, _, _ => by simp at h
  | _ :: _, [], _, _, _, _, h, _ => by simp at h
  | p :: P, w :: vs, 0, m, nd, h1, h2, hk => by
    simp at h1 h2; subst h1; subst h2
    show bindC kindOf ((p, w) :: P.zip vs) m p = _
    unfold bindC; rw [bindC_out fun v hv => (List.nodup_cons.mp nd).1 (List.of_mem_zip hv).1, if_neg hk]; simp
  | p :: P, w :: vs, i + 1, m, nd, h1, h2, hk => by
    show bindC kindOf ((p, w) :: P.zip vs) m x = _
    unfold bindC; exact bindC_get (i := i) (List.nodup_cons.mp nd).2 (by simpa using h1) (by simpa using h2) hk
def start (N : List Str) (vs : List V) : St := vs.map some ++ List.replicate (N.length - vs.length) none
def cxOf (CX : CXT) (P : Program) (w : World) (K : PySem.W.Frag) (mg : Str -> Option Value) (base : Heap) (N : List Str) (qual : Str) (scope : Scope) (f : Addr) (cd : Value) (A : Around) (outer : List Env) (s : Shared) (H : Hp) (E : XK) : Cx where
  prog := P
  w := w
  K := K
  mg := mg
  base := base
  A := A.deeper (envOfC qual scope s.heap.objs.size f cd)
  N := N
  s₀ := s
  H₀ := H
  env := envOfC qual scope s.heap.objs.size f cd
  outer := outer
  stack := envOfC qual scope s.heap.objs.size f cd :: outer
  ex := []
  calm := true
  fn := fun _ => true
  pn := []
  xe := fun e s' => wpAny (model P w) (A.deeper (envOfC qual scope s.heap.objs.size f cd)) (leaving (envOfC qual scope s.heap.objs.size f cd) e) (fun _ s'' => CX outer H s E e s'') (fun e' s'' => CX outer H s E e' s'') s'
theorem cell_has {sc : Scope} {n : Nat} {x : Str} (h : sc.names.lookup x = some .cell) : ∃ c, (cellsFrom n sc.names []).lookup x = some c := by
  have q := PySem.W.cellsFrom_some sc.names n [] (.inl h); exact Option.isSome_iff_exists.mp q
theorem inv_start {CX : CXT} {P : Program} {w : World} {K : PySem.W.Frag} {mg : Str -> Option Value} {base : Heap} {N ps : List Str} {qual : Str} {scope : Scope} {f : Addr} {cd : Value} {A : Around} {outer : List Env} {s s1 : Shared} {H : Hp} {E : XK} {us : List Value} {vs : List V}
 (S : FnScope N ps scope) (hd : A.handled = none) (e0 : Env0 P w K mg base A outer s H) (hl : vs.length = ps.length) (r : Vals vs us)
 (x : InCallC s s.heap.objs.size (bindL (envOfC qual scope s.heap.objs.size f cd).kindOf (ps.zip us) fun _ => none) (cellsFrom (s.heap.objs.size + 1) scope.names []) (bindC (envOfC qual scope s.heap.objs.size f cd).kindOf (ps.zip us) fun _ => none) s1) :
 Inv (cxOf CX P w K mg base N qual scope f cd A outer s H E) [] (start N vs) H s1 := by
  have hpl : ps.length <= N.length := by have := congrArg List.length S.pre; rw [List.length_take] at this; omega
  obtain ⟨h1, tk, rfl, hk⟩ := x.done; have noA : ∀ b : Addr, b ∉ (cxOf CX P w K mg base N qual scope f cd A outer s H E).ex := fun b z => absurd (show b ∈ ([] : List Addr) from z) (by simp)
  refine ⟨⟨e0.mod, S.kind, rfl, rfl, Nat.le_refl _, fun y z c h1 h2 => ?_, fun y hy => ?_, fun y c _ h => ?_, fun _ => hd, Around.frames_deeper e0.frames, .inr ⟨rfl, rfl⟩, fun b z => absurd z (noA b), e0.bs, e0.bsz, fun b _ _ => noA b, fun b z => absurd z (noA b), e0.funs, e0.frf⟩,
    rfl, e0.bare, Un.kept hk, ⟨_, x.toInCall.ns, fun i y v h1 h2 h3 => ?_⟩, fun y c h => ⟨_, x.cell y c h⟩, e0.hok.fresh (Nat.le_refl _), fun y c h => ?_, fun p hp => absurd (show p ∈ ([] : List (Addr × Obj)) from hp) (by simp), e0.hok.kept hk, ?_⟩
  · exact name_of_addr x.apart (PySem.mem_of_lookup h1) (PySem.mem_of_lookup h2)
  · have hy : scope.names.lookup y = some .cell \/ scope.names.lookup y = some .free := hy
    rcases hy with hy | hy
    · exact cell_has hy
    · exact absurd rfl (S.nofree _ (PySem.mem_of_lookup hy))
  · exact Nat.le_of_lt (x.above y c (PySem.mem_of_lookup h))
  · have hi : i < vs.length := by
      unfold start at h2
      by_cases hi : i < vs.length
      · exact hi
      · rw [List.getElem?_append_right (by simpa using hi)] at h2
        rw [List.getElem?_replicate] at h2
        split at h2 <;> cases h2
    have ha : vs[i]? = some v := by
      unfold start at h2; rw [List.getElem?_append_left (by simpa using hi), List.getElem?_map] at h2
      cases e : vs[i]? with
      | none => rw [e] at h2; cases h2
      | some a => rw [e] at h2; cases h2; rfl
    obtain ⟨u, hu, rv⟩ := r.get ha; have hp : ps[i]? = some y := by
      rw [<- S.pre, List.getElem?_take_of_lt (by omega)]; exact h1
    have ndP : ps.Nodup := by rw [<- S.pre]; exact S.nd.sublist (List.take_sublist _ _)
    refine ⟨u, rv, ?_⟩
    rcases S.par y (List.mem_of_getElem? hp) with k | k
    · exact .inl ⟨k, bindL_get ndP hp hu k⟩
    · obtain ⟨c, e⟩ := cell_has (n := s.heap.objs.size + 1) k
      refine .inr ⟨.inl k, c, e, ?_⟩; have q := x.cell y c e; rw [bindC_get ndP hp hu (by show scope.names.lookup y ≠ _; rw [k]; decide)] at q; exact q
  · exact e0.hok.fresh (Nat.le_of_lt (x.above y c (PySem.mem_of_lookup h)))
  · unfold start
    show _ = N.length
    rw [List.length_append, List.length_map, List.length_replicate]; omega
theorem fn_of {CX : CXT} {P : Program} {w : World} {K : PySem.W.Frag} {mg : Str -> Option Value} {base : Heap} {k : Nat} {f : Addr} {name qual : Str} {params : Arguments} {body : List Stmt} {scope : Scope} {dV kV doc pm cdv ct oc : Value} {an od : Option Addr}
 {osl : Array (Option Value)} {N ps : List Str} {sp : Sp} (lk : K.lookup f = some ⟨oc, od, .func (PySem.W.fnOf name qual params body scope dV kV doc pm an cdv ct), osl⟩) (hcd : PySem.W.codeIn K cdv qual = true) (S : FnScope N ps scope)
 (len : ∀ vs H Q E, sp vs H Q E -> vs.length = ps.length)
 (hbody : ∀ (A : Around) (outer : List Env) (s : Shared) (H : Hp) (vs : List V) (Q : VK) (E : XK), Room k (A.deeper (envOfC qual scope s.heap.objs.size f cdv)) -> sp vs H Q E ->
 ∃ t, PSs (cxOf CX P w K mg base N qual scope f cdv A outer s H E) body t /\ t { nx := fun _ H' => Q .non H', rt := Q } (start N vs) H) :
 FnOk P w K mg base CX (k + 1) f (PySem.W.fnOf name qual params body scope dV kV doc pm an cdv ct) ps sp := by
  refine ⟨len, fun A outer s H args us vs Q E hr e0 hb r hsp => ?_⟩; have hl := len _ _ _ _ hsp; have KX : K.In s.heap := e0.mod.kin.keeps fun b o e => (e0.bs b o e).1
  have lim : s.heap.NoLimit := e0.mod.nolimit.keeps fun b o e => (e0.bs b o e).1
  have hkind : ∀ y ∈ ps.zip us, scope.names.lookup y.1 = some .local \/ (scope.names.lookup y.1 = some .cell /\ ((cellsFrom (s.heap.objs.size + 1) scope.names []).lookup y.1).isSome = true) := fun ⟨n, v⟩ hy => by
    rcases S.par n (List.of_mem_zip hy).1 with q | q
    · exact .inl q
    · exact .inr ⟨q, PySem.W.cellsFrom_some _ _ _ (.inl q)⟩
  refine codeAny_call_function hr.depth (KX _ _ lk) rfl S.co S.gen rfl (PySem.W.codeRec_of KX hcd) (hb _ _ _ _ ?_); refine wpAny_newFunctionEnv_cells S.kind hkind fun env he s1 x => ?_
  subst he; refine ⟨lim.keeps x.toInCall.keep, codeAny_func ?_⟩; obtain ⟨t, ht, hq⟩ := hbody A outer s H vs Q E (hr.deeper _) hsp; have I : Inv (cxOf CX P w K mg base N qual scope f cdv A outer s H E) [] (start N vs) H s1 := inv_start S hr.hd e0 hl r x; refine wpAny_mono (ht [] s1 (start N vs) H _ I hq) (fun fl s' hs => ?_) fun e s' hs => hs
  have fin : ∀ {σ' : St} {H' : Hp} {v : V} {u : Value}, Inv (cxOf CX P w K mg base N qual scope f cdv A outer s H E) [] σ' H' s' -> RelV v u -> Q v H' -> CE outer P w H s Q u s' :=
    fun {σ' H' v u} J rv q => ⟨v, H', J.os, J.bare, J.base, J.hok, rv, q⟩
  cases fl with
  | ret u =>
    obtain ⟨v, σ', H', J, rv, q⟩ := hs; exact fin J rv q
  | next =>
    obtain ⟨σ', H', J, q⟩ := hs; exact fin (v := V.non) (u := Value.none) J rfl q
  | brk =>
    obtain ⟨_, _, _, q⟩ := hs; exact False.elim q
  | cont =>
    obtain ⟨_, _, _, q⟩ := hs; exact False.elim q
section
variable {X : Cx} {x : Str} {p pos : Pos} {e : Expr} {es : List Expr} {t : TA} {id T : String} {r : List V -> Hp -> VK -> Prop}
def tCB (r : List V -> Hp -> VK -> Prop) (t : TA) : TE := fun σ H Q => t σ H fun vs H1 => r vs H1 Q
theorem pe_callB (hc : CallR X (.builtin id) r) (hg : Gl X x) (hm : X.mg x = none) (hv : bootBuiltins x = some (.builtin id)) (ha : PA X (e :: es) t) (hn : x ≠ "__name__" := by decide) (hdb : (x == ("__debug__" : Str)) = false := by decide)
 (he : starEach (e :: es) X.env = (false, eval e X.env) :: starEach es X.env := by rfl) (hpl : (backTo pos (starEach es X.env)).any (·.1) = false := by rfl) : PE X (.Call (.Name x p) (e :: es) [] pos) (tCB r t) := by
  intro pins s σ H Q I h; refine wpAny_Call_Name_kw (ld_blt I hg hm hv ?_ hn hdb); exact PyProof.Rows.callWith_builtin1 (thn (ha pos pins s σ H _ I h) fun us s1 ⟨vs, H1, I1, r1, q1⟩ => hc pins s1 σ H1 vs us Q I1 r1 q1) he hpl
theorem pe_callTy (hc : CallR X (.type T) r) (hg : Gl X x) (hm : X.mg x = none) (hv : bootBuiltins x = some (.type T)) (ha : PA X (e :: es) t) (hn : x ≠ "__name__" := by decide) (hdb : (x == ("__debug__" : Str)) = false := by decide)
 (he : starEach (e :: es) X.env = (false, eval e X.env) :: starEach es X.env := by rfl) (hpl : (backTo pos (starEach es X.env)).any (·.1) = false := by rfl) : PE X (.Call (.Name x p) (e :: es) [] pos) (tCB r t) := by
  intro pins s σ H Q I h; refine wpAny_Call_Name_kw (ld_blt I hg hm hv ?_ hn hdb); exact PyProof.Rows.callWith_type1 (thn (ha pos pins s σ H _ I h) fun us s1 ⟨vs, H1, I1, r1, q1⟩ => hc pins s1 σ H1 vs us Q I1 r1 q1) he hpl
end
end L2
namespace HT
open PySem PyProof.Rows
section
open PySem.SeqAt
open PySem.AutoSeq1 (wpAny_loadPart')
open PySem.MeetsSeq PySem.MeetsSeq2 PySem.MeetsSeq3
end
section
variable {prog : Program} {w : World} {A : Around} {E : Value -> Shared -> Prop} {s : Shared}
theorem cat_tup {t b : Addr} {vs ws : List Value} {Q : Value -> Shared -> Prop} (ht : IsTup s.heap t vs.toArray) (hb : IsTup s.heap b ws.toArray) (hv : vs ≠ [])
 (h1 : ws = [] -> Q (.ref t) s) (h2 : ws ≠ [] -> Q (.ref s.heap.objs.size) { s with heap := s.heap.push { cls := .type "tuple", data := .seq (vs ++ ws).toArray } })
 (hsz : vs.length + ws.length <= sizeLine) : wpAny (model prog w) A (binaryOp .Add (.ref t) (.ref b)) Q E s := by
  obtain ⟨⟨cls, dd, data, sl⟩, ho, hc, n, hd⟩ := id ht; obtain ⟨⟨cls2, dd2, data2, sl2⟩, ho2, hc2, n2, hd2⟩ := id hb; simp only at hc hd hc2 hd2; subst hc hd hc2 hd2; have e : vs.toArray ++ ws.toArray = (vs ++ ws).toArray := by simp
  by_cases hw : ws = []
  · exact concat_meets ⟨_, ho, rfl⟩ ⟨_, ho2, rfl⟩ noFill_tuple_add seq_tuple_add PySem.F.slot_tuple_add PySem.F.entry_tuple_add (PySem.F.args_tuple_add_2 _ _)
      (tuple_addW1 t b vs.toArray ws.toArray n n2 dd dd2 sl sl2 (by simpa using hv) (by simp [hw])) ⟨ho, ho2, h1 hw⟩
  · refine concat_meets ⟨_, ho, rfl⟩ ⟨_, ho2, rfl⟩ noFill_tuple_add seq_tuple_add PySem.F.slot_tuple_add PySem.F.entry_tuple_add (PySem.F.args_tuple_add_2 _ _)
      (tuple_addW2 t b vs.toArray ws.toArray n n2 dd dd2 sl sl2 (by simpa using hv) (by simpa using hw) (by rw [List.size_toArray, List.size_toArray]; exact hsz)) ⟨ho, ho2, ?_⟩
    rw [e]; exact h2 hw
def sIx (n d : Nat) : Option Int -> Nat
  | none => d
  | some v => if v < 0 then (v + (n : Int)).toNat else min v.toNat n
theorem sIx_le (n d : Nat) (hd : d <= n) (o : Option Int) : sIx n d o <= n := by
  cases o with
  | none => exact hd
  | some v =>
    show (if v < 0 then (v + (n : Int)).toNat else min v.toNat n) <= n
    by_cases hv : v < 0
    · rw [if_pos hv]; omega
    · rw [if_neg hv]; exact Nat.min_le_right _ _
theorem clip_eq (v : Int) (n d : Nat) : (if v < 0 then max (v + (n : Int)) 0 else min v (n : Int)) = ((sIx n d (some v) : Nat) : Int) := by
  show (if v < 0 then max (v + (n : Int)) 0 else min v (n : Int)) = (((if v < 0 then (v + (n : Int)).toNat else min v.toNat n) : Nat) : Int)
  by_cases hv : v < 0
  · simp only [if_pos hv]; omega
  · simp only [if_neg hv]; omega
theorem adjust_gen (lo hi : Option Int) (n : Nat) : Builtin.Slice.sliceAdjust lo hi 1 (n : Int) = (((sIx n 0 lo : Nat) : Int), ((sIx n n hi : Nat) : Int)) := by
  have h1 : ¬ ((1 : Int) < 0) := by omega
  unfold Builtin.Slice.sliceAdjust; simp only [h1, if_false]; refine Prod.ext ?_ ?_
  · cases lo with
    | none => rfl
    | some v => exact clip_eq v n 0
  · cases hi with
    | none => rfl
    | some v => exact clip_eq v n n
theorem places_gen (i j : Nat) : Builtin.Slice.slicePlaces (i : Int) (j : Int) 1 = j - i := by
  unfold Builtin.Slice.slicePlaces; have h1 : (1 : Int) > 0 := by omega
  simp only [h1, if_true, Int.ediv_one]
  split <;> omega
theorem slicePart_ {v : Value} {o : Option Int} {Q : Option Int -> Shared -> Prop} (p : IsPart v o) (h : Q o s) : wpAny (model prog w) A (Builtin.Slice.slicePartIndex v) Q E s := by
  cases p with
  | none => exact slicePart_none h
  | int i t => exact slicePart_int h
theorem sliceApplied_gen {sl : Addr} {vl vu : Value} {lo hi : Option Int} {n : Nat} {Q : Int × Int × Nat -> Shared -> Prop} (hs : s.heap.IsSliceOf sl vl vu .none) (pl : IsPart vl lo) (pu : IsPart vu hi)
 (h : Q (((sIx n 0 lo : Nat) : Int), 1, sIx n n hi - sIx n 0 lo) s) : wpAny (model prog w) A (Builtin.Slice.sliceApplied (.ref sl) (pure (n : Int))) Q E s := by
  obtain ⟨os, hos, hcs, hds⟩ := id hs; unfold Builtin.Slice.sliceApplied Builtin.Slice.sliceFields; refine wpAny_bind (wpAny_bind (wpAny_field hos hds (x := vl) rfl (wpAny_bind (wpAny_field hos hds (x := vu) rfl (wpAny_bind (wpAny_field hos hds (x := .none) rfl (wpAny_pure ?_))))))); refine wpAny_bind (slicePart_none ?_)
  show wpAny _ _ (if ((1 : Int) == 0) = true then _ else _) _ _ s
  rw [if_neg (by decide)]; refine wpAny_bind (slicePart_ pl (wpAny_bind (slicePart_ pu (wpAny_bind (wpAny_pure ?_)))))
  show wpAny _ _ (match Builtin.Slice.sliceAdjust lo hi 1 (n : Int) with | (lo, hi) => pure (lo, (1 : Int), Builtin.Slice.slicePlaces lo hi 1)) _ _ s
  rw [adjust_gen lo hi n]
  show wpAny _ _ (pure (((sIx n 0 lo : Nat) : Int), (1 : Int), Builtin.Slice.slicePlaces ((sIx n 0 lo : Nat) : Int) ((sIx n n hi : Nat) : Int) 1)) _ _ s
  rw [places_gen]; exact wpAny_pure h
theorem pick_gen (xs : Array Value) (i k : Nat) : ((List.range k).filterMap fun (m : Nat) => xs[((i : Int) + (m : Int) * 1).toNat]?).toArray = ((xs.toList.drop i).take k).toArray := by
  have e : (fun (m : Nat) => xs[((i : Int) + (m : Int) * 1).toNat]?) = fun m => xs[i + m]? := by
    funext m
    have : ((i : Int) + (m : Int) * 1).toNat = i + m := by omega
    rw [this]
  rw [e]; have := pick_run xs i k; rw [List.filterMap_map] at this; have e2 : ((fun x => xs[x]?) ∘ fun x => i + x) = fun m => xs[i + m]? := rfl
  rw [e2] at this; rw [this]
theorem getItem_tuple_cut {t sl : Addr} {items : Array Value} {vl vu : Value} {lo hi : Option Int} {Q : Value -> Shared -> Prop} (ht : IsTup s.heap t items) (hs : s.heap.IsSliceOf sl vl vu .none) (pl : IsPart vl lo) (pu : IsPart vu hi)
 (hw : ¬ (sIx items.size 0 lo = 0 /\ sIx items.size items.size hi = items.size))
 (h : Q (.ref s.heap.objs.size) { s with heap := s.heap.push { cls := .type "tuple", data := .seq ((items.toList.drop (sIx items.size 0 lo)).take (sIx items.size items.size hi - sIx items.size 0 lo)).toArray } })
 (hsz : items.size <= sizeLine) : wpAny (model prog w) A (getItem (.ref t) (.ref sl)) Q E s := by
  have htake : sizeOk (.seq ((items.toList.drop (sIx items.size 0 lo)).take (sIx items.size items.size hi - sIx items.size 0 lo)).toArray) := by
    show ((items.toList.drop (sIx items.size 0 lo)).take (sIx items.size items.size hi - sIx items.size 0 lo)).toArray.size <= sizeLine
    rw [List.size_toArray, List.length_take, List.length_drop, Array.length_toList]; omega
  have hj : sIx items.size items.size hi <= items.size := sIx_le _ _ (Nat.le_refl _) hi; obtain ⟨os, hos, hcs, hds⟩ := id hs; have hTs : s.TypeIs (.ref sl) "slice" := ⟨os, hos, hcs⟩; unfold getItem
  try with_reducible refine wpAny_holding ?_
  first | refine wpAny_bind (wpAny_pure ?_) | skip
  refine wpAny_bind (wpAny_sequenceKey ht.typeIs (by decide) ?_)
  refine wpAny_bind (wpAny_callSpecial?_slot (name := Str.ofString "__getitem__") ht.typeIs PyProof.Rows.slot_tuple_getitem
    (wpAny_call_entry PyProof.Rows.slot_tuple_getitem ht.typeIs entry_tuple_getitem ?_ (args_tuple_getitem _ _)))
  show wpAny _ _ (Builtin.Tuple.tupleItemsOf (.ref t) >>= _) _ _ s
  refine wpAny_bind (tupleItemsOf_ ht ?_); refine wpAny_bind (wpAny_typeOf hTs ?_); rw [if_pos (by decide)]; refine wpAny_bind (sliceApplied_gen hs pl pu ?_); have hno : ¬ ((((sIx items.size 0 lo : Nat) : Int) == 0 && (1 : Int) == 1 && (sIx items.size items.size hi - sIx items.size 0 lo) == items.size) = true) := by
    intro q; rw [Bool.and_eq_true, Bool.and_eq_true] at q; have q1 : ((sIx items.size 0 lo : Nat) : Int) = 0 := eq_of_beq q.1.1; have q2 : sIx items.size items.size hi - sIx items.size 0 lo = items.size := eq_of_beq q.2; exact hw ⟨by omega, by omega⟩
  show wpAny _ _ (if (((sIx items.size 0 lo : Nat) : Int) == 0 && (1 : Int) == 1 && (sIx items.size items.size hi - sIx items.size 0 lo) == items.size) = true then _ else _) _ _ s
  rw [if_neg hno, pick_gen]
  first
    | exact wpAny_bind (m := Builtin.Tuple.tupleExact _) (wpAny_newObj_type (wpAny_pure ⟨_, rfl, wpAny_pure h⟩) htake)
    | exact wpAny_bind (m := Builtin.Tuple.tupleExact _) (wpAny_newObj_type (wpAny_bind (wpAny_pure (wpAny_pure ⟨_, rfl, wpAny_pure h⟩))) htake)
    | exact wpAny_bind (wpAny_bind (m := Builtin.Tuple.tupleExact _) (wpAny_newObj_type (wpAny_pure (wpAny_pure ⟨_, rfl, wpAny_pure h⟩)) htake))
    | exact wpAny_bind (wpAny_bind (m := Builtin.Tuple.tupleExact _) (wpAny_newObj_type (wpAny_pure ⟨_, rfl, wpAny_pure h⟩) htake))
end
end HT
namespace L2
open PySem PySem.Spec PyProof.Rows
abbrev TO := St -> Hp -> (Option Int -> Hp -> Prop) -> Prop
def PO (X : Cx) (e : Option Expr) (t : TO) : Prop :=
  ∀ (pins : List (Addr × Obj)) (s : Shared) (σ : St) (H : Hp) (Q : Option Int -> Hp -> Prop), Inv X pins σ H s -> t σ H Q ->
    wpAny (model X.prog X.w) X.A (evalPart e X.env) (fun u s' => ∃ o H', Inv X pins σ H' s' /\ IsPart u o /\ Q o H') X.xe s
def tNoPart : TO := fun _ H Q => Q none H
def tPart (t : TE) : TO := fun σ H Q => t σ H fun x H1 => ∃ i, x = .int i /\ Q (some i) H1
section
variable {X : Cx} {e : Expr} {te : TE} {lo hi : Option Expr} {tl th : TO} {pos p2 : Pos}
theorem po_none : PO X none tNoPart := by
  intro pins s σ H Q I h; rw [evalPart_none]; exact wpAny_pure ⟨none, H, I, .none, h⟩
theorem po_some (h : PE X e te) : PO X (some e) (tPart te) := by
  intro pins s σ H Q I hw; rw [evalPart_some]; refine thn (h pins s σ H _ I hw) fun u s1 ⟨x, H1, I1, r1, q1⟩ => ?_
  obtain ⟨i, rfl, q⟩ := q1; obtain ⟨t, rfl⟩ := r1; exact ⟨some i, H1, I1, .int i t, q⟩
def SlR (X : Cx) (r : V -> Option Int -> Option Int -> Hp -> VK -> Prop) : Prop :=
  ∀ (pins : List (Addr × Obj)) (s : Shared) (σ : St) (H : Hp) (x : V) (v vl vu : Value) (lo hi : Option Int) (sl : Addr) (Q : VK), Inv X pins σ H s -> RelV x v -> s.heap.IsSliceOf sl vl vu .none -> IsPart vl lo -> IsPart vu hi -> r x lo hi H Q ->
    ∃ T id, typeLookup (.type T) "__getitem__" = pure (some (.builtin id)) /\ s.TypeIs v T /\ wpAny (model X.prog X.w) X.A (getItem v (.ref sl)) (EP X pins σ Q) X.xe s
def tSl (r : V -> Option Int -> Option Int -> Hp -> VK -> Prop) (te : TE) (tl th : TO) : TE := fun σ H Q => te σ H fun x H1 => tl σ H1 fun l H2 => th σ H2 fun u H3 => r x l u H3 Q
theorem pe_slice {r : V -> Option Int -> Option Int -> Hp -> VK -> Prop} (hr : SlR X r) (he : PE X e te) (hl : PO X lo tl) (hu : PO X hi th) : PE X (.Subscript e (.Slice lo hi none p2) pos) (tSl r te tl th) := by
  intro pins s σ H Q I h; refine Subscript_ (thn (he pins s σ H _ I h) fun v s1 ⟨x, H1, I1, r1, q1⟩ => ?_); refine wpAny_Slice (thn (hl pins s1 σ H1 _ I1 q1) fun vl s2 ⟨l, H2, I2, pl, q2⟩ => thn (hu pins s2 σ H2 _ I2 q2) fun vu s3 ⟨u, H3, I3, pu, q3⟩ => ?_); rw [evalPart_none]; refine wpAny_pure ?_
  have I4 : Inv X pins σ H3 { s3 with heap := s3.heap.push { cls := .type "slice", data := .fields #[vl, vu, .none] } } := I3.kept (t' := s3.toks) fun b ob q => Heap.get?_push_of_some _ q
  obtain ⟨T, id, hT, ht, hg⟩ := hr pins { s3 with heap := s3.heap.push { cls := .type "slice", data := .fields #[vl, vu, .none] } } σ H3 x v vl vu l u s3.heap.objs.size Q I4 r1 (Heap.IsSliceOf.new ..) pl pu q3
  show wpAny (model X.prog X.w) X.A (subscriptTail e (.Slice lo hi none p2) v (.ref s3.heap.objs.size)) (EP X pins σ Q) X.xe { s3 with heap := s3.heap.push { cls := .type "slice", data := .fields #[vl, vu, .none] } }
  exact tail_any (ops := [.ref s3.heap.objs.size, v]) ht hT hg (by with_unfolding_all rfl)
def cutV (xs : List V) (lo hi : Option Int) : List V := (xs.drop (HT.sIx xs.length 0 lo)).take (HT.sIx xs.length xs.length hi - HT.sIx xs.length 0 lo)
theorem cutV_length (xs : List V) (lo hi : Option Int) : (cutV xs lo hi).length <= xs.length := by
  unfold cutV; rw [List.length_take, List.length_drop]; omega
def rSlT (K : PySem.W.Frag) : V -> Option Int -> Option Int -> Hp -> VK -> Prop := fun x lo hi H Q => ∃ a xs, x = .ref a /\ SqT K H a xs /\
  ¬ (HT.sIx xs.length 0 lo = 0 /\ HT.sIx xs.length xs.length hi = xs.length) /\ ∀ p, H p = none -> Q (.ref p) (upd H p (.tup (cutV xs lo hi)))
theorem sl_tup : SlR X (rSlT X.K) := by
  intro pins s σ H x v vl vu lo hi sl Q I rx hs pl pu h; obtain ⟨a, xs, rfl, hx, hw, q⟩ := h; cases rx; obtain ⟨its, r, ht, hz⟩ := I.tuple hx; have hlen : its.toArray.size = xs.length := by rw [List.size_toArray]; exact r.length.symm
  refine ⟨"tuple", _, PyProof.Rows.slot_tuple_getitem.lookup, ht.typeIs, ?_⟩; refine HT.getItem_tuple_cut ht hs pl pu (by rw [hlen]; exact hw) ?_ (by rw [hlen]; exact hz); rw [hlen]; refine ⟨.ref s.heap.objs.size, _, I.laid (t' := s.toks) (o := .tup (cutV xs lo hi)) (fun b ob q => Heap.get?_push_of_some _ q) (Nat.le_refl _) ?_, rfl, q _ (I.hok.fresh (Nat.le_refl _))⟩; exact ⟨Nat.le_trans (cutV_length xs lo hi) hz, _, (r.drop (HT.sIx xs.length 0 lo)).take (HT.sIx xs.length xs.length hi - HT.sIx xs.length 0 lo), IsTup.new _ _⟩
def rCatT (K : PySem.W.Frag) : R2 := fun x y H Q => ∃ a b xs ys, x = .ref a /\ y = .ref b /\ SqT K H a xs /\ SqT K H b ys /\ xs ≠ [] /\ xs.length + ys.length <= sizeLine /\
  (ys = [] -> Q (.ref a) H) /\ (ys ≠ [] -> ∀ p, H p = none -> Q (.ref p) (upd H p (.tup (xs ++ ys))))
theorem Vals.nil_iff {xs : List V} {us : List Value} (r : Vals xs us) : us = [] ↔ xs = [] := by
  cases r with
  | nil => simp
  | cons _ _ => simp
theorem op_catT : OpR X (binaryOp .Add) (rCatT X.K) := by
  intro pins s σ H x y v u Q I rx ry h; obtain ⟨a, b, xs, ys, rfl, rfl, ha, hb, hx, hz, q1, q2⟩ := h; cases rx; cases ry; obtain ⟨its, r1, p1, _⟩ := I.tuple ha; obtain ⟨its2, r2, p2, _⟩ := I.tuple hb; refine HT.cat_tup p1 p2 (fun z => hx (r1.nil_iff.mp z)) (fun z => ⟨.ref a, H, I, rfl, q1 (r2.nil_iff.mp z)⟩) (fun z => ?_) (by rw [<- r1.length, <- r2.length]; exact hz); refine ⟨.ref s.heap.objs.size, _, I.laid (t' := s.toks) (o := .tup (xs ++ ys)) (fun b ob q => Heap.get?_push_of_some _ q) (Nat.le_refl _) ?_, rfl, q2 (fun w => z (r2.nil_iff.mpr w)) _ (I.hok.fresh (Nat.le_refl _))⟩; exact ⟨by rw [List.length_append]; exact hz, _, r1.append r2, IsTup.new _ _⟩
end
def ixN (n : Nat) (i : Int) : Option Nat := if 0 <= i then (if i < n then some i.toNat else none) else if -(n : Int) <= i then some (i + n).toNat else none
def atI {α : Type} (xs : List α) (i : Int) : Option α := (ixN xs.length i).bind fun j => xs[j]?
theorem ixN_seq {n : Nat} {i : Int} {j : Nat} (h : ixN n i = some j) : seqIndex? i n = some j /\ j < n /\ -(n : Int) <= i /\ i < n := by
  unfold ixN at h
  by_cases h0 : 0 <= i
  · rw [if_pos h0] at h
    by_cases h1 : i < n
    · rw [if_pos h1] at h
      have e : i.toNat = j := Option.some.inj h; exact ⟨by rw [seqIndex_of h0 h1, e], by omega, by omega, h1⟩
    · rw [if_neg h1] at h; cases h
  · rw [if_neg h0] at h
    by_cases h1 : -(n : Int) <= i
    · rw [if_pos h1] at h
      have e : (i + n).toNat = j := Option.some.inj h; exact ⟨by rw [seqIndex_neg (by omega) h1, e], by omega, h1, by omega⟩
    · rw [if_neg h1] at h; cases h
theorem atI_get {α : Type} {xs : List α} {i : Int} {v : α} (h : atI xs i = some v) : ∃ j, seqIndex? i xs.length = some j /\ xs[j]? = some v /\ j < xs.length /\ -(xs.length : Int) <= i /\ i < xs.length := by
  unfold atI at h
  cases e : ixN xs.length i with
  | none => rw [e] at h; cases h
  | some j =>
    rw [e] at h; obtain ⟨h1, h2, h3, h4⟩ := ixN_seq e; exact ⟨j, h1, h, h2, h3, h4⟩
theorem atI_nat {α : Type} {xs : List α} {j : Nat} {v : α} (h : xs[j]? = some v) : atI xs (j : Int) = some v := by
  have hj : j < xs.length := (List.getElem?_eq_some_iff.mp h).1; have e : ixN xs.length (j : Int) = some j := by
    unfold ixN; rw [if_pos (by omega), if_pos (by omega)]; simp
  unfold atI; rw [e]; exact h
def PlainIx (b : Expr) : Prop := ∀ o i, subscripted b false o i = operate [o, i] (getItem o i)
def IxR (X : Cx) (r : R2) : Prop :=
  ∀ (value slice : Expr) (pins : List (Addr × Obj)) (s : Shared) (σ : St) (H : Hp) (x y : V) (v u : Value) (Q : VK), Inv X pins σ H s -> RelV x v -> RelV y u -> r x y H Q ->
    subscripted slice false v u = operate [v, u] (getItem v u) -> wpAny (model X.prog X.w) X.A (subscriptTail value slice v u) (EP X pins σ Q) X.xe s
def MtR (X : Cx) (id : String) (r : V -> List V -> Hp -> VK -> Prop) : Prop :=
  ∀ (pins : List (Addr × Obj)) (s : Shared) (σ : St) (H : Hp) (x : V) (xs : List V) (v : Value) (us : List Value) (Q : VK), Inv X pins σ H s -> RelV x v -> Vals xs us -> r x xs H Q ->
    wpAny (model X.prog X.w) X.A (call (.builtin id) (v :: us)) (EP X pins σ Q) X.xe s
section
variable {X : Cx} {a b : Expr} {ta tb : TE} {pos : Pos}
theorem IxR.or {r r' : R2} (h : IxR X r) (h' : IxR X r') : IxR X (fun x y H Q => r x y H Q \/ r' x y H Q) := by
  intro value slice pins s σ H x y v u Q I rx ry q hs
  rcases q with q | q
  · exact h value slice pins s σ H x y v u Q I rx ry q hs
  · exact h' value slice pins s σ H x y v u Q I rx ry q hs
theorem pe_ix {r : R2} (hr : IxR X r) (ha : PE X a ta) (hb : PE X b tb) (hs : PlainIx b) : PE X (.Subscript a b pos) (tOp r ta tb) := by
  intro pins s σ H Q I h; exact Subscript_ (binT ha hb I h fun v u s2 x y H2 I2 rx ry q => hr a b pins s2 σ H2 x y v u Q I2 rx ry q (hs _ _))
def rIxL (K : PySem.W.Frag) : R2 := fun x y H Q => ∃ p xs i v, x = .ref p /\ y = .int i /\ SqL K H p xs /\ atI xs i = some v /\ Q v H
def rIxT (K : PySem.W.Frag) : R2 := fun x y H Q => ∃ p xs i v, x = .ref p /\ y = .int i /\ SqT K H p xs /\ atI xs i = some v /\ Q v H
def rIxS : R2 := fun x y H Q => ∃ z i c, x = .str z /\ y = .int i /\ z.length <= sizeLine /\ atI z.cps.toList i = some c /\ Q (.str ⟨#[c]⟩) H
theorem ix_list : IxR X (rIxL X.K) := by
  intro value slice pins s σ H x y v u Q I rx ry h hs; obtain ⟨p, xs, i, z, rfl, rfl, hq, he, q⟩ := h; cases rx; obtain ⟨t, rfl⟩ := ry; obtain ⟨its, r, pl, hz⟩ := I.list hq; obtain ⟨j, h1, h2, h3, h4, h5⟩ := atI_get he; obtain ⟨w, ew, rw'⟩ := r.get h2; have hl := r.length; have hn := line63; have fin : EP X pins σ Q w s := ⟨z, H, I, rw', q⟩
  by_cases h0 : 0 <= i
  · have hj : i.toNat = j := by
      rw [seqIndex_of h0 h5] at h1; exact Option.some.inj h1
    exact item_listR pl.isList h0 (by omega) (by rw [hj]; simpa using ew) fin hs
  · have hj : (i + (its.toArray.size : Int)).toNat = j := by
      rw [seqIndex_neg (by omega) h4] at h1; rw [List.size_toArray, <- hl]; exact Option.some.inj h1
    exact subscriptTail_builtinR (x := w) pl.isList.typeIs slot_list_getitem.lookup
      (wpAny_getItem_list_neg (Q := fun r s' => r = w /\ EP X pins σ Q r s') pl.isList (by omega) (by rw [List.size_toArray] <;> omega) (by omega) (by rw [hj]; simpa using ew) ⟨rfl, fin⟩) hs
theorem ix_tup : IxR X (rIxT X.K) := by
  intro value slice pins s σ H x y v u Q I rx ry h hs; obtain ⟨p, xs, i, z, rfl, rfl, hq, he, q⟩ := h; cases rx; obtain ⟨t, rfl⟩ := ry; obtain ⟨its, r, pl, hz⟩ := I.tuple hq; obtain ⟨j, h1, h2, h3, h4, h5⟩ := atI_get he; obtain ⟨w, ew, rw'⟩ := r.get h2; have hl := r.length; have hn := line63; have fin : EP X pins σ Q w s := ⟨z, H, I, rw', q⟩; exact subscriptTail_builtinR (x := w) pl.typeIs slot_tuple_getitem.lookup
    (getItem_tuple (j := j) (Q := fun r s' => r = w /\ EP X pins σ Q r s') pl (by omega) (by omega) (by rw [List.size_toArray, <- hl]; exact h1) (by simpa using ew) ⟨rfl, fin⟩) hs
theorem ix_str : IxR X rIxS := by
  intro value slice pins s σ H x y v u Q I rx ry h hs; obtain ⟨z, i, c, rfl, rfl, hz, he, q⟩ := h; obtain ⟨t, rfl⟩ := rx; obtain ⟨t', rfl⟩ := ry; obtain ⟨j, h1, h2, h3, h4, h5⟩ := atI_get he; have hl : z.cps.toList.length = z.length := by simp [Str.length]
  rw [hl] at h1 h4 h5; have hn := line63
  exact tail_any (typeIs_str s z t) slot_str_getitem.lookup (getItem_str (c := c) (by
    have e1 : decide (i < -(2 ^ 63 : Int)) = false := decide_eq_false (by omega); have e2 : decide (i ≥ 2 ^ 63) = false := decide_eq_false (by omega)
    rw [e1, e2, Bool.or_false]) (by rw [h1]; simpa using h2) ⟨.str ⟨#[c]⟩, H, I.tok _, ⟨_, rfl⟩, q⟩) hs
def rIx (K : PySem.W.Frag) : R2 := fun x y H Q => rIxL K x y H Q \/ rIxT K x y H Q \/ rIxS x y H Q
theorem ix_seq : IxR X (rIx X.K) := ix_list.or (ix_tup.or ix_str)
theorem slice_bounds (lo hi : Option Int) (n : Nat) : (sliceBounds lo hi none n).1 = ((HT.sIx n 0 lo : Nat) : Int) /\ (sliceBounds lo hi none n).2.1 = ((HT.sIx n n hi : Nat) : Int) /\ (sliceBounds lo hi none n).2.2 = 1 := by
  refine ⟨?_, ?_, rfl⟩
  · cases lo with
    | none => simp [sliceBounds, HT.sIx]
    | some i =>
      simp only [sliceBounds, HT.sIx, Option.getD_none, show (1 : Int) > 0 by decide, if_true]
      by_cases h : i < 0
      · simp only [h, if_true] <;> omega
      · simp only [h, if_false] <;> omega
  · cases hi with
    | none => simp [sliceBounds, HT.sIx]
    | some i =>
      simp only [sliceBounds, HT.sIx, Option.getD_none, show (1 : Int) > 0 by decide, if_true]
      by_cases h : i < 0
      · simp only [h, if_true] <;> omega
      · simp only [h, if_false] <;> omega
theorem slicePick_cut (its : List Value) (lo hi : Option Int) : slicePick its.toArray lo hi none = ((its.drop (HT.sIx its.length 0 lo)).take (HT.sIx its.length its.length hi - HT.sIx its.length 0 lo)).toArray := by
  obtain ⟨h1, h2, h3⟩ := slice_bounds lo hi its.toArray.size; unfold slicePick; rw [h1, h2, h3]
  simp only [sliceRange_one, pick_run, List.size_toArray] <;> rfl
def rSlL (K : PySem.W.Frag) : V -> Option Int -> Option Int -> Hp -> VK -> Prop := fun x lo hi H Q => ∃ a xs, x = .ref a /\ SqL K H a xs /\ ∀ p, H p = none -> Q (.ref p) (upd H p (.lst (cutV xs lo hi)))
theorem sl_list : SlR X (rSlL X.K) := by
  intro pins s σ H x v vl vu lo hi sl Q I rx hs pl pu h; obtain ⟨a, xs, rfl, hx, q⟩ := h; cases rx; obtain ⟨its, r, ht, hz⟩ := I.list hx; have hlen := r.length; refine ⟨"list", _, slot_list_getitem.lookup, ht.isList.typeIs, ?_⟩
  refine wpAny_getItem_list_slice ht.isList hs pl pu .none (by simp) ?_ (by rw [List.size_toArray] <;> omega); rw [slicePick_cut, <- hlen]; refine ⟨.ref s.heap.objs.size, _, I.laid (t' := s.toks) (o := .lst (cutV xs lo hi)) (fun b ob q => Heap.get?_push_of_some _ q) (Nat.le_refl _) ?_, rfl, q _ (I.hok.fresh (Nat.le_refl _))⟩; exact ⟨Nat.le_trans (cutV_length xs lo hi) hz, _, 0, (r.drop (HT.sIx xs.length 0 lo)).take (HT.sIx xs.length xs.length hi - HT.sIx xs.length 0 lo), Heap.get?_push_size _ rfl⟩
def flatV : V -> Bool
  | .non => true
  | .bl _ => true
  | .int _ => true
  | .str _ => true
  | _ => false
def eqV : V -> V -> Bool
  | .non, .non => true
  | .bl a, .bl b => a == b
  | .bl a, .int b => (if a then 1 else 0) == b
  | .int a, .bl b => a == (if b then 1 else 0)
  | .int a, .int b => a == b
  | .str a, .str b => a == b
  | _, _ => false
theorem eqAt_V {A : Around} {s : Shared} {y x : V} {u v : Value} (ry : RelV y u) (rx : RelV x v) (fy : flatV y = true) (fx : flatV x = true) : SeqAt.EqAt A s u v (eqV y x) := by
  cases y with
  | non =>
    cases ry
    cases x with
    | non => cases rx; exact SeqAt.EqAt.same _
    | bl b => cases rx; exact SeqAt.EqAt.none_bool b
    | int b => obtain ⟨t, rfl⟩ := rx; exact SeqAt.EqAt.none_int b t
    | str b => obtain ⟨t, rfl⟩ := rx; exact SeqAt.EqAt.none_str b t
    | _ => exact absurd (show false = true from fx) Bool.false_ne_true
  | bl a =>
    cases ry
    cases x with
    | non => cases rx; exact SeqAt.EqAt.bool_none a
    | bl b => cases rx; exact SeqAt.EqAt.bool_bool a b
    | int b => obtain ⟨t, rfl⟩ := rx; exact SeqAt.EqAt.bool_int a b t
    | str b => obtain ⟨t, rfl⟩ := rx; exact SeqAt.EqAt.bool_str a b t
    | _ => exact absurd (show false = true from fx) Bool.false_ne_true
  | int a =>
    obtain ⟨t', rfl⟩ := ry
    cases x with
    | non => cases rx; exact SeqAt.EqAt.int_none a t'
    | bl b => cases rx; exact SeqAt.EqAt.int_bool a t' b
    | int b => obtain ⟨t, rfl⟩ := rx; exact SeqAt.EqAt.int_int a t' b t
    | str b => obtain ⟨t, rfl⟩ := rx; exact SeqAt.EqAt.int_str a t' b t
    | _ => exact absurd (show false = true from fx) Bool.false_ne_true
  | str a =>
    obtain ⟨t', rfl⟩ := ry
    cases x with
    | non => cases rx; exact SeqAt.EqAt.str_none a t'
    | bl b => cases rx; exact SeqAt.EqAt.str_bool a t' b
    | int b => obtain ⟨t, rfl⟩ := rx; exact SeqAt.EqAt.str_int a t' b t
    | str b => obtain ⟨t, rfl⟩ := rx; exact SeqAt.EqAt.str_str a t' b t
    | _ => exact absurd (show false = true from fx) Bool.false_ne_true
  | _ => exact absurd (show false = true from fy) Bool.false_ne_true
def eqU (x : V) (u : Value) : Bool := match u with
  | .none => eqV .non x
  | .bool b => eqV (.bl b) x
  | .int i _ => eqV (.int i) x
  | .str z _ => eqV (.str z) x
  | _ => false
theorem eqU_of {x y : V} {u : Value} (r : RelV y u) (f : flatV y = true) : eqU x u = eqV y x := by
  cases y with
  | non => cases r; rfl
  | bl b => cases r; rfl
  | int i => obtain ⟨t, rfl⟩ := r; rfl
  | str z => obtain ⟨t, rfl⟩ := r; rfl
  | _ => exact absurd (show false = true from f) Bool.false_ne_true
theorem any_eqU {x : V} : ∀ {xs : List V} {us : List Value}, Vals xs us -> xs.all flatV = true -> us.any (eqU x) = xs.any fun y => eqV y x
  | _, _, .nil, _ => rfl
  | y :: xs, u :: us, .cons r t, f => by
    rw [List.all_cons, Bool.and_eq_true] at f; rw [List.any_cons, List.any_cons, eqU_of r f.1, any_eqU t f.2]
theorem mem_eqAt {A : Around} {s : Shared} {x : V} {v : Value} (rx : RelV x v) (fx : flatV x = true) : ∀ {xs : List V} {us : List Value}, Vals xs us -> xs.all flatV = true -> ∀ u ∈ us, SeqAt.EqAt A s u v (eqU x u)
  | _, _, .nil, _ => fun u hu => by cases hu
  | y :: xs, u :: us, .cons r t, f => fun u' hu => by
    rw [List.all_cons, Bool.and_eq_true] at f
    rcases List.mem_cons.mp hu with rfl | hu
    · rw [eqU_of r f.1]; exact eqAt_V r rx f.1 fx
    · exact mem_eqAt rx fx t f.2 u' hu
def inV (x : V) (xs : List V) : Bool := xs.any fun y => eqV y x
def rIn (K : PySem.W.Frag) (neg : Bool) : R2 := fun x y H Q => ∃ p xs, y = .ref p /\ (SqL K H p xs \/ SqT K H p xs) /\ flatV x = true /\ xs.all flatV = true /\ Q (.bl (if neg then !inV x xs else inV x xs)) H
theorem op_in_seq : OpR X (compareOp .In) (rIn X.K false) := by
  intro pins s σ H x y v u Q I rx ry h; obtain ⟨p, xs, rfl, hq, fx, fs, q⟩ := h; cases ry
  rcases hq with hq | hq
  · obtain ⟨its, r, pl, hz⟩ := I.list hq
    refine SeqAt.in_listAt (eqU x) pl.isList (fun w hw => mem_eqAt rx fx r fs w (by simpa using hw)) ⟨.bl _, H, I, rfl, ?_⟩; rw [show its.toArray.any (eqU x) = its.any (eqU x) by simp, any_eqU r fs]; exact q
  · obtain ⟨its, r, pl, hz⟩ := I.tuple hq
    refine SeqAt.in_tupleAt (eqU x) pl (fun w hw => mem_eqAt rx fx r fs w (by simpa using hw)) ⟨.bl _, H, I, rfl, ?_⟩; rw [show its.toArray.any (eqU x) = its.any (eqU x) by simp, any_eqU r fs]; exact q
theorem call_len_seq : CallR X (.builtin "len") (fun xs H Q => ∃ p ys, xs = [.ref p] /\ (SqL X.K H p ys \/ SqT X.K H p ys) /\ Q (.int ys.length) H) := by
  intro pins s σ H xs us Q I r h; obtain ⟨p, ys, rfl, hq, q⟩ := h; obtain ⟨u, rfl, rx⟩ := vals1 r; cases rx; have hn := line63
  rcases hq with hq | hq
  · obtain ⟨its, r', pl, hz⟩ := I.list hq
    have hlen := r'.length
    exact Calls.call_len_list pl.isList (by simp only [List.size_toArray] <;> omega) ⟨.int ys.length, H, I.tok _, ⟨s.toks + 1, by rw [List.size_toArray, hlen]⟩, q⟩
  · obtain ⟨its, r', pl, hz⟩ := I.tuple hq
    have hlen := r'.length
    exact len_tuple pl (by simp only [List.size_toArray] <;> omega) ⟨.int ys.length, H, I.tok _, ⟨s.toks + 1, by rw [List.size_toArray, hlen]⟩, q⟩
theorem call_len_str : CallR X (.builtin "len") (fun xs H Q => ∃ z, xs = [.str z] /\ z.length <= sizeLine /\ Q (.int z.length) H) := by
  intro pins s σ H xs us Q I r h; obtain ⟨z, rfl, hz, q⟩ := h; obtain ⟨u, rfl, t, rfl⟩ := vals1 r; have hn := line63; exact len_str (by omega) ⟨.int z.length, H, I.tok _, ⟨_, rfl⟩, q⟩
theorem call_tuple_of : CallR X (.type "tuple") (fun xs H Q => ∃ p ys, xs = [.ref p] /\ ((SqL X.K H p ys /\ ∀ l, H l = none -> Q (.ref l) (upd H l (.tup ys))) \/ (SqT X.K H p ys /\ Q (.ref p) H))) := by
  intro pins s σ H xs us Q I r h; obtain ⟨p, ys, rfl, h⟩ := h; obtain ⟨u, rfl, rx⟩ := vals1 r; cases rx
  rcases h with ⟨hq, q⟩ | ⟨hq, q⟩
  · obtain ⟨its, r', pl, hz⟩ := I.list hq
    have hlen := r'.length
    refine call_tuple_list pl.isList (fun h' kp => ?_) (by simp only [List.size_toArray] <;> omega)
    have I1 : Inv X pins σ H { s with heap := h' } := I.kept (t' := s.toks) kp
    have I2 : Inv X pins σ (upd H h'.objs.size (.tup ys)) { s with heap := h'.push { cls := .type "tuple", data := .seq its.toArray } } :=
      I1.laid (t' := s.toks) (fun b o e => Heap.get?_push_of_some _ e) (Nat.le_refl _) (show ObjOk X.prog X.w _ _ _ (.tup ys) from ⟨hz, its, r', IsTup.new _ _⟩)
    exact ⟨.ref h'.objs.size, _, I2, rfl, q _ (I1.hok.fresh (Nat.le_refl _))⟩
  · obtain ⟨its, r', pl, hz⟩ := I.tuple hq
    exact call_tuple_same pl ⟨.ref p, H, I, rfl, q⟩
def tyV (K : PySem.W.Frag) (T : String) (x : V) (H : Hp) : Prop := match x with
  | .str _ => T = "str"
  | .int _ => T = "int"
  | .ref p => (T = "list" /\ ∃ xs, SqL K H p xs) \/ (T = "tuple" /\ ∃ o, K.lookup p = some o /\ o.cls = .type "tuple" /\ o.dict = none) \/
      (T = "dict" /\ ((∃ kvs, H p = some (.dK kvs)) \/ ∃ kvs, H p = some (.dT kvs))) \/ (T = "set" /\ ∃ S n, H p = some (.set S n))
  | _ => False
theorem tyV_is {pins : List (Addr × Obj)} {σ : St} {H : Hp} {s : Shared} {T : String} {x : V} {v : Value} (I : Inv X pins σ H s) (r : RelV x v) (ty : tyV X.K T x H) :
 s.TypeIs v T /\ ∀ a, v = .ref a -> ∃ ob, s.heap.get? a = some ob /\ ob.dict = none := by
  cases x with
  | str z =>
    obtain ⟨t, rfl⟩ := r; cases (show T = "str" from ty); exact ⟨typeIs_str s z t, fun _ e => nomatch e⟩
  | int i =>
    obtain ⟨t, rfl⟩ := r; cases (show T = "int" from ty); exact ⟨typeIs_int s i t, fun _ e => nomatch e⟩
  | ref p =>
    cases r
    rcases ty with ⟨rfl, xs, hq⟩ | ⟨rfl, o, hk, hc, hd⟩ | ⟨rfl, hk⟩ | ⟨rfl, S, n, hk⟩
    · obtain ⟨its, _, pl, _⟩ := I.list hq
      refine ⟨pl.isList.typeIs, fun a e => ?_⟩; cases e; obtain ⟨o, n, e, c, hd, _⟩ := pl; exact ⟨o, e, hd⟩
    · refine ⟨⟨o, I.kIn p o hk, hc⟩, fun a e => ?_⟩
      cases e; exact ⟨o, I.kIn _ o hk, hd⟩
    · have z : ∃ o, s.heap.get? p = some o /\ o.ExactDict := by
        rcases hk with ⟨kvs, hk⟩ | ⟨kvs, hk⟩
        · obtain ⟨_, _, _, _, o, _, _, e, ex, _⟩ := I.hok p _ hk
          exact ⟨o, e, ex⟩
        · obtain ⟨_, _, _, _, o, _, _, e, ex, _⟩ := I.hok p _ hk
          exact ⟨o, e, ex⟩
      obtain ⟨o, e, ex⟩ := z; refine ⟨⟨o, e, ex.1⟩, fun a e2 => ?_⟩; cases e2; exact ⟨o, e, ex.2.1⟩
    · obtain ⟨o, _, _, _, e, ex, _⟩ := I.hok p _ hk
      refine ⟨⟨o, e, ex.1⟩, fun a e2 => ?_⟩; cases e2; exact ⟨o, e, ex.2.1⟩
  | _ => exact False.elim ty
def tBM0 (K : PySem.W.Frag) (T : String) (r : V -> List V -> Hp -> VK -> Prop) (to : TE) : TE := fun σ H Q => to σ H fun x H1 => tyV K T x H1 /\ r x [] H1 Q
def tBM (K : PySem.W.Frag) (T : String) (r : V -> List V -> Hp -> VK -> Prop) (to : TE) (t : TA) : TE := fun σ H Q => to σ H fun x H1 => tyV K T x H1 /\ t σ H1 fun xs H2 => r x xs H2 Q
variable {o e : Expr} {es : List Expr} {to : TE} {t : TA} {name : Str} {apos cpos : Pos} {T id : String} {r : V -> List V -> Hp -> VK -> Prop}
theorem pe_bm0 (pa : PlainAttrs T) (slot : Slot T name id) (hty : typeOf (.builtin id) = pure (.type "method_descriptor")) (hm : MtR X id r) (ho : PE X o to)
 (hbase : attributeBase o name X.env (eval o X.env) = eval o X.env := by rfl) (hline : (apos.endLine == cpos.line) = true := by rfl) : PE X (.Call (.Attribute o name apos) [] [] cpos) (tBM0 X.K T r to) := by
  intro pins s σ H Q I h; refine wpAny_Call_method0_late hbase hline (thn (ho pins s σ H _ I h) fun v s1 ⟨x, H1, I1, r1, ty, q1⟩ => ?_); obtain ⟨h1, h2⟩ := tyV_is I1 r1 ty; exact ⟨T, id, pa, slot, hty, h1, h2, Calls.callWith_builtin rfl (PySem.evalArgs_none (hm pins s1 σ H1 x [] v [] Q I1 r1 .nil q1))⟩
theorem pe_bm (pa : PlainAttrs T) (slot : Slot T name id) (hty : typeOf (.builtin id) = pure (.type "method_descriptor")) (hm : MtR X id r) (ho : PE X o to) (ha : PA X (e :: es) t)
 (hbase : attributeBase o name X.env (eval o X.env) = eval o X.env := by rfl)
 (hfew : ((backTo cpos (starEach (e :: es) X.env)).all (fun x => !x.1) && (backToKw cpos (keywordEach [] X.env)).all (fun x => x.1.isSome)
 && decide ((e :: es).length + ([] : List Keyword).length + (if ([] : List Keyword).isEmpty then 0 else 1) < 30)) = true := by rfl)
 (hline : (apos.endLine == cpos.line) = true := by rfl) (hs : starEach (e :: es) X.env = (false, eval e X.env) :: starEach es X.env := by rfl) (hplain : (backTo cpos (starEach es X.env)).any (·.1) = false := by rfl) :
 PE X (.Call (.Attribute o name apos) (e :: es) [] cpos) (tBM X.K T r to t) := by
  intro pins s σ H Q I h; refine wpAny_Call_method_late hbase hfew hline rfl (thn (ho pins s σ H _ I h) fun v s1 ⟨x, H1, I1, r1, ty, q1⟩ => ?_); obtain ⟨h1, h2⟩ := tyV_is I1 r1 ty; refine ⟨T, id, pa, slot, hty, h1, h2, ?_⟩; have hA := ha cpos pins s1 σ H1 _ I1 q1; rw [hs] at hA ⊢
  refine Calls.callWith_builtin (by show (false || (backTo cpos (starEach es X.env)).any (·.1)) = false; rw [hplain] <;> rfl) (Calls.evalArgs_plain ?_); exact thn hA fun us s2 ⟨vs, H2, I2, r2, q2⟩ => hm pins s2 σ H2 x vs v us Q I2 r1 r2 q2
end
def MtM (X : Cx) (id : String) (r : V -> List V -> Hp -> VK -> Prop) : Prop :=
  ∀ (pins : List (Addr × Obj)) (s : Shared) (σ : St) (H : Hp) (x : V) (xs : List V) (v : Value) (us : List Value) (Q : VK), Inv X pins σ H s -> RelV x v -> Vals xs us -> r x xs H Q ->
    wpAny (model X.prog X.w) X.A (call (.builtin id) (v :: us)) (EP X pins σ Q) X.xe s
theorem Vals.one : ∀ {x : V} {us : List Value}, Vals [x] us -> ∃ u, us = [u] /\ RelV x u
  | _, _, .cons r .nil => ⟨_, rfl, r⟩
section
variable {X : Cx} {pins : List (Addr × Obj)} {σ : St} {H : Hp} {s : Shared} {l b : Addr} {xs ys zs : List V}
theorem Inv.lset {its its' : List Value} {n : Nat} {f : Array Value -> Array Value} {t' : Nat} (I : Inv X pins σ H s) (hH : H l = some (.lst xs))
 (e : s.heap.get? l = some { cls := .type "list", data := .seq its.toArray n }) (hf : f its.toArray = its'.toArray) (hv : Vals ys its') (hz : ys.length <= sizeLine) :
 Inv X pins σ (upd H l (.lst ys)) { s with heap := s.heap.update l (Obj.mapSeq f), toks := t' } := by
  have q := PySem.IsL.update e f; rw [hf] at q; refine I.write (x := l) (e := l) (by rw [hH]; exact trivial) (.inl rfl) (fun b' u hb hu => (Heap.get?_update_other s.heap (Obj.mapSeq f) (Ne.symm hb)).trans hu) ⟨_, q⟩ ?_; exact ⟨hz, its', _, hv, q⟩
theorem Inv.lnew {its : List Value} {t' : Nat} (I : Inv X pins σ H s) (hv : Vals ys its) (hz : ys.length <= sizeLine) :
 Inv X pins σ (upd H s.heap.objs.size (.lst ys)) { s with heap := s.heap.push { cls := .type "list", data := .seq its.toArray }, toks := t' } :=
  I.laid (fun _ _ q => Heap.get?_push_of_some _ q) (Nat.le_refl _) ⟨hz, its, 0, hv, Heap.get?_push_size _ rfl⟩
theorem Inv.fresh (I : Inv X pins σ H s) : H s.heap.objs.size = none := I.hok.fresh (Nat.le_refl _)
theorem Inv.lstM (I : Inv X pins σ H s) (hH : H l = some (.lst xs)) : xs.length <= sizeLine /\ ∃ (its : List Value) (n : Nat), Vals xs its /\ xs.length = its.length /\ s.heap.get? l = some { cls := .type "list", data := .seq its.toArray n } := by
  obtain ⟨z, its, n, r, e⟩ := I.hok l _ hH; exact ⟨z, its, n, r, r.length, e⟩
end
section
variable {X : Cx}
def rAppend : V -> List V -> Hp -> VK -> Prop := fun x vs H Q => ∃ l xs y, x = .ref l /\ vs = [y] /\ H l = some (.lst xs) /\ xs.length < sizeLine /\ Q .non (upd H l (.lst (xs ++ [y])))
theorem mt_append : MtM X "list.append" rAppend := by
  intro pins s σ H x vs v us Q I rx rv h; obtain ⟨l, xs, y, rfl, rfl, hH, hz, q⟩ := h; cases rx; obtain ⟨u, rfl, ru⟩ := rv.one; obtain ⟨z, its, n, r, hl, e⟩ := I.lstM hH; refine call_meets F.slot_list_append ⟨_, e, rfl⟩ F.entry_list_append (F.args_list_append_2 _ _) (PySem.list_append l its.toArray n u (by rw [List.size_toArray]; omega)) ⟨e, ?_⟩; refine ⟨.non, _, I.lset (its' := its ++ [u]) hH e (by simp) (r.append (.cons ru .nil)) ?_, rfl, q⟩; rw [List.length_append, List.length_singleton]; omega
end
section
variable {prog : Program} {w : World} {A : Around} {E : Value -> Shared -> Prop} {s : Shared}
set_option maxRecDepth 100000 in
end
section
variable {X : Cx}
end
section
variable {κ : Type} [DecidableEq κ]
end
theorem kV_is {P : Program} {w : World} {k : Key} {u : Value} (r : RelV (kV k) u) : (mixKind P w).is k u = true := by
  cases k with
  | inl i => obtain ⟨t, e⟩ := (show ∃ t, u = Value.int i t from r); subst e; exact mixKind_int P w i t
  | inr x => obtain ⟨t, e⟩ := (show ∃ t, u = Value.str x t from r); subst e; exact mixKind_str P w x t
theorem items_are {P : Program} {w : World} : ∀ {ks : List Key} {us : List Value}, Vals (ks.map kV) us -> ItemsAre (mixKind P w) ks us
  | [], _, r => by rw [List.map_nil] at r; cases r; exact .nil
  | k :: ks, _, r => by
    rw [List.map_cons] at r
    cases r with
    | cons h t => exact .cons (kV_is h) (items_are t)
abbrev KT (H : Hp) : List (List Key × V) -> List (List Key × Addr × Value) -> Prop := Paired fun p q => p.1 = q.1 /\ H q.2.1 = some (.tup (p.1.map kV)) /\ RelV p.2 q.2.2
section
variable {P : Program} {w : World} {H : Hp} {h : Heap} {a : Addr}
theorem rd_of {u : HO} (ok : HOk P w H h) (e : Rd H a u) : ObjOk P w H h a u := e.ok ok
theorem dk_rd {kvs : List (Key × V)} (ok : HOk P w H h) (e : Rd H a (.dK kvs)) : kvs.length <= sizeLine /\ (a == sysModules) = false /\ ∃ vs, KV kvs vs /\ h.DictOf (mixKind P w) a vs :=
  show ObjOk P w H h a (.dK kvs) from rd_of ok e
theorem key_of {ks : List Key} (ok : HOk P w H h) (e : H a = some (.tup (ks.map kV))) : (tupleKind (mixKind P w)).is h ks a := by
  obtain ⟨_, its, r, o, h1, h2, n, h3⟩ := (show ObjOk P w H h a (.tup (ks.map kV)) from ok a _ e); exact ⟨o, its.toArray, n, h1, h2, h3, by simpa using items_are r⟩
theorem dt_rd {kvs : List (List Key × V)} (ok : HOk P w H h) (e : Rd H a (.dT kvs)) : kvs.length <= sizeLine /\ (a == sysModules) = false /\
 ∃ xs, KT H kvs xs /\ h.DictOfH (tupleKind (mixKind P w)) a xs := by
  obtain ⟨z, y, xs, r, o, es, ep, h1, h2, h3, h4, h5⟩ := (show ObjOk P w H h a (.dT kvs) from rd_of ok e); refine ⟨z, y, xs, r, o, es, ep, h1, h2, h3, h4, fun x hx => ?_, h5⟩; have all : ∀ {l : List (List Key × V)} {m : List (List Key × Addr × Value)}, KT H l m -> ∀ x ∈ m, (tupleKind (mixKind P w)).is h x.1 x.2.1 := by
    intro l m q
    induction q with
    | nil => intro x hx; exact nomatch hx
    | @cons p q ps qs hq t ih =>
      intro x hx
      rcases List.mem_cons.mp hx with e | hx
      · subst e
        exact key_of ok (by rw [<- hq.1]; exact hq.2.1)
      · exact ih x hx
  exact all r x hx
end
section
variable {X : Cx} {pins : List (Addr × Obj)} {σ : St} {H : Hp} {s : Shared} {a : Addr} {y v : V} {u r : Value} {o : Option V} {A : Around} {E : Value -> Shared -> Prop}
end
section
variable {X : Cx} {pins : List (Addr × Obj)} {σ : St} {H : Hp} {s : Shared} {a : Addr} {kvs : List (Key × V)} {k : Key} {u : Value} {A : Around} {E : Value -> Shared -> Prop}
end
def NoSl (i : Expr) : Prop := ∀ ov iv, subscripted i false ov iv = operate [ov, iv] (getItem ov iv)
theorem subD_of {prog : Program} {w : World} {A : Around} {E : Value -> Shared -> Prop} {s : Shared} {env : Env} {value slice : Expr} {pos : Pos} {T id : String} {Q : Value -> Shared -> Prop}
 (hl : typeLookup (.type T) "__getitem__" = pure (some (.builtin id))) (hs : NoSl slice)
 (h : wpAny (model prog w) A (eval value env) (fun o s₁ => wpAny (model prog w) A (eval slice env) (fun i s₂ => s₂.TypeIs o T /\ wpAny (model prog w) A (getItem o i) Q E s₂) E s₁) E s) :
 wpAny (model prog w) A (eval (.Subscript value slice pos) env) Q E s := by
  refine Subscript_ (wpAny_mono h (fun o s₁ h₁ => wpAny_mono h₁ (fun i s₂ h₂ => ?_) fun _ _ x => x) fun _ _ x => x); obtain ⟨hT, h₂⟩ := h₂; unfold subscriptTail; refine wpAny_bind ?_; rw [getitemInPython_of_ne hT.not_modules]; refine wpAny_bind (wpAny_specialOf hT hl ?_); have fin : wpAny (model prog w) A (subscripted slice false o i) (fun r s₃ => wpAny (model prog w) A (letTemporaryGo value o r >>= fun _ => pure r) Q E s₃) E s₂ := by
    rw [hs o i]; exact wpAny_operating (wpAny_mono h₂ (fun r s₃ h₃ => wpAny_bind (wpAny_letTemporaryGo (wpAny_pure h₃))) fun _ _ x => x)
  first
    | exact wpAny_pure (wpAny_bind fin)
    | exact wpAny_bind (wpAny_pure (wpAny_bind fin))
    | exact wpAny_bind fin
section
variable {X : Cx} {o i e value : Expr} {pos pos' tpos : Pos} {td ty tv : TE}
end
section
variable {X : Cx} {pos : Pos}
end
structure M1 (X : Cx) (o : Expr) (m : Str) (apos : Pos) (e : Expr) (cpos : Pos) : Prop where
  base : attributeBase o m X.env (eval o X.env) = eval o X.env
  few : ((backTo cpos (starEach [e] X.env)).all (fun x => !x.1) && (backToKw cpos (keywordEach [] X.env)).all (fun x => x.1.isSome)
    && decide (([e] : List Expr).length + ([] : List Keyword).length + (if ([] : List Keyword).isEmpty then 0 else 1) < 30)) = true
  line : (apos.endLine == cpos.line) = true
  trees : backTo cpos (starEach [e] X.env) = [(false, eval e X.env)]
structure M2 (X : Cx) (o : Expr) (m : Str) (apos : Pos) (e f : Expr) (cpos : Pos) : Prop where
  base : attributeBase o m X.env (eval o X.env) = eval o X.env
  few : ((backTo cpos (starEach [e, f] X.env)).all (fun x => !x.1) && (backToKw cpos (keywordEach [] X.env)).all (fun x => x.1.isSome)
    && decide (([e, f] : List Expr).length + ([] : List Keyword).length + (if ([] : List Keyword).isEmpty then 0 else 1) < 30)) = true
  line : (apos.endLine == cpos.line) = true
  trees : backTo cpos (starEach [e, f] X.env) = [(false, eval e X.env), (false, eval f X.env)]
section
variable {X : Cx} {pins : List (Addr × Obj)} {σ : St} {H : Hp} {s : Shared} {a : Addr} {y d : V} {u r : Value} {o : Option V} {A : Around} {E : Value -> Shared -> Prop}
end
section
variable {X : Cx} {o e f : Expr} {apos cpos : Pos} {td ty tx : TE}
end
section
variable {X : Cx} {pins : List (Addr × Obj)} {σ : St} {H : Hp} {s : Shared} {a : Addr} {kvs : List (Key × V)} {A : Around} {E : Value -> Shared -> Prop}
end
section
variable {X : Cx} {pins : List (Addr × Obj)} {σ : St} {H : Hp} {s : Shared} {a : Addr} {y : V} {u : Value} {A : Around} {E : Value -> Shared -> Prop}
end
end L2
namespace Att
open PySem PySem.W PySem.Calls PyProof.Rows
theorem ints_of_wellAll {P : Params} {h : Heap} : ∀ (ns : List Int) (vs : List Value), WellAll P h vs (ns.map WData.int) -> IntsAre vs ns := by
  intro ns
  induction ns with
  | nil =>
    intro vs w; rw [List.map_nil] at w; cases w; exact .nil
  | cons n ns ih =>
    intro vs w; rw [List.map_cons] at w
    cases w with
    | cons a b =>
      cases a; exact .cons _ _ (ih _ b)
theorem script_of {l : OpenLaw} {n : Nat} (hn : l.most = some n) {P : Params} {h : Heap} {args : List WData} {vals : List Value}
 (hpre : l.row.toRowW.claim.pre args = true) (hwl : WellAll P h vals args) :
 ∃ a vs ns, vals = [Value.ref a] /\ args = [WData.list (ns.map WData.int)] /\ h.get? a = some { cls := .type "list", data := .seq vs.toArray } /\ IntsAre vs ns /\ ns.length <= n := by
  have hsh : WShape.hasAll [] args [.list .int] = true := (pre_splitW hpre).1; have hc : l.pre.holds [] { args := args } = true := (pre_splitW hpre).2; obtain ⟨d, r, rfl, h1, h2⟩ := hasAllW_cons hsh; obtain rfl := hasAllW_nil h2; obtain ⟨xs, rfl, h3⟩ := hasW_list h1; obtain ⟨ns, rfl⟩ := items_int h3; have hlen : ns.length <= n := by
    unfold OpenLaw.pre at hc; have h4 : (WTm.not (.lt (.lit (.int (n : Int))) (.len (.arg 0)))).holds [] { args := [.list (ns.map .int)] } = true := by
      have h4 := (holds_andW hc).1; rw [hn] at h4; exact h4
    have h5 := condW_of h4 (w_not (w_lt w_lit (w_len_list (w_arg rfl)))); rw [List.length_map] at h5; refine Nat.le_of_not_lt fun q => ?_
    have q' : (n : Int) < ((ns.length : Nat) : Int) := by omega
    first
      | (rw [decide_eq_true q'] at h5; exact absurd h5 (by decide))
      | (simp at h5; omega)
  cases hwl with
  | cons w1 w2 =>
    cases w2
    cases w1 with
    | list ho hall => exact ⟨_, _, ns, rfl, rfl, ho, ints_of_wellAll ns _ hall, hlen⟩
theorem post_true (l : OpenLaw) (args : List WData) : l.row.toRowW.claim.post args (.bool true) args = true :=
  postW_of (r := l.row.toRowW) (X := (true == true))
    (show WShape.has [] (.bool true) .bool = true by first | rfl | decide | simp [WShape.has, WShape.arms, WShape.armsAll])
    (show (WTm.eq .res (.lit (.bool true))).value [] { args := args, res := some (.bool true), after := args } = some (.bool (true == true)) from w_eq_bool (w_res rfl) w_lit) rfl
theorem attach_call {l : OpenLaw} {n : Nat} {q : Program} {loose : List Str} {XP : (Str -> Option Value) -> Heap -> Prop} {YP : World -> Heap -> Prop} {d : DefRec}
 (hn : l.most = some n) (hdf : d.params.defaults = [])
 (call : ∀ (w : World) (s₀ s₁ : Shared) (mg mb : Str -> Option Value) (fa : Addr) (o : Obj) (pm cd doc : Value) (a : Addr) (vs : List Value) (ns : List Int),
 Ground q loose [] XP w s₀ mg mb s₁.heap -> YP w s₁.heap ->
 s₁.heap.get? fa = some o -> o.data = .func (docDef d.name d.params d.body d.scope pm cd doc) -> s₁.heap.CodeRec cd d.name -> mg d.name = some (.ref fa) ->
 s₁.heap.get? a = some { cls := .type "list", data := .seq vs.toArray } -> IntsAre vs ns -> ns.length <= n -> s₁.gens = #[] ->
 codeAny (model l.prog w) callerA (.call (.ref fa) ⟨[.ref a], []⟩) (fun r s' => r = .ok (.ret (.bool true)) /\ OldK s₁.heap s'.heap /\ s'.os = s₁.os /\ AllBare s'.gens) s₁) :
 WalkO q loose XP YP l.row.toRowW d [] (fun f vs => PySem.call f vs) := by
  intro w s₀ s₁ mg mb G Y fa o pm cd doc dV kV ho hd hcd hD hmg hg args vals as hpre hlay hrd hwl hlo; obtain rfl : dV = .none := Dflts.none hD hdf; obtain rfl : kV = .none := Dflts.noKw hD; obtain ⟨a, vs, ns, rfl, rfl, hobj, hints, hlen⟩ := script_of hn hpre hwl; refine enter_call (codeAny_mono (call w s₀ s₁ mg mb fa o pm cd doc a vs ns G Y ho (fd_plain hd) hcd hmg hobj hints hlen hg) fun r s' hq => ?_); obtain ⟨rfl, h2, h3, h4⟩ := hq; exact ⟨.inl ⟨.bool true, .bool true, [], rfl, fun _ => rfl, .bool true, post_true l _, fun _ => ⟨List.Pairwise.nil, fun _ hm => (nomatch hm)⟩⟩, h2, h3, h4⟩
section
variable {prog : Program} {w : World} {A : Around} {E : Value -> Shared -> Prop} {s : Shared} {K : Frag}
def ledger (h : Heap) (L d : Addr) : List (Addr × Obj) := (List.range h.objs.size).filterMap fun a => if a = L \/ a = d then none else (h.get? a).map fun o => (a, o)
end
end Att
namespace L2
open PySem PySem.Spec PyProof.Rows
theorem vals_ints : ∀ {vs : List Value} {ns : List Int}, IntsAre vs ns -> Vals (ns.map V.int) vs
  | _, _, .nil => .nil
  | _, _, .cons n t h => .cons ⟨t, rfl⟩ (vals_ints h)
def Only (H : Hp) : Prop := ∀ b, H b = none \/ ∃ o xs, H b = some (.frz o (.lst xs))
theorem law_call {P : Program} {w : World} {K : PySem.W.Frag} {mg mb : Str -> Option Value} {CX : CXT} {k : Nat} {fa a : Addr} {fd : FuncData} {x : Str} {sp : Sp} {s₁ : Shared} {vs : List Value} {ns : List Int}
 (KX : K.In s₁.heap) (hns : s₁.heap.Ns mainGlobals mg) (hb : s₁.heap.Ns builtinsNs mb) (hbb : ∀ x : Str, x ≠ "__name__" -> mb x = bootBuiltins x) (hlim : s₁.heap.NoLimit) (hg : s₁.gens = #[])
 (ha : s₁.heap.get? a = some { cls := .type "list", data := .seq vs.toArray }) (hi : IntsAre vs ns) (hl : ns.length <= sizeLine) (hr : Room k callerA)
 (F : ∀ base : Heap, K.In base -> base.Ns mainGlobals mg -> FnOk P w K mg base CX k fa fd [x] sp) (hbind : ∀ (s : Shared) (u : Value), BindsTo s fd ⟨[u], []⟩ [(x, u)])
 (hsp : ∀ H : Hp, Only H -> SqL K H a (ns.map V.int) -> sp [.ref a] H (fun v _ => v = .bl true) fun _ _ _ => False)
 (hCX : ∀ H e s', CX [] H s₁ (fun _ _ _ => False) e s' -> False) :
 codeAny (model P w) callerA (.call (.ref fa) ⟨[.ref a], []⟩) (fun r s' => r = .ok (.ret (.bool true)) /\ OldK s₁.heap s'.heap /\ s'.os = s₁.os /\ AllBare s'.gens) s₁ := by
  have rv := vals_ints hi; have lenV := hi.length; have core : ∀ H : Hp, Only H -> SqL K H a (ns.map V.int) -> HOk P w H s₁.heap -> (∀ b, H b ≠ none -> b = a) -> (H a ≠ none -> K.lookup a = none) ->
      codeAny (model P w) callerA (.call (.ref fa) ⟨[.ref a], []⟩) (fun r s' => r = .ok (.ret (.bool true)) /\ OldK s₁.heap s'.heap /\ s'.os = s₁.os /\ AllBare s'.gens) s₁ := by
    intro H hO hS hok hA hK; have base_of : ∀ {b : Addr} {o : Obj}, s₁.heap.get? b = some o -> H b = none -> (hidT s₁.heap H).get? b = some o := fun e n => hidT_get e n
    have noA : ∀ {b : Addr} {o : Obj} {es : Array DictEntry} {ep : Nat}, s₁.heap.get? b = some o -> o.data = .dict es ep -> H b = none := fun {b o es ep} e d => by
      cases q : H b with
      | none => rfl
      | some u =>
        have e' : b = a := hA b (by rw [q]; simp); subst e'; rw [ha] at e; cases e; have d' : Data.seq vs.toArray _ = Data.dict es ep := d; cases d'
    have nsK : ∀ {b : Addr} {m : Str -> Option Value}, s₁.heap.Ns b m -> (hidT s₁.heap H).Ns b m := fun {b m} ⟨o, es, ep, e, d, r⟩ => ⟨o, es, ep, base_of e (noA e d), d, r⟩
    have hKb : K.In (hidT s₁.heap H) := fun b o e => base_of (KX b o e) (by
      cases q : H b with
      | none => rfl
      | some u =>
        have e' : b = a := hA b (by rw [q]; simp); subst e'
        rw [hK (by rw [q]; simp)] at e; cases e)
    have hM : Mod K mg (hidT s₁.heap H) := ⟨hKb, nsK hns, ⟨mb, nsK hb, hbb⟩, let ⟨mc, h1, h2⟩ := hlim; ⟨mc, nsK h1, h2⟩⟩; have e0 : Env0 P w K mg (hidT s₁.heap H) callerA [] s₁ H := ⟨rfl, hM, fun b o e => of_hidT e, Nat.le_of_eq (hidT_size _ _), trivial, fun b hb => absurd (show b ∈ ([] : List Addr) from hb) (by simp), hok, .of_eq hg⟩; refine codeAny_mono ((F _ hKb (nsK hns)).run callerA [] s₁ H ⟨[.ref a], []⟩ [.ref a] [.ref a] _ _ hr e0 (hbind s₁ (.ref a)) (.cons rfl .nil) (hsp H hO hS)) fun r s' h => ?_
    cases r with
    | error e => exact (hCX H e s' h).elim
    | ok fl =>
      cases fl with
      | next => exact False.elim h
      | brk => exact False.elim h
      | cont => exact False.elim h
      | ret u =>
        obtain ⟨v, H', os, bare, un, hok', r', q⟩ := h; have q' : v = .bl true := q; subst q'; obtain rfl : u = Value.bool true := r'; refine ⟨rfl, OldK.of_keep fun b o e => ?_, os, bare⟩
        cases q : H b with
        | none => exact un.keep b o e q (by intro z; exact absurd (show b ∈ ([] : List Addr) from z) (by simp)) (by simp)
        | some u =>
          rcases hO b with z | ⟨ob, xs, z⟩
          · rw [q] at z; cases z
          · have z2 := un.frzs b ob _ z
            obtain ⟨e1, _⟩ := hok b _ z; obtain ⟨e2, _⟩ := hok' b _ z2; rw [e] at e1; cases e1; exact e2
  cases hk : K.lookup a with
  | some o =>
    have e := KX a o hk; rw [ha] at e; cases e; refine core (fun _ => none) (fun _ => .inl rfl) (.inr ⟨_, vs.toArray, _, hk, rfl, rfl, rfl, by rw [List.size_toArray, lenV]; exact hl, by simpa using rv⟩) (fun b u z => by have z' : (none : Option HO) = some u := z; cases z') (fun b z => absurd rfl z) fun z => absurd rfl z
  | none =>
    refine core (fun b => if b = a then some (.frz { cls := .type "list", data := .seq vs.toArray } (.lst (ns.map V.int))) else none) (fun b => ?_) (.inl (.inr ⟨{ cls := .type "list", data := .seq vs.toArray }, if_pos rfl⟩)) (fun b u z => ?_) (fun b z => ?_) fun _ => hk
    · by_cases hb : b = a
      · exact .inr ⟨_, _, if_pos hb⟩
      · exact .inl (if_neg hb)
    · by_cases hb : b = a
      · have z' := (if_pos hb).symm.trans z
        cases z'; subst hb; exact ⟨ha, by rw [List.length_map]; exact hl, vs, _, rv, ha⟩
      · have z' := (if_neg hb).symm.trans z
        cases z'
    · by_cases hb : b = a
      · exact hb
      · exact absurd (if_neg hb) z
theorem walk_of {l : PySem.W.OpenLaw} {n k : Nat} {q : Program} {loose : List Str} {XP : (Str -> Option Value) -> Heap -> Prop} {YP : World -> Heap -> Prop} {d : DefRec} {K : Params -> PySem.W.Frag} {CX : World -> CXT} {sp : World -> Sp} {x : Str}
 (hn : l.most = some n) (hn2 : n <= sizeLine) (hdf : d.params.defaults = []) (hr : Room k callerA)
 (hY : ∀ (w : World) (h : Heap), YP w h -> (K w.params).In h)
 (F : ∀ (w : World) (mg : Str -> Option Value) (fa : Addr) (h : Heap), (K w.params).In h -> h.Ns mainGlobals mg -> mg d.name = some (.ref fa) ->
 ∃ fd : FuncData, (∀ (s : Shared) (u : Value), BindsTo s fd ⟨[u], []⟩ [(x, u)]) /\
 ∀ base : Heap, (K w.params).In base -> base.Ns mainGlobals mg -> FnOk l.prog w (K w.params) mg base (CX w) k fa fd [x] (sp w))
 (hsp : ∀ (w : World) (H : Hp) (a : Addr) (ns : List Int), ns.length <= n -> Only H -> SqL (K w.params) H a (ns.map V.int) -> sp w [.ref a] H (fun v _ => v = .bl true) fun _ _ _ => False)
 (hCX : ∀ (w : World) (H : Hp) (s : Shared) (e : Value) (s' : Shared), CX w [] H s (fun _ _ _ => False) e s' -> False) :
 PySem.W.WalkO q loose XP YP l.row.toRowW d [] (fun f vs => PySem.call f vs) := by
  refine Att.attach_call hn hdf fun w s₀ s₁ mg mb fa o pm cd doc a vs ns G Y ho hd hcd hmg hobj hints hlen hg => ?_
  have KX := hY w _ Y; obtain ⟨fd, hb, hF⟩ := F w mg fa _ KX G.T.g hmg; exact law_call KX G.T.g G.T.b G.T.builtins G.T.nolimit hg hobj hints (Nat.le_trans hlen hn2) hr hF hb (fun H hO hS => hsp w H a ns hlen hO hS) fun H e s' => hCX w H s₁ e s'
def defArgs (s : Stmt) : Arguments := match s with
  | .FunctionDef _ a _ _ _ _ _ _ _ _ => a
  | _ => { posonlyargs := [], args := [], vararg := none, kwonlyargs := [], kw_defaults := [], kwarg := none, defaults := [] }
def defBody (s : Stmt) : List Stmt := match s with
  | .FunctionDef _ _ b _ _ _ _ _ _ _ => b
  | _ => []
def defScope (s : Stmt) : Scope := match s with
  | .FunctionDef _ _ _ _ _ _ sc _ _ _ => sc
  | _ => { kind := .function, names := [], isGenerator := false, isCoroutine := false }
abbrev CX0 : CXT := fun _ _ _ _ _ _ => False
abbrev E0 : XK := fun _ _ _ => False
structure Fun (K : PySem.W.Frag) (x qual : Str) (st : Stmt) (f : Addr) (fd : FuncData) : Prop where
  ex : ∃ (oc : Value) (od : Option Addr) (kV doc pm : Value) (an : Option Addr) (cdv ct : Value) (osl : Array (Option Value)),
    fd = PySem.W.fnOf x qual (defArgs st) (defBody st) (defScope st) .none kV doc pm an cdv ct /\ K.lookup f = some ⟨oc, od, .func fd, osl⟩ /\ PySem.W.codeIn K cdv qual = true
  kp : PySem.W.keepIn K (.ref f) = true
section
variable {P : Program} {w : World} {K : PySem.W.Frag} {mg : Str -> Option Value} {base : Heap}
theorem Fun.ok {x qual : Str} {st : Stmt} {f : Addr} {fd : FuncData} {N ps : List Str} {k : Nat} {sp : Sp} (F : Fun K x qual st f fd) (S : FnScope N ps (defScope st)) (len : ∀ vs H Q E, sp vs H Q E -> vs.length = ps.length)
 (hbody : ∀ (cdv : Value) (A : Around) (outer : List Env) (s : Shared) (H : Hp) (vs : List V) (Q : VK) (E : XK), Room k (A.deeper (envOfC qual (defScope st) s.heap.objs.size f cdv)) -> sp vs H Q E ->
 ∃ t, PSs (cxOf CX0 P w K mg base N qual (defScope st) f cdv A outer s H E).nox (defBody st) t /\ t { nx := fun _ H' => Q .non H', rt := Q } (start N vs) H) : FnOk P w K mg base CX0 (k + 1) f fd ps sp := by
  obtain ⟨oc, od, kV, doc, pm, an, cdv, ct, osl, rfl, lk, hcd⟩ := F.ex; refine fn_of lk hcd S len fun A outer s H vs Q E hr hsp => ?_
  obtain ⟨t, h, q⟩ := hbody cdv A outer s H vs Q E hr hsp; exact ⟨t, h.nox, q⟩
theorem Fun.binds {x qual : Str} {st : Stmt} {f : Addr} {fd : FuncData} {ps : List Str} (F : Fun K x qual st f fd)
 (h : ∀ (kV doc pm : Value) (an : Option Addr) (cdv ct : Value) (us : List Value), us.length = ps.length -> bindArgs (PySem.W.fnOf x qual (defArgs st) (defBody st) (defScope st) .none kV doc pm an cdv ct) ⟨us, []⟩ = pure (ps.zip us)) : Binds K fd ps [] := by
  obtain ⟨oc, od, kV, doc, pm, an, cdv, ct, osl, rfl, lk, hcd⟩ := F.ex; exact .all (h kV doc pm an cdv ct)
theorem fun_mk {x qual : Str} {st : Stmt} {f : Addr} {oc : Value} {od an : Option Addr} {osl : Array (Option Value)} {kV doc pm cdv ct : Value} (l : K.lookup f = some ⟨oc, od, .func (PySem.W.fnOf x qual (defArgs st) (defBody st) (defScope st) .none kV doc pm an cdv ct), osl⟩)
 (c : PySem.W.codeIn K cdv qual = true) (k : PySem.W.keepIn K (.ref f) = true) : Fun K x qual st f (PySem.W.fnOf x qual (defArgs st) (defBody st) (defScope st) .none kV doc pm an cdv ct) := ⟨⟨oc, od, kV, doc, pm, an, cdv, ct, osl, rfl, l, c⟩, k⟩
end
theorem small1000 {n : Nat} (h : n <= 1000) : n < sizeLine := Nat.lt_of_le_of_lt h (by decide)
section
variable {X : Cx}
end
def Same (H H' : Hp) : Prop := ∀ b o, H b = some o -> H' b = some o
theorem Same.refl (H : Hp) : Same H H := fun _ _ h => h
theorem Same.trans {H H1 H2 : Hp} (a : Same H H1) (b : Same H1 H2) : Same H H2 := fun c o h => b c o (a c o h)
theorem Same.seq {K : PySem.W.Frag} {H H' : Hp} {a : Addr} {xs : List V} (e : Same H H') (h : SqL K H a xs) : SqL K H' a xs := by
  rcases h with (h | ⟨o, h⟩) | h
  · exact .inl (.inl (e _ _ h))
  · exact .inl (.inr ⟨o, e _ _ h⟩)
  · exact .inr h
end L2
set_option maxHeartbeats 4000000
namespace T
open PySem PyProof.Rows
structure Ord (prog : Program) (w : World) (A : Around) (s : Shared) (κ : SortKind) (S : Keyed -> Prop) (lt : Keyed -> Keyed -> Bool) : Prop where
  run : ∀ x y, S x -> S y -> ∀ (E : Value -> Shared -> Prop) (Q : Bool -> Shared -> Prop), Q (lt x y) s -> wpAny (model prog w) A (keyLt' κ x.1 y.1) Q E s
  asym : ∀ x y, S x -> S y -> lt x y = true -> lt y x = false
  le : ∀ x y z, S x -> S y -> S z -> lt y x = false -> lt z y = false -> lt z x = false
section
variable {prog : Program} {w : World} {A : Around} {E : Value -> Shared -> Prop} {s : Shared} {κ : SortKind} {S : Keyed -> Prop} {lt : Keyed -> Keyed -> Bool}
def bs (byd : Nat -> StateT SortSt Sem (Option Bool)) (n lo₀ hi₀ : Nat) : StateT SortSt Sem (Option Nat) := do
  let mut lo := lo₀
  let mut hi := hi₀
  for _ in [0:n] do
    if lo ≥ hi then break
    let m := lo + (hi - lo) / 2
    let some up <- byd m | return none
    if up then lo := m + 1 else hi := m
  return some hi
end
structure Mc (lt : Keyed -> Keyed -> Bool) (a b out : List Keyed) (ia ib : Nat) : Prop where
  perm : (out ++ (a.drop ia ++ b.drop ib)).Perm (a ++ b)
  srt : out.Pairwise fun x y => lt y x = false
  low : ∀ x ∈ out, ∀ y ∈ a.drop ia ++ b.drop ib, lt y x = false
structure Ends (lt : Keyed -> Keyed -> Bool) (a b r : List Keyed) : Prop where
  perm : r.Perm (a ++ b)
  srt : r.Pairwise fun x y => lt y x = false
section
variable {lt : Keyed -> Keyed -> Bool} {a b out : List Keyed} {ia ib : Nat}
end
structure KeepSt (st st' : SortSt) : Prop where
  k : kindOf st' = kindOf st
  a : arrOf st' = arrOf st
  p : pendingOf st' = pendingOf st
  f : failedOf st' = failedOf st
section
variable {prog : Program} {w : World} {A : Around} {E : Value -> Shared -> Prop} {s : Shared} {κ : SortKind} {S : Keyed -> Prop} {lt : Keyed -> Keyed -> Bool}
structure Mf (S : Keyed -> Prop) (lt : Keyed -> Keyed -> Bool) (a b : Array Keyed) : Prop where
  Sa : ∀ i (h : i < a.size), S a[i]
  Sb : ∀ i (h : i < b.size), S b[i]
  sa : ∀ i j (hi : i < a.size) (hj : j < a.size), i <= j -> lt a[j] a[i] = false
  sb : ∀ i j (hi : i < b.size) (hj : j < b.size), i <= j -> lt b[j] b[i] = false
variable {a b out : Array Keyed} {ia ib : Nat}
end
section
variable {prog : Program} {w : World} {A : Around} {E : Value -> Shared -> Prop} {s : Shared} {κ : SortKind} {S : Keyed -> Prop} {lt : Keyed -> Keyed -> Bool}
end
section
variable {prog : Program} {w : World} {A : Around} {E : Value -> Shared -> Prop} {s : Shared} {κ : SortKind} {S : Keyed -> Prop} {lt : Keyed -> Keyed -> Bool} {a b out : Array Keyed} {na nb : Nat}
end
section
variable {prog : Program} {w : World} {A : Around} {E : Value -> Shared -> Prop} {s : Shared} {κ : SortKind} {S : Keyed -> Prop} {lt : Keyed -> Keyed -> Bool}
end
structure Bs (κ : SortKind) (S : Keyed -> Prop) (st : SortSt) : Prop where
  k : kindOf st = κ
  f : failedOf st = none
  S : ∀ x ∈ (arrOf st).toList, S x
section
variable {prog : Program} {w : World} {A : Around} {E : Value -> Shared -> Prop} {s : Shared} {κ : SortKind} {S : Keyed -> Prop} {lt : Keyed -> Keyed -> Bool}
end
section
variable {prog : Program} {w : World} {A : Around} {E : Value -> Shared -> Prop} {s : Shared} {κ : SortKind} {S : Keyed -> Prop} {lt : Keyed -> Keyed -> Bool}
end
section
variable {prog : Program} {w : World} {A : Around} {E : Value -> Shared -> Prop} {s : Shared} {κ : SortKind} {S : Keyed -> Prop} {lt : Keyed -> Keyed -> Bool}
end
inductive Pend : Nat -> List (Nat × Nat × Nat) -> List (List Keyed) -> Prop where
  | nil {o : Nat} : Pend o [] []
  | cons {o p : Nat} {r : List Keyed} {ps : List (Nat × Nat × Nat)} {rs : List (List Keyed)} (h : Pend (o + r.length) ps rs) : Pend o ((o, r.length, p) :: ps) (r :: rs)
section
variable {prog : Program} {w : World} {A : Around} {E : Value -> Shared -> Prop} {s : Shared} {κ : SortKind} {S : Keyed -> Prop} {lt : Keyed -> Keyed -> Bool}
structure Rn (κ : SortKind) (S : Keyed -> Prop) (lt : Keyed -> Keyed -> Bool) (a₀ : List Keyed) (st : SortSt) (runs : List (List Keyed)) (rest : List Keyed) : Prop where
  b : Bs κ S st
  perm : (arrOf st).toList.Perm a₀
  arr : (arrOf st).toList = runs.flatten ++ rest
  pend : Pend 0 (pendingOf st).toList runs
  srt : ∀ r ∈ runs, r.Pairwise (fun x y => lt y x = false) /\ 0 < r.length
end
section
variable {prog : Program} {w : World} {A : Around} {E : Value -> Shared -> Prop} {s : Shared} {κ : SortKind} {S : Keyed -> Prop} {lt : Keyed -> Keyed -> Bool} {a₀ : List Keyed} {st : SortSt} {runs : List (List Keyed)} {rest : List Keyed}
end
end T
namespace M
open PySem PySem.Spec PyProof.Rows L2
inductive D where
  | non | bl (b : Bool) | int (i : Int) | str (x : Str) | tup (xs : List D) | lst (xs : List D)
  | dK (kvs : List (Key × D)) | dT (kvs : List (List Key × D)) | adr (p : Addr)
mutual
def Rep (K : PySem.W.Frag) (H : Hp) : D -> V -> Prop
  | .non, v => v = .non
  | .bl b, v => v = .bl b
  | .int i, v => v = .int i
  | .str x, v => v = .str x
  | .adr p, v => v = .ref p
  | .tup xs, v => ∃ a vs, v = .ref a /\ H a = some (.tup vs) /\ Reps K H xs vs
  | .lst xs, v => ∃ a vs, v = .ref a /\ SqL K H a vs /\ Reps K H xs vs
  | .dK kvs, v => ∃ a kws, v = .ref a /\ Rd H a (.dK kws) /\ RepK K H kvs kws
  | .dT kvs, v => ∃ a kws, v = .ref a /\ Rd H a (.dT kws) /\ RepT K H kvs kws
def Reps (K : PySem.W.Frag) (H : Hp) : List D -> List V -> Prop
  | [], vs => vs = []
  | d :: ds, vs => ∃ v r, vs = v :: r /\ Rep K H d v /\ Reps K H ds r
def RepK (K : PySem.W.Frag) (H : Hp) : List (Key × D) -> List (Key × V) -> Prop
  | [], ws => ws = []
  | (k, d) :: r, ws => ∃ v q, ws = (k, v) :: q /\ Rep K H d v /\ RepK K H r q
def RepT (K : PySem.W.Frag) (H : Hp) : List (List Key × D) -> List (List Key × V) -> Prop
  | [], ws => ws = []
  | (k, d) :: r, ws => ∃ v q, ws = (k, v) :: q /\ Rep K H d v /\ RepT K H r q
end
theorem same_rd {H H' : Hp} {a : Addr} {u : HO} (e : Same H H') (h : Rd H a u) : Rd H' a u := h.elim (fun z => .inl (e _ _ z)) fun ⟨o, z⟩ => .inr ⟨o, e _ _ z⟩
theorem seqT {K : PySem.W.Frag} {H H' : Hp} {a : Addr} {xs : List V} (e : Same H H') (h : SqT K H a xs) : SqT K H' a xs := by
  rcases h with (h | ⟨o, h⟩) | h
  · exact .inl (.inl (e _ _ h))
  · exact .inl (.inr ⟨o, e _ _ h⟩)
  · exact .inr h
mutual
theorem Rep.mono {K : PySem.W.Frag} {H H' : Hp} (e : Same H H') : ∀ (d : D) (v : V), Rep K H d v -> Rep K H' d v
  | .non, v, h => by simpa only [Rep] using h
  | .bl b, v, h => by simpa only [Rep] using h
  | .int i, v, h => by simpa only [Rep] using h
  | .str x, v, h => by simpa only [Rep] using h
  | .adr x, v, h => by simpa only [Rep] using h
  | .tup xs, v, h => by
    simp only [Rep] at h ⊢; obtain ⟨a, vs, h1, h2, h3⟩ := h; exact ⟨a, vs, h1, e _ _ h2, Reps.mono e xs vs h3⟩
  | .lst xs, v, h => by
    simp only [Rep] at h ⊢; obtain ⟨a, vs, h1, h2, h3⟩ := h; exact ⟨a, vs, h1, e.seq h2, Reps.mono e xs vs h3⟩
  | .dK kvs, v, h => by
    simp only [Rep] at h ⊢; obtain ⟨a, vs, h1, h2, h3⟩ := h; exact ⟨a, vs, h1, same_rd e h2, RepK.mono e kvs vs h3⟩
  | .dT kvs, v, h => by
    simp only [Rep] at h ⊢; obtain ⟨a, vs, h1, h2, h3⟩ := h; exact ⟨a, vs, h1, same_rd e h2, RepT.mono e kvs vs h3⟩
theorem Reps.mono {K : PySem.W.Frag} {H H' : Hp} (e : Same H H') : ∀ (ds : List D) (vs : List V), Reps K H ds vs -> Reps K H' ds vs
  | [], vs, h => by simpa only [Reps] using h
  | d :: ds, vs, h => by
    simp only [Reps] at h ⊢; obtain ⟨v, r, h1, h2, h3⟩ := h; exact ⟨v, r, h1, Rep.mono e d v h2, Reps.mono e ds r h3⟩
theorem RepK.mono {K : PySem.W.Frag} {H H' : Hp} (e : Same H H') : ∀ (ds : List (Key × D)) (vs : List (Key × V)), RepK K H ds vs -> RepK K H' ds vs
  | [], vs, h => by simpa only [RepK] using h
  | (k, d) :: ds, vs, h => by
    simp only [RepK] at h ⊢; obtain ⟨v, r, h1, h2, h3⟩ := h; exact ⟨v, r, h1, Rep.mono e d v h2, RepK.mono e ds r h3⟩
theorem RepT.mono {K : PySem.W.Frag} {H H' : Hp} (e : Same H H') : ∀ (ds : List (List Key × D)) (vs : List (List Key × V)), RepT K H ds vs -> RepT K H' ds vs
  | [], vs, h => by simpa only [RepT] using h
  | (k, d) :: ds, vs, h => by
    simp only [RepT] at h ⊢; obtain ⟨v, r, h1, h2, h3⟩ := h; exact ⟨v, r, h1, Rep.mono e d v h2, RepT.mono e ds r h3⟩
end
section
variable {K : PySem.W.Frag} {H : Hp}
theorem Reps.length : ∀ {ds : List D} {vs : List V}, Reps K H ds vs -> ds.length = vs.length
  | [], vs, h => by simp only [Reps] at h; subst h; rfl
  | d :: ds, vs, h => by
    simp only [Reps] at h; obtain ⟨v, r, rfl, _, h3⟩ := h; simp [Reps.length h3]
theorem Reps.get : ∀ {ds : List D} {vs : List V} {i : Nat} {d : D}, Reps K H ds vs -> ds[i]? = some d -> ∃ v, vs[i]? = some v /\ Rep K H d v
  | [], _, _, _, _, e => by simp at e
  | d :: ds, vs, 0, d', h, e => by
    simp only [Reps] at h; obtain ⟨v, r, rfl, h2, h3⟩ := h; simp at e; subst e; exact ⟨v, rfl, h2⟩
  | d :: ds, vs, i + 1, d', h, e => by
    simp only [Reps] at h; obtain ⟨v, r, rfl, h2, h3⟩ := h
    simpa using Reps.get h3 (by simpa using e)
theorem Reps.getV : ∀ {ds : List D} {vs : List V} {i : Nat} {v : V}, Reps K H ds vs -> vs[i]? = some v -> ∃ d, ds[i]? = some d /\ Rep K H d v
  | [], vs, _, _, h, e => by simp only [Reps] at h; subst h; simp at e
  | d :: ds, vs, 0, d', h, e => by
    simp only [Reps] at h; obtain ⟨v, r, rfl, h2, h3⟩ := h; simp at e; subst e; exact ⟨d, rfl, h2⟩
  | d :: ds, vs, i + 1, d', h, e => by
    simp only [Reps] at h; obtain ⟨v, r, rfl, h2, h3⟩ := h
    simpa using Reps.getV h3 (by simpa using e)
theorem Reps.cons {d : D} {v : V} {ds : List D} {vs : List V} (h : Rep K H d v) (t : Reps K H ds vs) : Reps K H (d :: ds) (v :: vs) := by
  simp only [Reps]; exact ⟨v, vs, rfl, h, t⟩
theorem Reps.nil : Reps K H [] [] := by simp only [Reps]
theorem Reps.append : ∀ {ds es : List D} {vs ws : List V}, Reps K H ds vs -> Reps K H es ws -> Reps K H (ds ++ es) (vs ++ ws)
  | [], es, vs, ws, h, k => by simp only [Reps] at h; subst h; exact k
  | d :: ds, es, vs, ws, h, k => by
    simp only [Reps] at h; obtain ⟨v, r, rfl, h2, h3⟩ := h; exact Reps.cons h2 (Reps.append h3 k)
theorem Reps.take : ∀ {ds : List D} {vs : List V} (n : Nat), Reps K H ds vs -> Reps K H (ds.take n) (vs.take n)
  | _, _, 0, _ => by simp [Reps]
  | [], vs, n + 1, h => by simp only [Reps] at h; subst h; simp [Reps]
  | d :: ds, vs, n + 1, h => by
    simp only [Reps] at h; obtain ⟨v, r, rfl, h2, h3⟩ := h; exact Reps.cons h2 (Reps.take n h3)
theorem Reps.drop : ∀ {ds : List D} {vs : List V} (n : Nat), Reps K H ds vs -> Reps K H (ds.drop n) (vs.drop n)
  | _, _, 0, h => h
  | [], vs, n + 1, h => by simp only [Reps] at h; subst h; simp [Reps]
  | d :: ds, vs, n + 1, h => by
    simp only [Reps] at h; obtain ⟨v, r, rfl, h2, h3⟩ := h; exact Reps.drop n h3
theorem Reps.set : ∀ {ds : List D} {vs : List V} (i : Nat) {d : D} {v : V}, Reps K H ds vs -> Rep K H d v -> Reps K H (ds.set i d) (vs.set i v)
  | [], vs, _, _, _, h, _ => by simp only [Reps] at h; subst h; simp [Reps]
  | d :: ds, vs, 0, d', v', h, k => by
    simp only [Reps] at h; obtain ⟨v, r, rfl, h2, h3⟩ := h; exact Reps.cons k h3
  | d :: ds, vs, i + 1, d', v', h, k => by
    simp only [Reps] at h; obtain ⟨v, r, rfl, h2, h3⟩ := h; exact Reps.cons h2 (Reps.set i h3 k)
theorem Reps.ints : ∀ (ns : List Int), Reps K H (ns.map D.int) (ns.map V.int)
  | [] => Reps.nil
  | n :: ns => Reps.cons (by simp only [Rep]) (Reps.ints ns)
end
inductive Sl where
  | un | fr (d : D) | ow (d : D) | lk (p : Addr) (d : D)
def Own (K : PySem.W.Frag) (G H : Hp) (p : Addr) : D -> Prop
  | .lst ds => ∃ vs, H p = some (.lst vs) /\ Reps K G ds vs
  | .dK kvs => ∃ kws, H p = some (.dK kws) /\ RepK K G kvs kws
  | .dT kvs => ∃ kws, H p = some (.dT kws) /\ RepT K G kvs kws
  | _ => False
theorem Own.mono {K : PySem.W.Frag} {G G' H H' : Hp} {p : Addr} {d : D} (h : Own K G H p d) (e : Same G G') (k : H' p = H p) : Own K G' H' p d := by
  cases d with
  | lst ds => obtain ⟨vs, h1, h2⟩ := h; exact ⟨vs, k.trans h1, Reps.mono e _ _ h2⟩
  | dK ds => obtain ⟨vs, h1, h2⟩ := h; exact ⟨vs, k.trans h1, RepK.mono e _ _ h2⟩
  | dT ds => obtain ⟨vs, h1, h2⟩ := h; exact ⟨vs, k.trans h1, RepT.mono e _ _ h2⟩
  | _ => exact h.elim
def Soft : HO -> Prop
  | .lst _ => True
  | .dK _ => True
  | .dT _ => True
  | _ => False
theorem Own.soft {K : PySem.W.Frag} {G H : Hp} {p : Addr} {d : D} (h : Own K G H p d) : ∃ o, H p = some o /\ Soft o := by
  cases d with
  | lst ds => obtain ⟨vs, h1, h2⟩ := h; exact ⟨_, h1, True.intro⟩
  | dK ds => obtain ⟨vs, h1, h2⟩ := h; exact ⟨_, h1, True.intro⟩
  | dT ds => obtain ⟨vs, h1, h2⟩ := h; exact ⟨_, h1, True.intro⟩
  | _ => exact h.elim
theorem Own.rep {K : PySem.W.Frag} {G G' H : Hp} {p : Addr} {d : D} (h : Own K G H p d) (e : Same G G') (k : G' p = H p) : Rep K G' d (.ref p) := by
  cases d with
  | lst ds => obtain ⟨vs, h1, h2⟩ := h; simp only [Rep]; exact ⟨p, vs, rfl, SqL.of (k.trans h1), Reps.mono e _ _ h2⟩
  | dK ds => obtain ⟨vs, h1, h2⟩ := h; simp only [Rep]; exact ⟨p, vs, rfl, .inl (k.trans h1), RepK.mono e _ _ h2⟩
  | dT ds => obtain ⟨vs, h1, h2⟩ := h; simp only [Rep]; exact ⟨p, vs, rfl, .inl (k.trans h1), RepT.mono e _ _ h2⟩
  | _ => exact h.elim
def Sl.mine : Sl -> Prop
  | .ow _ => True
  | .lk _ _ => True
  | _ => False
def At (σ : L2.St) (δ : List Sl) (i : Nat) (p : Addr) : Prop := ∃ l, δ[i]? = some l /\ l.mine /\ σ[i]? = some (some (.ref p))
structure Hs (K : PySem.W.Frag) (H0 : Hp) (σ : L2.St) (δ : List Sl) (G H : Hp) : Prop where
  len : σ.length = δ.length
  base : Same H0 G
  ex : ∀ b, (G b = H b /\ ∀ i, ¬ At σ δ i b) \/ (G b = none /\ ∃ i, At σ δ i b)
  fr : ∀ (i : Nat) d, δ[i]? = some (.fr d) -> ∃ v, σ[i]? = some (some v) /\ Rep K G d v
  ow : ∀ (i : Nat) d, δ[i]? = some (.ow d) -> ∃ p, σ[i]? = some (some (.ref p)) /\ Own K G H p d
  lk : ∀ (i : Nat) p d, δ[i]? = some (.lk p d) -> σ[i]? = some (some (.ref p)) /\ Own K G H p d
  ne : ∀ i j p, At σ δ i p -> At σ δ j p -> i = j
section
variable {K : PySem.W.Frag} {H0 : Hp} {σ : L2.St} {δ : List Sl} {G H : Hp}
theorem Hs.sub (h : Hs K H0 σ δ G H) : Same G H := fun b o e => by
  rcases h.ex b with ⟨q, _⟩ | ⟨q, _⟩
  · rw [<- q]; exact e
  · rw [q] at e; cases e
theorem Hs.soft (h : Hs K H0 σ δ G H) {i : Nat} {p : Addr} (a : At σ δ i p) : ∃ o, H p = some o /\ Soft o := by
  obtain ⟨l, e1, e2, e3⟩ := a
  cases l with
  | ow d =>
    obtain ⟨q, e4, o⟩ := h.ow i d e1; rw [e3] at e4; cases e4; exact o.soft
  | lk q d =>
    obtain ⟨e4, o⟩ := h.lk i q d e1; rw [e3] at e4; cases e4; exact o.soft
  | _ => exact e2.elim
theorem Hs.hard (h : Hs K H0 σ δ G H) {b : Addr} {o : HO} (e : H b = some o) (n : ¬ Soft o) : G b = some o /\ ∀ i, ¬ At σ δ i b := by
  rcases h.ex b with ⟨q, a⟩ | ⟨q, i, a⟩
  · exact ⟨q.trans e, a⟩
  · obtain ⟨o', e', s⟩ := h.soft a
    rw [e] at e'; cases e'; exact absurd s n
theorem Hs.start {ds : List D} {vs : List V} (h : Reps K H0 ds vs) (n : Nat) : Hs K H0 (vs.map some ++ List.replicate n none) (ds.map Sl.fr ++ List.replicate n .un) H0 H0 := by
  have na : ∀ i p, ¬ At (vs.map some ++ List.replicate n none) (ds.map Sl.fr ++ List.replicate n .un) i p := by
    rintro i p ⟨l, e1, e2, _⟩; have hm := List.mem_of_getElem? e1
    rcases List.mem_append.mp hm with hm | hm
    · obtain ⟨d, _, rfl⟩ := List.mem_map.mp hm
      exact e2
    · have := List.eq_of_mem_replicate hm
      subst this; exact e2
  have fr_at : ∀ (i : Nat) l, (ds.map Sl.fr ++ List.replicate n .un)[i]? = some l -> l = .un \/ ∃ d, l = .fr d /\ ds[i]? = some d := by
    intro i l e
    by_cases hi : i < ds.length
    · rw [List.getElem?_append_left (by simpa using hi), List.getElem?_map] at e
      cases q : ds[i]? with
      | none => rw [q] at e; cases e
      | some d => rw [q] at e; exact .inr ⟨d, (Option.some.inj e).symm, rfl⟩
    · rw [List.getElem?_append_right (by simpa using Nat.le_of_not_lt hi)] at e
      exact .inl (List.eq_of_mem_replicate (List.mem_of_getElem? e))
  refine ⟨by simp [h.length], Same.refl _, fun b => .inl ⟨rfl, fun i => na i b⟩, fun i d e => ?_, fun i d e => ?_, fun i p es e => ?_, fun i j p a _ => absurd a (na i p)⟩
  · rcases fr_at i _ e with z | ⟨d', z, q⟩
    · cases z
    · cases z
      obtain ⟨v, e1, r⟩ := h.get q; refine ⟨v, ?_, r⟩; have hi : i < vs.length := (List.getElem?_eq_some_iff.mp e1).1; rw [List.getElem?_append_left (by simpa using hi), List.getElem?_map, e1]; rfl
  · rcases fr_at i _ e with z | ⟨d', z, q⟩ <;> cases z
  · rcases fr_at i _ e with z | ⟨d', z, q⟩ <;> cases z
end
section
variable {K : PySem.W.Frag} {H0 : Hp} {σ : L2.St} {δ : List Sl} {G H : Hp}
theorem At.lt {i : Nat} {p : Addr} (a : At σ δ i p) : i < δ.length := by
  obtain ⟨l, e, _⟩ := a; exact (List.getElem?_eq_some_iff.mp e).1
theorem at_set {i j : Nat} {p : Addr} {v : Option V} {l : Sl} (n : j ≠ i) : At (σ.set i v) (δ.set i l) j p ↔ At σ δ j p := by
  unfold At; rw [List.getElem?_set_ne (Ne.symm n), List.getElem?_set_ne (Ne.symm n)]
theorem at_setD {i j : Nat} {p : Addr} {l : Sl} (n : j ≠ i) : At σ (δ.set i l) j p ↔ At σ δ j p := by
  unfold At; rw [List.getElem?_set_ne (Ne.symm n)]
theorem at_self {i : Nat} {p : Addr} {v : Option V} {l : Sl} (a : At (σ.set i v) (δ.set i l) i p) : l.mine /\ v = some (.ref p) := by
  obtain ⟨l', e1, e2, e3⟩ := a; have h1 : i < (δ.set i l).length := (List.getElem?_eq_some_iff.mp e1).1; have h2 : i < (σ.set i v).length := (List.getElem?_eq_some_iff.mp e3).1; rw [List.length_set] at h1 h2; rw [List.getElem?_set_self h1] at e1; rw [List.getElem?_set_self h2] at e3; cases e1; exact ⟨e2, Option.some.inj e3⟩
theorem at_selfD {i : Nat} {p : Addr} {l : Sl} (a : At σ (δ.set i l) i p) : l.mine := by
  obtain ⟨l', e1, e2, e3⟩ := a; have h1 : i < (δ.set i l).length := (List.getElem?_eq_some_iff.mp e1).1; rw [List.length_set] at h1; rw [List.getElem?_set_self h1] at e1; cases e1; exact e2
theorem Hs.freeze (h : Hs K H0 σ δ G H) {i : Nat} {d : D} (e : δ[i]? = some (.ow d)) : ∃ G', Hs K H0 σ (δ.set i (.fr d)) G' H /\ Same G G' /\ ∃ p, σ[i]? = some (some (.ref p)) /\ Rep K G' d (.ref p) := by
  obtain ⟨p, e1, o⟩ := h.ow i d e; have ai : At σ δ i p := ⟨_, e, True.intro, e1⟩; have hi : i < δ.length := ai.lt; obtain ⟨ob, eo, _⟩ := o.soft; have gp : G p = none := by
    rcases h.ex p with ⟨_, z⟩ | ⟨z, _⟩
    · exact absurd ai (z i)
    · exact z
  have s1 : Same G (upd G p ob) := fun b u q => by rw [upd_ne (ne_of_none q gp)]; exact q
  have r : Rep K (upd G p ob) d (.ref p) := o.rep s1 (by rw [upd_same, eo]); refine ⟨upd G p ob, ⟨by rw [List.length_set]; exact h.len, h.base.trans s1, fun b => ?_, fun j d' q => ?_, fun j d' q => ?_, fun j q' es q => ?_, fun j k b a1 a2 => ?_⟩, s1, p, e1, r⟩
  · by_cases hb : b = p
    · subst hb
      refine .inl ⟨by rw [upd_same, eo], fun j a => ?_⟩
      by_cases hj : j = i
      · subst hj; exact at_selfD a
      · exact hj (h.ne _ _ _ ((at_setD hj).mp a) ai)
    · rcases h.ex b with ⟨z1, z2⟩ | ⟨z1, j, z2⟩
      · refine .inl ⟨by rw [upd_ne hb]; exact z1, fun j a => ?_⟩
        by_cases hj : j = i
        · subst hj; exact at_selfD a
        · exact z2 j ((at_setD hj).mp a)
      · have hj : j ≠ i := fun z => hb (by
          subst z; obtain ⟨_, _, _, w⟩ := z2
          rw [e1] at w; cases w; rfl)
        exact .inr ⟨by rw [upd_ne hb]; exact z1, j, (at_setD hj).mpr z2⟩
  · by_cases hj : j = i
    · subst hj
      rw [List.getElem?_set_self hi] at q; cases q; exact ⟨_, e1, r⟩
    · rw [List.getElem?_set_ne (Ne.symm hj)] at q
      obtain ⟨v, w1, w2⟩ := h.fr j d' q; exact ⟨v, w1, Rep.mono s1 _ _ w2⟩
  · by_cases hj : j = i
    · subst hj
      rw [List.getElem?_set_self hi] at q; cases q
    · rw [List.getElem?_set_ne (Ne.symm hj)] at q
      obtain ⟨v, w1, w2⟩ := h.ow j d' q; exact ⟨v, w1, w2.mono s1 rfl⟩
  · by_cases hj : j = i
    · subst hj
      rw [List.getElem?_set_self hi] at q; cases q
    · rw [List.getElem?_set_ne (Ne.symm hj)] at q
      obtain ⟨w1, w2⟩ := h.lk j q' es q; exact ⟨w1, w2.mono s1 rfl⟩
  · have hj : j ≠ i := fun z => by subst z; exact at_selfD a1
    have hk : k ≠ i := fun z => by subst z; exact at_selfD a2
    exact h.ne j k b ((at_setD hj).mp a1) ((at_setD hk).mp a2)
theorem Hs.put0 (h : Hs K H0 σ δ G H) {i : Nat} {l : Sl} {d : D} {v : V} (e : δ[i]? = some l) (nm : ¬ l.mine) (r : Rep K G d v) : Hs K H0 (σ.set i (some v)) (δ.set i (.fr d)) G H := by
  have hi : i < δ.length := (List.getElem?_eq_some_iff.mp e).1; have his : i < σ.length := by rw [h.len]; exact hi
  have na : ∀ p, ¬ At σ δ i p := fun p ⟨l', e1, e2, _⟩ => by rw [e] at e1; cases e1; exact nm e2
  have na' : ∀ p, ¬ At (σ.set i (some v)) (δ.set i (.fr d)) i p := fun p a => (at_self a).1
  refine ⟨by rw [List.length_set, List.length_set]; exact h.len, h.base, fun b => ?_, fun j d' q => ?_, fun j d' q => ?_, fun j q' es q => ?_, fun j k b a1 a2 => ?_⟩
  · rcases h.ex b with ⟨z1, z2⟩ | ⟨z1, j, z2⟩
    · refine .inl ⟨z1, fun j a => ?_⟩
      by_cases hj : j = i
      · subst hj; exact na' b a
      · exact z2 j ((at_set hj).mp a)
    · have hj : j ≠ i := fun z => by subst z; exact na b z2
      exact .inr ⟨z1, j, (at_set hj).mpr z2⟩
  · by_cases hj : j = i
    · subst hj
      rw [List.getElem?_set_self hi] at q; cases q; exact ⟨v, List.getElem?_set_self his, r⟩
    · rw [List.getElem?_set_ne (Ne.symm hj)] at q ⊢
      exact h.fr j d' q
  · by_cases hj : j = i
    · subst hj
      rw [List.getElem?_set_self hi] at q; cases q
    · rw [List.getElem?_set_ne (Ne.symm hj)] at q ⊢
      exact h.ow j d' q
  · by_cases hj : j = i
    · subst hj
      rw [List.getElem?_set_self hi] at q; cases q
    · rw [List.getElem?_set_ne (Ne.symm hj)] at q ⊢
      exact h.lk j q' es q
  · have hj : j ≠ i := fun z => by subst z; exact na' b a1
    have hk : k ≠ i := fun z => by subst z; exact na' b a2
    exact h.ne j k b ((at_set hj).mp a1) ((at_set hk).mp a2)
def Sl.locked : Sl -> Bool
  | .lk _ _ => true
  | _ => false
theorem Hs.put (h : Hs K H0 σ δ G H) {i : Nat} {l : Sl} {d : D} {v : V} (e : δ[i]? = some l) (nl : l.locked = false) (r : Rep K G d v) : ∃ G', Hs K H0 (σ.set i (some v)) (δ.set i (.fr d)) G' H /\ Same G G' := by
  cases l with
  | lk p d' => cases nl
  | un => exact ⟨G, h.put0 e (fun z => z) r, Same.refl _⟩
  | fr d' => exact ⟨G, h.put0 e (fun z => z) r, Same.refl _⟩
  | ow d' =>
    have hi : i < δ.length := (List.getElem?_eq_some_iff.mp e).1; obtain ⟨G', h', s, _⟩ := h.freeze e; have := h'.put0 (i := i) (d := d) (v := v) (List.getElem?_set_self hi) (fun z => z) (Rep.mono s _ _ r); rw [List.set_set] at this; exact ⟨G', this, s⟩
theorem at_cons {i : Nat} {p : Addr} {v : Option V} {l : Sl} : At (v :: σ) (l :: δ) (i + 1) p ↔ At σ δ i p := by
  unfold At; simp
theorem at_zero {p : Addr} {v : Option V} {l : Sl} : At (v :: σ) (l :: δ) 0 p ↔ l.mine /\ v = some (.ref p) := by
  unfold At; simp
theorem Hs.drop {v : Option V} {l : Sl} (h : Hs K H0 (v :: σ) (l :: δ) G H) (nm : ¬ l.mine) : Hs K H0 σ δ G H := by
  refine ⟨by simpa using h.len, h.base, fun b => ?_, fun j d' q => ?_, fun j d' q => ?_, fun j q' es q => ?_, fun j k b a1 a2 => ?_⟩
  · rcases h.ex b with ⟨z1, z2⟩ | ⟨z1, j, z2⟩
    · exact .inl ⟨z1, fun j a => z2 (j + 1) (at_cons.mpr a)⟩
    · cases j with
      | zero => exact absurd (at_zero.mp z2).1 nm
      | succ j => exact .inr ⟨z1, j, at_cons.mp z2⟩
  · simpa using h.fr (j + 1) d' (by simpa using q)
  · simpa using h.ow (j + 1) d' (by simpa using q)
  · simpa using h.lk (j + 1) q' es (by simpa using q)
  · have := h.ne (j + 1) (k + 1) b (at_cons.mpr a1) (at_cons.mpr a2)
    omega
theorem Hs.settle {v : V} {d : D} (h : Hs K H0 (some v :: σ) (.ow d :: δ) G H) : ∃ G', Hs K H0 σ δ G' H /\ Same G G' /\ Rep K G' d v := by
  obtain ⟨G', h', s, p, e, r⟩ := h.freeze (i := 0) (d := d) rfl; simp at e; subst e; exact ⟨G', h'.drop (l := .fr d) (fun z => z), s, r⟩
theorem Hs.own0 {v : V} {d : D} (h : Hs K H0 (some v :: σ) (.ow d :: δ) G H) {i : Nat} {l : Sl} (e : δ[i]? = some l) (nm : ¬ l.mine) : Hs K H0 (σ.set i (some v)) (δ.set i (.ow d)) G H := by
  have hl : σ.length = δ.length := by simpa using h.len
  have hi : i < δ.length := (List.getElem?_eq_some_iff.mp e).1; have his : i < σ.length := by omega
  obtain ⟨p, e1, o⟩ := h.ow 0 d rfl; simp at e1; subst e1; have ai : ∀ b, At (σ.set i (some (.ref p))) (δ.set i (.ow d)) i b ↔ b = p := fun b => by
    constructor
    · intro a
      have := (at_self a).2; cases this; rfl
    · rintro rfl
      exact ⟨_, List.getElem?_set_self hi, True.intro, List.getElem?_set_self his⟩
  have na : ∀ b, ¬ At σ δ i b := fun b ⟨l', q1, q2, _⟩ => by rw [e] at q1; cases q1; exact nm q2
  have tr : ∀ b j, j ≠ i -> (At (σ.set i (some (.ref p))) (δ.set i (.ow d)) j b ↔ At (some (.ref p) :: σ) (.ow d :: δ) (j + 1) b) := fun b j hj => by
    rw [at_set hj, at_cons]
  have a0 : At (some (.ref p) :: σ) (.ow d :: δ) 0 p := at_zero.mpr ⟨True.intro, rfl⟩; refine ⟨by rw [List.length_set, List.length_set]; exact hl, h.base, fun b => ?_, fun j d' q => ?_, fun j d' q => ?_, fun j q' es q => ?_, fun j k b a1 a2 => ?_⟩
  · rcases h.ex b with ⟨z1, z2⟩ | ⟨z1, j, z2⟩
    · refine .inl ⟨z1, fun j a => ?_⟩
      by_cases hj : j = i
      · subst hj
        exact z2 0 (at_zero.mpr ⟨True.intro, by rw [(ai b).mp a]⟩)
      · exact z2 (j + 1) ((tr b j hj).mp a)
    · refine .inr ⟨z1, ?_⟩
      cases j with
      | zero =>
        have w := (at_zero.mp z2).2; cases w; exact ⟨i, (ai p).mpr rfl⟩
      | succ j =>
        have hj : j ≠ i := fun z => by subst z; exact na b (at_cons.mp z2)
        exact ⟨j, (tr b j hj).mpr z2⟩
  · by_cases hj : j = i
    · subst hj
      rw [List.getElem?_set_self hi] at q; cases q
    · rw [List.getElem?_set_ne (Ne.symm hj)] at q ⊢
      simpa using h.fr (j + 1) d' (by simpa using q)
  · by_cases hj : j = i
    · subst hj
      rw [List.getElem?_set_self hi] at q; cases q; exact ⟨p, List.getElem?_set_self his, o⟩
    · rw [List.getElem?_set_ne (Ne.symm hj)] at q ⊢
      simpa using h.ow (j + 1) d' (by simpa using q)
  · by_cases hj : j = i
    · subst hj
      rw [List.getElem?_set_self hi] at q; cases q
    · rw [List.getElem?_set_ne (Ne.symm hj)] at q ⊢
      simpa using h.lk (j + 1) q' es (by simpa using q)
  · by_cases hj : j = i
    · subst hj
      have w := (ai b).mp a1; subst w
      by_cases hk : k = j
      · exact hk.symm
      · have := h.ne _ _ _ ((tr b k hk).mp a2) a0
        omega
    · by_cases hk : k = i
      · subst hk
        have w := (ai b).mp a2; subst w; have := h.ne _ _ _ ((tr b j hj).mp a1) a0; omega
      · have := h.ne _ _ _ ((tr b j hj).mp a1) ((tr b k hk).mp a2)
        omega
theorem Hs.own {v : V} {d : D} (h : Hs K H0 (some v :: σ) (.ow d :: δ) G H) {i : Nat} {l : Sl} (e : δ[i]? = some l) (nl : l.locked = false) : ∃ G', Hs K H0 (σ.set i (some v)) (δ.set i (.ow d)) G' H /\ Same G G' := by
  cases l with
  | lk p d' => cases nl
  | un => exact ⟨G, h.own0 e (fun z => z), Same.refl _⟩
  | fr d' => exact ⟨G, h.own0 e (fun z => z), Same.refl _⟩
  | ow d' =>
    have hi : i < δ.length := (List.getElem?_eq_some_iff.mp e).1; obtain ⟨G', h', s, _⟩ := h.freeze (i := i + 1) (d := d') (by simpa using e); have h'' : Hs K H0 (some v :: σ) (.ow d :: δ.set i (.fr d')) G' H := h'; have := h''.own0 (i := i) (List.getElem?_set_self hi) (fun z => z); rw [List.set_set] at this; exact ⟨G', this, s⟩
theorem Hs.laid (h : Hs K H0 σ δ G H) {p : Addr} {o : HO} (n : H p = none) : Hs K H0 σ δ (upd G p o) (upd H p o) /\ Same G (upd G p o) := by
  have nat : ∀ i, ¬ At σ δ i p := fun i a => by
    obtain ⟨o', e, _⟩ := h.soft a; rw [n] at e; cases e
  have gp : G p = none := by
    rcases h.ex p with ⟨z, _⟩ | ⟨z, _⟩
    · exact z.trans n
    · exact z
  have s1 : Same G (upd G p o) := fun b u q => by rw [upd_ne (ne_of_none q gp)]; exact q
  have hne : ∀ i b, At σ δ i b -> b ≠ p := fun i b a z => by subst z; exact nat i a
  refine ⟨⟨h.len, h.base.trans s1, fun b => ?_, fun j d' q => ?_, fun j d' q => ?_, fun j q' es q => ?_, h.ne⟩, s1⟩
  · by_cases hb : b = p
    · subst hb; exact .inl ⟨by rw [upd_same, upd_same], nat⟩
    · rw [upd_ne hb, upd_ne hb]; exact h.ex b
  · obtain ⟨v, w1, w2⟩ := h.fr j d' q
    exact ⟨v, w1, Rep.mono s1 _ _ w2⟩
  · obtain ⟨b, w1, w2⟩ := h.ow j d' q
    exact ⟨b, w1, w2.mono s1 (upd_ne (hne j b ⟨_, q, True.intro, w1⟩))⟩
  · obtain ⟨w1, w2⟩ := h.lk j q' es q
    exact ⟨w1, w2.mono s1 (upd_ne (hne j q' ⟨_, q, True.intro, w1⟩))⟩
theorem Hs.fresh (h : Hs K H0 σ δ G H) {p : Addr} {o : HO} {d : D} (n : H p = none) (w : Own K G (upd H p o) p d) : Hs K H0 (some (.ref p) :: σ) (.ow d :: δ) G (upd H p o) := by
  have nat : ∀ i, ¬ At σ δ i p := fun i a => by
    obtain ⟨o', e, _⟩ := h.soft a; rw [n] at e; cases e
  have gp : G p = none := by
    rcases h.ex p with ⟨z, _⟩ | ⟨z, _⟩
    · exact z.trans n
    · exact z
  have hne : ∀ i b, At σ δ i b -> b ≠ p := fun i b a z => by subst z; exact nat i a
  have a0 : ∀ b, At (some (.ref p) :: σ) (.ow d :: δ) 0 b ↔ b = p := fun b => by
    rw [at_zero]
    constructor
    · rintro ⟨_, z⟩; cases z; rfl
    · rintro rfl; exact ⟨True.intro, rfl⟩
  refine ⟨by simp [h.len], h.base, fun b => ?_, fun j d' q => ?_, fun j d' q => ?_, fun j q' es q => ?_, fun j k b a1 a2 => ?_⟩
  · by_cases hb : b = p
    · subst hb; exact .inr ⟨gp, 0, (a0 b).mpr rfl⟩
    · rw [upd_ne hb]
      rcases h.ex b with ⟨z1, z2⟩ | ⟨z1, j, z2⟩
      · refine .inl ⟨z1, fun j a => ?_⟩
        cases j with
        | zero => exact hb ((a0 b).mp a)
        | succ j => exact z2 j (at_cons.mp a)
      · exact .inr ⟨z1, j + 1, at_cons.mpr z2⟩
  · cases j with
    | zero => simp at q
    | succ j => simpa using h.fr j d' (by simpa using q)
  · cases j with
    | zero =>
      simp at q; subst q; exact ⟨p, rfl, w⟩
    | succ j =>
      obtain ⟨b, w1, w2⟩ := h.ow j d' (by simpa using q); exact ⟨b, by simpa using w1, w2.mono (Same.refl _) (upd_ne (hne j b ⟨.ow d', by simpa using q, True.intro, w1⟩))⟩
  · cases j with
    | zero => simp at q
    | succ j =>
      obtain ⟨w1, w2⟩ := h.lk j q' es (by simpa using q); exact ⟨by simpa using w1, w2.mono (Same.refl _) (upd_ne (hne j q' ⟨.lk q' es, by simpa using q, True.intro, w1⟩))⟩
  · cases j with
    | zero =>
      cases k with
      | zero => rfl
      | succ k => exact absurd ((a0 b).mp a1) (hne k b (at_cons.mp a2))
    | succ j =>
      cases k with
      | zero => exact absurd ((a0 b).mp a2) (hne j b (at_cons.mp a1))
      | succ k =>
        have := h.ne j k b (at_cons.mp a1) (at_cons.mp a2); omega
theorem Hs.write (h : Hs K H0 σ δ G H) {i : Nat} {p : Addr} {d d' : D} {o : HO} (e : δ[i]? = some (.ow d)) (e1 : σ[i]? = some (some (.ref p))) (w : Own K G (upd H p o) p d') : Hs K H0 σ (δ.set i (.ow d')) G (upd H p o) := by
  have hi : i < δ.length := (List.getElem?_eq_some_iff.mp e).1; have ai : At σ δ i p := ⟨_, e, True.intro, e1⟩; have gp : G p = none := by
    rcases h.ex p with ⟨_, z⟩ | ⟨z, _⟩
    · exact absurd ai (z i)
    · exact z
  have ati : ∀ b, At σ (δ.set i (.ow d')) i b ↔ b = p := fun b => by
    constructor
    · rintro ⟨_, _, _, z⟩; rw [e1] at z; cases z; rfl
    · rintro rfl; exact ⟨_, List.getElem?_set_self hi, True.intro, e1⟩
  have aeq : ∀ j b, At σ (δ.set i (.ow d')) j b ↔ At σ δ j b := fun j b => by
    by_cases hj : j = i
    · subst hj
      rw [ati]
      constructor
      · rintro rfl; exact ai
      · rintro ⟨_, _, _, z⟩; rw [e1] at z; cases z; rfl
    · exact at_setD hj
  have hne : ∀ j b, j ≠ i -> At σ δ j b -> b ≠ p := fun j b hj a z => by subst z; exact hj (h.ne j i b a ai)
  refine ⟨by rw [List.length_set]; exact h.len, h.base, fun b => ?_, fun j d2 q => ?_, fun j d2 q => ?_, fun j q' es q => ?_, fun j k b a1 a2 => h.ne j k b ((aeq j b).mp a1) ((aeq k b).mp a2)⟩
  · by_cases hb : b = p
    · subst hb; exact .inr ⟨gp, i, (ati b).mpr rfl⟩
    · rw [upd_ne hb]
      rcases h.ex b with ⟨z1, z2⟩ | ⟨z1, j, z2⟩
      · exact .inl ⟨z1, fun j a => z2 j ((aeq j b).mp a)⟩
      · exact .inr ⟨z1, j, (aeq j b).mpr z2⟩
  · by_cases hj : j = i
    · subst hj; rw [List.getElem?_set_self hi] at q; cases q
    · rw [List.getElem?_set_ne (Ne.symm hj)] at q; exact h.fr j d2 q
  · by_cases hj : j = i
    · subst hj; rw [List.getElem?_set_self hi] at q; cases q
      exact ⟨p, e1, w⟩
    · rw [List.getElem?_set_ne (Ne.symm hj)] at q
      obtain ⟨b, w1, w2⟩ := h.ow j d2 q; exact ⟨b, w1, w2.mono (Same.refl _) (upd_ne (hne j b hj ⟨_, q, True.intro, w1⟩))⟩
  · by_cases hj : j = i
    · subst hj; rw [List.getElem?_set_self hi] at q; cases q
    · rw [List.getElem?_set_ne (Ne.symm hj)] at q
      obtain ⟨w1, w2⟩ := h.lk j q' es q; exact ⟨w1, w2.mono (Same.refl _) (upd_ne (hne j q' hj ⟨_, q, True.intro, w1⟩))⟩
inductive Fg : List Sl -> List Sl -> Prop where
  | nil : Fg [] []
  | same {l : Sl} {a b : List Sl} (h : Fg a b) : Fg (l :: a) (l :: b)
  | un {d : D} {a b : List Sl} (h : Fg a b) : Fg (.fr d :: a) (.un :: b)
theorem Fg.get {a b : List Sl} (f : Fg a b) : ∀ i : Nat, b[i]? = a[i]? \/ (b[i]? = some .un /\ ∃ d, a[i]? = some (.fr d)) := by
  induction f with
  | nil => exact fun i => .inl rfl
  | same h ih =>
    intro i
    cases i with
    | zero => exact .inl rfl
    | succ i => simpa using ih i
  | @un d a b h ih =>
    intro i
    cases i with
    | zero => exact .inr ⟨rfl, d, rfl⟩
    | succ i => simpa using ih i
theorem Fg.length {a b : List Sl} (f : Fg a b) : a.length = b.length := by
  induction f with
  | nil => rfl
  | same _ ih => simp [ih]
  | un _ ih => simp [ih]
theorem Hs.forget {δ' : List Sl} (h : Hs K H0 σ δ G H) (f : Fg δ δ') : Hs K H0 σ δ' G H := by
  have ae : ∀ i p, At σ δ' i p ↔ At σ δ i p := fun i p => by
    unfold At
    rcases f.get i with e | ⟨e1, d, e2⟩
    · rw [e]
    · rw [e1, e2]
      constructor
      · rintro ⟨l, z, m, _⟩; cases z; exact m.elim
      · rintro ⟨l, z, m, _⟩; cases z; exact m.elim
  refine ⟨h.len.trans f.length, h.base, fun b => ?_, fun i d e => ?_, fun i d e => ?_, fun i p d e => ?_, fun i j p a1 a2 => h.ne i j p ((ae i p).mp a1) ((ae j p).mp a2)⟩
  · rcases h.ex b with ⟨z1, z2⟩ | ⟨z1, i, z2⟩
    · exact .inl ⟨z1, fun i a => z2 i ((ae i b).mp a)⟩
    · exact .inr ⟨z1, i, (ae i b).mpr z2⟩
  · rcases f.get i with z | ⟨z, _⟩
    · exact h.fr i d (z ▸ e)
    · rw [z] at e; cases e
  · rcases f.get i with z | ⟨z, _⟩
    · exact h.ow i d (z ▸ e)
    · rw [z] at e; cases e
  · rcases f.get i with z | ⟨z, _⟩
    · exact h.lk i p d (z ▸ e)
    · rw [z] at e; cases e
end
def RepB (K : PySem.W.Frag) (G H : Hp) : D -> V -> Prop
  | .non, v => v = .non
  | .bl b, v => v = .bl b
  | .int i, v => v = .int i
  | .str x, v => v = .str x
  | .adr p, v => v = .ref p
  | .tup xs, v => ∃ a vs, v = .ref a /\ H a = some (.tup vs) /\ Reps K G xs vs
  | .lst xs, v => ∃ a vs, v = .ref a /\ SqL K H a vs /\ Reps K G xs vs
  | .dK kvs, v => ∃ a kws, v = .ref a /\ Rd H a (.dK kws) /\ RepK K G kvs kws
  | .dT kvs, v => ∃ a kws, v = .ref a /\ Rd H a (.dT kws) /\ RepT K G kvs kws
section
variable {K : PySem.W.Frag} {H0 : Hp} {σ : L2.St} {δ : List Sl} {G G' H H' : Hp} {d : D} {v : V}
theorem Rep.b (s : Same G H) (h : Rep K G d v) : RepB K G H d v := by
  cases d with
  | tup xs => simp only [Rep] at h; obtain ⟨a, vs, h1, h2, h3⟩ := h; exact ⟨a, vs, h1, s _ _ h2, h3⟩
  | lst xs => simp only [Rep] at h; obtain ⟨a, vs, h1, h2, h3⟩ := h; exact ⟨a, vs, h1, s.seq h2, h3⟩
  | dK xs => simp only [Rep] at h; obtain ⟨a, vs, h1, h2, h3⟩ := h; exact ⟨a, vs, h1, same_rd s h2, h3⟩
  | dT xs => simp only [Rep] at h; obtain ⟨a, vs, h1, h2, h3⟩ := h; exact ⟨a, vs, h1, same_rd s h2, h3⟩
  | _ => simp only [Rep] at h; exact h
theorem RepB.mono (h : RepB K G H d v) (g : Same G G') (s : Same H H') : RepB K G' H' d v := by
  cases d with
  | tup xs => obtain ⟨a, vs, h1, h2, h3⟩ := h; exact ⟨a, vs, h1, s _ _ h2, Reps.mono g _ _ h3⟩
  | lst xs => obtain ⟨a, vs, h1, h2, h3⟩ := h; exact ⟨a, vs, h1, s.seq h2, Reps.mono g _ _ h3⟩
  | dK xs => obtain ⟨a, vs, h1, h2, h3⟩ := h; exact ⟨a, vs, h1, same_rd s h2, RepK.mono g _ _ h3⟩
  | dT xs => obtain ⟨a, vs, h1, h2, h3⟩ := h; exact ⟨a, vs, h1, same_rd s h2, RepT.mono g _ _ h3⟩
  | _ => exact h
theorem Own.b {p : Addr} (h : Own K G H p d) : RepB K G H d (.ref p) := by
  cases d with
  | lst ds => obtain ⟨vs, h1, h2⟩ := h; exact ⟨p, vs, rfl, SqL.of h1, h2⟩
  | dK ds => obtain ⟨vs, h1, h2⟩ := h; exact ⟨p, vs, rfl, .inl h1, h2⟩
  | dT ds => obtain ⟨vs, h1, h2⟩ := h; exact ⟨p, vs, rfl, .inl h1, h2⟩
  | _ => exact h.elim
theorem RepB.all (h : RepB K G H d v) (s : Same G H) : Rep K H d v := by
  cases d with
  | tup xs => obtain ⟨a, vs, h1, h2, h3⟩ := h; simp only [Rep]; exact ⟨a, vs, h1, h2, Reps.mono s _ _ h3⟩
  | lst xs => obtain ⟨a, vs, h1, h2, h3⟩ := h; simp only [Rep]; exact ⟨a, vs, h1, h2, Reps.mono s _ _ h3⟩
  | dK xs => obtain ⟨a, vs, h1, h2, h3⟩ := h; simp only [Rep]; exact ⟨a, vs, h1, h2, RepK.mono s _ _ h3⟩
  | dT xs => obtain ⟨a, vs, h1, h2, h3⟩ := h; simp only [Rep]; exact ⟨a, vs, h1, h2, RepT.mono s _ _ h3⟩
  | _ => simp only [Rep]; exact h
end
structure Nx (K : PySem.W.Frag) (H0 : Hp) (σ : L2.St) (δ : List Sl) (G H G' H' : Hp) : Prop where
  hs : Hs K H0 σ δ G' H'
  g : Same G G'
  h : Same H H'
theorem Nx.refl {K : PySem.W.Frag} {H0 : Hp} {σ : L2.St} {δ : List Sl} {G H : Hp} (h : Hs K H0 σ δ G H) : Nx K H0 σ δ G H G H := ⟨h, Same.refl _, Same.refl _⟩
theorem Nx.trans {K : PySem.W.Frag} {H0 : Hp} {σ : L2.St} {δ : List Sl} {G H G' H' G2 H2 : Hp} (a : Nx K H0 σ δ G H G' H') (b : Nx K H0 σ δ G' H' G2 H2) : Nx K H0 σ δ G H G2 H2 := ⟨b.hs, a.g.trans b.g, a.h.trans b.h⟩
abbrev RE := List Sl -> (D -> Prop) -> Prop
abbrev RT := List Sl -> (Bool -> Prop) -> Prop
abbrev RA := List Sl -> (List D -> Prop) -> Prop
def liftE (K : PySem.W.Frag) (H0 : Hp) (t : RE) : TE := fun σ H Q => ∃ δ G Qd, Hs K H0 σ δ G H /\ t δ Qd /\ ∀ v H' G' d, Nx K H0 σ δ G H G' H' -> Rep K G' d v -> Qd d -> Q v H'
def liftB (K : PySem.W.Frag) (H0 : Hp) (t : RE) : TE := fun σ H Q => ∃ δ G Qd, Hs K H0 σ δ G H /\ t δ Qd /\ ∀ v H' G' d, Nx K H0 σ δ G H G' H' -> RepB K G' H' d v -> Qd d -> Q v H'
def liftN (K : PySem.W.Frag) (H0 : Hp) (t : RE) : TE := fun σ H Q => ∃ δ G Qd, Hs K H0 σ δ G H /\ t δ Qd /\ ∀ v H' G' d, Hs K H0 (some v :: σ) (.ow d :: δ) G' H' -> Same G G' -> Same H H' -> Qd d -> Q v H'
def liftT (K : PySem.W.Frag) (H0 : Hp) (t : RT) : TT := fun σ H Q => ∃ δ G Qd, Hs K H0 σ δ G H /\ t δ Qd /\ ∀ b H' G', Nx K H0 σ δ G H G' H' -> Qd b -> Q b H'
def liftA (K : PySem.W.Frag) (H0 : Hp) (t : RA) : TA := fun σ H Q => ∃ δ G Qd, Hs K H0 σ δ G H /\ t δ Qd /\ ∀ vs H' G' ds, Nx K H0 σ δ G H G' H' -> Reps K G' ds vs -> Qd ds -> Q vs H'
def PE2 (X : Cx) (H0 : Hp) (e : Expr) (t : RE) : Prop := PE X e (liftE X.K H0 t)
def PB2 (X : Cx) (H0 : Hp) (e : Expr) (t : RE) : Prop := PE X e (liftB X.K H0 t)
def PN2 (X : Cx) (H0 : Hp) (e : Expr) (t : RE) : Prop := PE X e (liftN X.K H0 t)
def PT2 (X : Cx) (H0 : Hp) (e : Expr) (t : RT) : Prop := PT X e (liftT X.K H0 t)
def PW2 (X : Cx) (H0 : Hp) (e : Expr) (t : RT) : Prop := PW X e (liftT X.K H0 t)
def PA2 (X : Cx) (H0 : Hp) (es : List Expr) (t : RA) : Prop := PA X es (liftA X.K H0 t)
theorem PE.weak {X : Cx} {e : Expr} {t t' : TE} (h : PE X e t) (k : ∀ σ H Q, t' σ H Q -> t σ H Q) : PE X e t' := fun pins s σ H Q I hw => h pins s σ H Q I (k σ H Q hw)
theorem PT.weak {X : Cx} {e : Expr} {t t' : TT} (h : PT X e t) (k : ∀ σ H Q, t' σ H Q -> t σ H Q) : PT X e t' := fun pins s σ H Q I hw => h pins s σ H Q I (k σ H Q hw)
theorem PW.weak {X : Cx} {e : Expr} {t t' : TT} (h : PW X e t) (k : ∀ σ H Q, t' σ H Q -> t σ H Q) : PW X e t' := fun whole pins s σ H Q I hw => h whole pins s σ H Q I (k σ H Q hw)
theorem PA.weak {X : Cx} {e : List Expr} {t t' : TA} (h : PA X e t) (k : ∀ σ H Q, t' σ H Q -> t σ H Q) : PA X e t' := fun pos pins s σ H Q I hw => h pos pins s σ H Q I (k σ H Q hw)
theorem PS.weak {X : Cx} {e : Stmt} {t t' : TS} (h : PS X e t) (k : ∀ D σ H, t' D σ H -> t D σ H) : PS X e t' := fun pins s σ H Q I hw => h pins s σ H Q I (k Q σ H hw)
theorem PSs.weak {X : Cx} {e : List Stmt} {t t' : TS} (h : PSs X e t) (k : ∀ D σ H, t' D σ H -> t D σ H) : PSs X e t' := fun pins s σ H Q I hw => h pins s σ H Q I (k Q σ H hw)
section
variable {X : Cx} {H0 : Hp} {e a b c : Expr} {t ta tb tc : RE} {pos : Pos}
theorem PE2.bo (h : PE2 X H0 e t) : PB2 X H0 e t := PE.weak h fun σ H Q ⟨δ, G, Qd, hs, ht, k⟩ => ⟨δ, G, Qd, hs, ht, fun v H' G' d n r q => k v H' G' d n (Rep.b n.hs.sub r) q⟩
theorem PN2.fx (h : PN2 X H0 e t) : PE2 X H0 e t := PE.weak h fun σ H Q ⟨δ, G, Qd, hs, ht, k⟩ => ⟨δ, G, Qd, hs, ht, fun v H' G' d n sg sh q => by
  obtain ⟨G2, n2, s2, r2⟩ := n.settle
  exact k v H' G2 d ⟨n2, sg.trans s2, sh⟩ r2 q⟩
theorem PN2.bo (h : PN2 X H0 e t) : PB2 X H0 e t := h.fx.bo
def rC (d : D) (_ : List Sl) (Q : D -> Prop) : Prop := Q d
def rVar (i : Nat) (δ : List Sl) (Q : D -> Prop) : Prop := match δ[i]? with
  | some (.fr d) => Q d
  | _ => False
def rVarB (i : Nat) (δ : List Sl) (Q : D -> Prop) : Prop := match δ[i]? with
  | some (.fr d) => Q d
  | some (.ow d) => Q d
  | some (.lk _ d) => Q d
  | _ => False
theorem e_var (i : Nat) {x : Str} {pos : Pos} (hN : X.N[i]? = some x := by rfl) (hv : Vis X.env.scope x := by first | exact Or.inl rfl | exact Or.inr (Or.inl rfl) | exact Or.inr (Or.inr rfl)) (hd : (x == ("__debug__" : Str)) = false := by decide)
 (hcd : (x == ("__classdict__" : Str)) = false := by decide) : PE2 X H0 (.Name x pos) (rVar i) := PE.weak (pe_var hN hv hd hcd) fun σ H Q ⟨δ, G, Qd, hs, ht, k⟩ => by
  unfold rVar at ht
  split at ht
  · rename_i d e
    obtain ⟨v, e1, r⟩ := hs.fr i d e; exact ⟨v, e1, k v H G d (Nx.refl hs) r ht⟩
  · exact ht.elim
theorem b_var (i : Nat) {x : Str} {pos : Pos} (hN : X.N[i]? = some x := by rfl) (hv : Vis X.env.scope x := by first | exact Or.inl rfl | exact Or.inr (Or.inl rfl) | exact Or.inr (Or.inr rfl)) (hd : (x == ("__debug__" : Str)) = false := by decide)
 (hcd : (x == ("__classdict__" : Str)) = false := by decide) : PB2 X H0 (.Name x pos) (rVarB i) := PE.weak (pe_var hN hv hd hcd) fun σ H Q ⟨δ, G, Qd, hs, ht, k⟩ => by
  unfold rVarB at ht
  split at ht
  · rename_i d e
    obtain ⟨v, e1, r⟩ := hs.fr i d e; exact ⟨v, e1, k v H G d (Nx.refl hs) (Rep.b hs.sub r) ht⟩
  · rename_i d e
    obtain ⟨p, e1, o⟩ := hs.ow i d e; exact ⟨_, e1, k _ H G d (Nx.refl hs) o.b ht⟩
  · rename_i p d e
    obtain ⟨e1, o⟩ := hs.lk i p d e; exact ⟨_, e1, k _ H G d (Nx.refl hs) o.b ht⟩
  · exact ht.elim
theorem cst {d : D} {v : V} (h : PE X e (tC v)) (r : ∀ G, Rep X.K G d v) : PE2 X H0 e (rC d) := PE.weak h fun σ H Q ⟨δ, G, Qd, hs, ht, k⟩ => k v H G d (Nx.refl hs) (r G) ht
theorem e_int {i : Int} {j : Nat} {pos : Pos} : PE2 X H0 (.Constant (.int i) j pos) (rC (.int i)) := cst pe_int fun _ => by simp only [Rep]
theorem e_bl {b : Bool} {j : Nat} {pos : Pos} : PE2 X H0 (.Constant (.bool b) j pos) (rC (.bl b)) := cst pe_bl fun _ => by simp only [Rep]
theorem e_non {j : Nat} {pos : Pos} : PE2 X H0 (.Constant .none j pos) (rC .non) := cst pe_non fun _ => by simp only [Rep]
theorem e_str {x : Str} {j : Nat} {pos : Pos} : PE2 X H0 (.Constant (.str x) j pos) (rC (.str x)) := cst pe_str fun _ => by simp only [Rep]
def Lf2 (K : PySem.W.Frag) (r : R2) (r2 : D -> D -> (D -> Prop) -> Prop) : Prop :=
  ∀ (H0 : Hp) (σ : L2.St) (δ : List Sl) (G H : Hp) (x y : V) (dx dy : D) (Qd : D -> Prop) (Q : VK), Hs K H0 σ δ G H -> RepB K G H dx x -> RepB K G H dy y -> r2 dx dy Qd ->
    (∀ v H' G' d, Nx K H0 σ δ G H G' H' -> Rep K G' d v -> Qd d -> Q v H') -> r x y H Q
def rOp (r2 : D -> D -> (D -> Prop) -> Prop) (ta tb : RE) (δ : List Sl) (Q : D -> Prop) : Prop := ta δ fun x => tb δ fun y => r2 x y Q
theorem lift_op {r : R2} {r2 : D -> D -> (D -> Prop) -> Prop} (lf : Lf2 X.K r r2) : ∀ σ H Q, liftE X.K H0 (rOp r2 ta tb) σ H Q -> tOp r (liftB X.K H0 ta) (liftB X.K H0 tb) σ H Q :=
  fun σ H Q ⟨δ, G, Qd, hs, ht, k⟩ => ⟨δ, G, _, hs, ht, fun v H1 G1 d1 n1 r1 q1 => ⟨δ, G1, _, n1.hs, q1, fun v2 H2 G2 d2 n2 r2 q2 =>
    lf H0 σ δ G2 H2 v v2 d1 d2 Qd Q n2.hs (r1.mono n2.g n2.h) r2 q2 fun v3 H3 G3 d3 n3 r3 q3 => k v3 H3 G3 d3 ((n1.trans n2).trans n3) r3 q3⟩⟩
theorem e_op {op : Operator} {r : R2} {r2 : D -> D -> (D -> Prop) -> Prop} (ho : OpR X (binaryOp op) r) (lf : Lf2 X.K r r2) (ha : PB2 X H0 a ta) (hb : PB2 X H0 b tb) : PE2 X H0 (.BinOp a op b pos) (rOp r2 ta tb) :=
  PE.weak (pe_op ho ha hb) (lift_op lf)
theorem e_cmp {op : CmpOp} {r : R2} {r2 : D -> D -> (D -> Prop) -> Prop} (ho : OpR X (compareOp op) r) (lf : Lf2 X.K r r2) (ha : PB2 X H0 a ta) (hb : PB2 X H0 b tb) (hm : behindInMarks op b = false) : PE2 X H0 (.Compare a [op] [b] pos) (rOp r2 ta tb) :=
  PE.weak (pe_cmpR ho ha hb hm) (lift_op lf)
def rTest (t : RE) (δ : List Sl) (Q : Bool -> Prop) : Prop := t δ fun d => match d with
  | .bl k => Q k
  | _ => False
theorem lift_test {t' : TE} (h : ∀ σ H Q, liftE X.K H0 t σ H Q -> t' σ H Q) : ∀ σ H Q, liftT X.K H0 (rTest t) σ H Q -> tTest t' σ H Q := fun σ H Q ⟨δ, G, Qd, hs, ht, k⟩ => h σ H _ ⟨δ, G, _, hs, ht, fun v H' G' d n r q => by
  cases d with
  | bl x => exact ⟨x, by simpa only [Rep] using r, k x H' G' n q⟩
  | _ => exact q.elim⟩
theorem t_cmp {op : CmpOp} {r : R2} {r2 : D -> D -> (D -> Prop) -> Prop} (ho : OpR X (compareOp op) r) (lf : Lf2 X.K r r2) (ha : PB2 X H0 a ta) (hb : PB2 X H0 b tb) (hm : behindInMarks op b = false) : PT2 X H0 (.Compare a [op] [b] pos) (rTest (rOp r2 ta tb)) :=
  PT.weak (pt_cmpR ho ha hb hm) (lift_test (lift_op lf))
def dI (C : Int -> Int -> Prop) (g : Int -> Int -> D) (x y : D) (Q : D -> Prop) : Prop := match x, y with
  | .int i, .int j => C i j /\ Q (g i j)
  | _, _ => False
def dI0 (g : Int -> Int -> D) (x y : D) (Q : D -> Prop) : Prop := match x, y with
  | .int i, .int j => Q (g i j)
  | _, _ => False
theorem lf_i {K : PySem.W.Frag} {C : Int -> Int -> Prop} {g : Int -> Int -> V} {g2 : Int -> Int -> D} (hg : ∀ G i j, Rep K G (g2 i j) (g i j)) : Lf2 K (rI C g) (dI C g2) := fun H0 σ δ G H x y dx dy Qd Q hs rx ry h k => by
  cases dx <;> cases dy <;> first | exact h.elim | skip
  rename_i i j; obtain rfl : x = .int i := rx; obtain rfl : y = .int j := ry; exact ⟨i, j, rfl, rfl, h.1, k _ H G _ (Nx.refl hs) (hg G i j) h.2⟩
theorem lf_i0 {K : PySem.W.Frag} {g : Int -> Int -> V} {g2 : Int -> Int -> D} (hg : ∀ G i j, Rep K G (g2 i j) (g i j)) : Lf2 K (rI0 g) (dI0 g2) := fun H0 σ δ G H x y dx dy Qd Q hs rx ry h k => by
  cases dx <;> cases dy <;> first | exact h.elim | skip
  rename_i i j; obtain rfl : x = .int i := rx; obtain rfl : y = .int j := ry; exact ⟨i, j, rfl, rfl, k _ H G _ (Nx.refl hs) (hg G i j) h⟩
theorem lf_int {K : PySem.W.Frag} {C : Int -> Int -> Prop} (g : Int -> Int -> Int) : Lf2 K (rI C fun i j => .int (g i j)) (dI C fun i j => .int (g i j)) := lf_i fun _ _ _ => by simp only [Rep]
theorem lf_int0 {K : PySem.W.Frag} (g : Int -> Int -> Int) : Lf2 K (rI0 fun i j => .int (g i j)) (dI0 fun i j => .int (g i j)) := lf_i0 fun _ _ _ => by simp only [Rep]
theorem lf_bl0 {K : PySem.W.Frag} (g : Int -> Int -> Bool) : Lf2 K (rI0 fun i j => .bl (g i j)) (dI0 fun i j => .bl (g i j)) := lf_i0 fun _ _ _ => by simp only [Rep]
def CDv (i j : Int) : Prop := 0 < j /\ j < 2 ^ 200
theorem op_fdiv2 : OpR X (binaryOp .FloorDiv) (rI CDv fun i j => .int (i / j)) := opI fun i j _ _ _ _ _ hc q => by
  have e : i.fdiv j = i / j := Int.fdiv_eq_ediv_of_nonneg i (Int.le_of_lt hc.1); have hl : j.natAbs.log2 < 200 := by
    have h0 : j.natAbs ≠ 0 := by have := hc.1; omega
    refine (Nat.log2_lt h0).mpr ?_; have := hc.2; have h1 : ((j.natAbs : Nat) : Int) = j := by have := hc.1; omega
    have h2 : ((j.natAbs : Nat) : Int) < ((2 ^ 200 : Nat) : Int) := by rw [h1]; exact this
    exact Int.ofNat_lt.mp h2
  refine floordiv_int (Int.ne_of_gt hc.1) ?_ (.inl (PyProof.noPylong_of_log2 (by omega))); rw [e]; exact q
theorem e_add (ha : PB2 X H0 a ta) (hb : PB2 X H0 b tb) : PE2 X H0 (.BinOp a .Add b pos) (rOp (dI0 fun i j => .int (i + j)) ta tb) := e_op op_add (lf_int0 _) ha hb
theorem e_mul (ha : PB2 X H0 a ta) (hb : PB2 X H0 b tb) : PE2 X H0 (.BinOp a .Mult b pos) (rOp (dI CMul fun i j => .int (i * j)) ta tb) := e_op op_mul (lf_int _) ha hb
theorem e_fdiv (ha : PB2 X H0 a ta) (hb : PB2 X H0 b tb) : PE2 X H0 (.BinOp a .FloorDiv b pos) (rOp (dI CDv fun i j => .int (i / j)) ta tb) := e_op op_fdiv2 (lf_int _) ha hb
theorem e_mod (ha : PB2 X H0 a ta) (hb : PB2 X H0 b tb) : PE2 X H0 (.BinOp a .Mod b pos) (rOp (dI (fun _ j => 0 < j) fun i j => .int (i % j)) ta tb) := e_op op_mod (lf_int _) ha hb
theorem e_pow (ha : PB2 X H0 a ta) (hb : PB2 X H0 b tb) : PE2 X H0 (.BinOp a .Pow b pos) (rOp (dI CPow fun i j => .int (i ^ j.toNat)) ta tb) := e_op op_pow (lf_int _) ha hb
abbrev dLt := dI0 fun i j => .bl (decide (i < j))
abbrev dGt := dI0 fun i j => .bl (decide (j < i))
abbrev dGe := dI0 fun i j => .bl (decide (j <= i))
theorem lf_lt {K : PySem.W.Frag} : Lf2 K (rI0 fun i j => .bl (decide (i < j))) dLt := lf_bl0 _
theorem lf_gt {K : PySem.W.Frag} : Lf2 K (rI0 fun i j => .bl (decide (j < i))) dGt := lf_bl0 _
theorem lf_ge {K : PySem.W.Frag} : Lf2 K (rI0 fun i j => .bl (decide (j <= i))) dGe := lf_bl0 _
def dEqS (neg : Bool) (x y : D) (Q : D -> Prop) : Prop := match x, y with
  | .int i, .int j => Q (.bl (neg != decide (i = j)))
  | .bl i, .bl j => Q (.bl (neg != decide (i = j)))
  | .str i, .str j => Q (.bl (neg != decide (i = j)))
  | _, _ => False
theorem dec_inj {α β : Type} [DecidableEq α] [DecidableEq β] {f : α -> β} (hf : ∀ a b, f a = f b -> a = b) (a b : α) : decide (f a = f b) = decide (a = b) := by
  by_cases h : a = b
  · subst h; simp
  · rw [decide_eq_false h, decide_eq_false fun z => h (hf _ _ z)]
theorem lf_eqS {K : PySem.W.Frag} : Lf2 K rEq (dEqS false) := fun H0 σ δ G H x y dx dy Qd Q hs rx ry h k => by
  cases dx <;> cases dy <;> first | exact h.elim | skip
  · rename_i i j
    obtain rfl : x = .bl i := rx; obtain rfl : y = .bl j := ry; exact ⟨rfl, k _ H G _ (Nx.refl hs) (by simp only [Rep]; rw [dec_inj (f := V.bl) (fun a b z => by cases z; rfl)]; simp) h⟩
  · rename_i i j
    obtain rfl : x = .int i := rx; obtain rfl : y = .int j := ry; exact ⟨rfl, k _ H G _ (Nx.refl hs) (by simp only [Rep]; rw [dec_inj (f := V.int) (fun a b z => by cases z; rfl)]; simp) h⟩
  · rename_i i j
    obtain rfl : x = .str i := rx; obtain rfl : y = .str j := ry; exact ⟨rfl, k _ H G _ (Nx.refl hs) (by simp only [Rep]; rw [dec_inj (f := V.str) (fun a b z => by cases z; rfl)]; simp) h⟩
theorem lf_neS {K : PySem.W.Frag} : Lf2 K rNe (dEqS true) := fun H0 σ δ G H x y dx dy Qd Q hs rx ry h k => by
  cases dx <;> cases dy <;> first | exact h.elim | skip
  · rename_i i j
    obtain rfl : x = .bl i := rx; obtain rfl : y = .bl j := ry; exact ⟨rfl, k _ H G _ (Nx.refl hs) (by simp only [Rep]; rw [dec_inj (f := V.bl) (fun a b z => by cases z; rfl)]; simp) h⟩
  · rename_i i j
    obtain rfl : x = .int i := rx; obtain rfl : y = .int j := ry; exact ⟨rfl, k _ H G _ (Nx.refl hs) (by simp only [Rep]; rw [dec_inj (f := V.int) (fun a b z => by cases z; rfl)]; simp) h⟩
  · rename_i i j
    obtain rfl : x = .str i := rx; obtain rfl : y = .str j := ry; exact ⟨rfl, k _ H G _ (Nx.refl hs) (by simp only [Rep]; rw [dec_inj (f := V.str) (fun a b z => by cases z; rfl)]; simp) h⟩
end
structure Two (b : Bool) (A B : Prop) : Prop where
  yes : b = true -> A
  no : b = false -> B
theorem Two.t {A B : Prop} (h : A) : Two true A B := ⟨(fun _ => h), (fun z => by cases z)⟩
theorem Two.f {A B : Prop} (h : B) : Two false A B := ⟨(fun z => by cases z), (fun _ => h)⟩
theorem Two.dec {p : Prop} [Decidable p] {A B : Prop} (h1 : p -> A) (h2 : ¬ p -> B) : Two (decide p) A B := ⟨fun z => h1 (of_decide_eq_true z), fun z => h2 (of_decide_eq_false z)⟩
theorem Two.of {b : Bool} {A B : Prop} (h : if b = true then A else B) : Two b A B := by
  cases b with
  | true => exact Two.t h
  | false => exact Two.f h
section
variable {X : Cx} {H0 : Hp} {e a b c : Expr} {t ta tb tc : RE} {u uA uB : RT} {pos : Pos} {rest : List Expr}
def rAnd (t u : RT) (δ : List Sl) (Q : Bool -> Prop) : Prop := t δ fun k => Two k (u δ Q) (Q false)
def rOr (t u : RT) (δ : List Sl) (Q : Bool -> Prop) : Prop := t δ fun k => Two k (Q true) (u δ Q)
def rNot (t : RT) (δ : List Sl) (Q : Bool -> Prop) : Prop := t δ fun k => Q (!k)
theorem PW2.pt (h : PW2 X H0 e u) : PT2 X H0 e u := PW.pt h
theorem t_and1 (ha : PT2 X H0 a uA) : PW2 X H0 (.BoolOp .And [a] pos) uA := pw_and1 ha
theorem t_or1 (ha : PT2 X H0 a uA) : PW2 X H0 (.BoolOp .Or [a] pos) uA := pw_or1 ha
theorem t_and (ha : PT2 X H0 a uA) (hb : PW2 X H0 (.BoolOp .And (b :: rest) pos) uB) : PW2 X H0 (.BoolOp .And (a :: b :: rest) pos) (rAnd uA uB) :=
  PW.weak (pw_and ha hb) fun σ H Q ⟨δ, G, Qd, hs, ht, k⟩ => ⟨δ, G, _, hs, ht, fun x H1 G1 n1 q1 => by
    cases x with
    | true => replace q1 := q1.yes rfl; rw [if_pos rfl]; exact ⟨δ, G1, Qd, n1.hs, q1, fun y H2 G2 n2 q2 => k y H2 G2 (n1.trans n2) q2⟩
    | false => replace q1 := q1.no rfl; rw [if_neg Bool.false_ne_true]; exact k false H1 G1 n1 q1⟩
theorem t_or (ha : PT2 X H0 a uA) (hb : PW2 X H0 (.BoolOp .Or (b :: rest) pos) uB) : PW2 X H0 (.BoolOp .Or (a :: b :: rest) pos) (rOr uA uB) :=
  PW.weak (pw_or ha hb) fun σ H Q ⟨δ, G, Qd, hs, ht, k⟩ => ⟨δ, G, _, hs, ht, fun x H1 G1 n1 q1 => by
    cases x with
    | false => replace q1 := q1.no rfl; rw [if_neg Bool.false_ne_true]; exact ⟨δ, G1, Qd, n1.hs, q1, fun y H2 G2 n2 q2 => k y H2 G2 (n1.trans n2) q2⟩
    | true => replace q1 := q1.yes rfl; rw [if_pos rfl]; exact k true H1 G1 n1 q1⟩
theorem t_not (ha : PT2 X H0 a uA) : PT2 X H0 (.UnaryOp .Not a pos) (rNot uA) :=
  PT.weak (pt_not ha) fun σ H Q ⟨δ, G, Qd, hs, ht, k⟩ => ⟨δ, G, _, hs, ht, fun x H1 G1 n1 q1 => k (!x) H1 G1 n1 q1⟩
theorem t_val (h : PE2 X H0 e t) (he : ∀ whole, isTrue e X.env whole = (do let v <- whole; standAt e.pos; holding [v] (truthy v)) := by intro _; rfl) : PT2 X H0 e (rTest t) :=
  PT.weak (pt_val h he) (lift_test (t' := liftE X.K H0 t) fun _ _ _ z => z)
def bl? (d : D) (Q : Bool -> Prop) : Prop := match d with
  | .bl k => Q k
  | _ => False
theorem bl_of {K : PySem.W.Frag} {G : Hp} {d : D} {v : V} {Q : Bool -> Prop} (h : bl? d Q) (r : Rep K G d v) : ∃ k, d = .bl k /\ v = .bl k /\ Q k := by
  cases d with
  | bl k => exact ⟨k, rfl, by simpa only [Rep] using r, h⟩
  | _ => exact h.elim
def rAndV (ta tb : RE) (δ : List Sl) (Q : D -> Prop) : Prop := ta δ fun x => bl? x fun k => Two k (tb δ Q) (Q (.bl false))
def rOrV (ta tb : RE) (δ : List Sl) (Q : D -> Prop) : Prop := ta δ fun x => bl? x fun k => Two k (Q (.bl true)) (tb δ Q)
def rNotV (ta : RE) (δ : List Sl) (Q : D -> Prop) : Prop := ta δ fun x => bl? x fun k => Q (.bl (!k))
theorem e_one {op : BoolOp} (ha : PE2 X H0 a ta) : PE2 X H0 (.BoolOp op [a] pos) ta := pe_one ha
theorem e_and (ha : PE2 X H0 a ta) (hb : PE2 X H0 (.BoolOp .And (b :: rest) pos) tb) : PE2 X H0 (.BoolOp .And (a :: b :: rest) pos) (rAndV ta tb) :=
  PE.weak (pe_and ha hb) fun σ H Q ⟨δ, G, Qd, hs, ht, k⟩ => ⟨δ, G, _, hs, ht, fun v H1 G1 d n1 r1 q1 => by
    obtain ⟨x, rfl, rfl, q1⟩ := bl_of q1 r1; refine ⟨x, rfl, ?_⟩
    cases x with
    | true => replace q1 := q1.yes rfl; rw [if_pos rfl]; exact ⟨δ, G1, Qd, n1.hs, q1, fun v2 H2 G2 d2 n2 r2 q2 => k v2 H2 G2 d2 (n1.trans n2) r2 q2⟩
    | false => replace q1 := q1.no rfl; rw [if_neg Bool.false_ne_true]; exact k _ H1 G1 _ n1 (by simp only [Rep]) q1⟩
theorem e_or (ha : PE2 X H0 a ta) (hb : PE2 X H0 (.BoolOp .Or (b :: rest) pos) tb) : PE2 X H0 (.BoolOp .Or (a :: b :: rest) pos) (rOrV ta tb) :=
  PE.weak (pe_or ha hb) fun σ H Q ⟨δ, G, Qd, hs, ht, k⟩ => ⟨δ, G, _, hs, ht, fun v H1 G1 d n1 r1 q1 => by
    obtain ⟨x, rfl, rfl, q1⟩ := bl_of q1 r1; refine ⟨x, rfl, ?_⟩
    cases x with
    | false => replace q1 := q1.no rfl; rw [if_neg Bool.false_ne_true]; exact ⟨δ, G1, Qd, n1.hs, q1, fun v2 H2 G2 d2 n2 r2 q2 => k v2 H2 G2 d2 (n1.trans n2) r2 q2⟩
    | true => replace q1 := q1.yes rfl; rw [if_pos rfl]; exact k _ H1 G1 _ n1 (by simp only [Rep]) q1⟩
theorem e_not (ha : PE2 X H0 a ta) : PE2 X H0 (.UnaryOp .Not a pos) (rNotV ta) :=
  PE.weak (pe_not ha) fun σ H Q ⟨δ, G, Qd, hs, ht, k⟩ => ⟨δ, G, _, hs, ht, fun v H1 G1 d n1 r1 q1 => by
    obtain ⟨x, rfl, rfl, q1⟩ := bl_of q1 r1
    exact ⟨x, rfl, k _ H1 G1 _ n1 (by simp only [Rep]) q1⟩⟩
def rIfE (c : RT) (ta tb : RE) (δ : List Sl) (Q : D -> Prop) : Prop := c δ fun k => Two k (ta δ Q) (tb δ Q)
theorem e_ifExp (hc : PT2 X H0 c u) (ha : PE2 X H0 a ta) (hb : PE2 X H0 b tb) : PE2 X H0 (.IfExp c a b pos) (rIfE u ta tb) :=
  PE.weak (pe_ifExp hc ha hb) fun σ H Q ⟨δ, G, Qd, hs, ht, k⟩ => ⟨δ, G, _, hs, ht, fun x H1 G1 n1 q1 => by
    cases x with
    | true => replace q1 := q1.yes rfl; rw [if_pos rfl]; exact ⟨δ, G1, Qd, n1.hs, q1, fun v2 H2 G2 d2 n2 r2 q2 => k v2 H2 G2 d2 (n1.trans n2) r2 q2⟩
    | false => replace q1 := q1.no rfl; rw [if_neg Bool.false_ne_true]; exact ⟨δ, G1, Qd, n1.hs, q1, fun v2 H2 G2 d2 n2 r2 q2 => k v2 H2 G2 d2 (n1.trans n2) r2 q2⟩⟩
def rNeg (ta : RE) (δ : List Sl) (Q : D -> Prop) : Prop := ta δ fun x => match x with
  | .int i => Q (.int (-i))
  | _ => False
theorem e_neg (ha : PB2 X H0 a ta) : PE2 X H0 (.UnaryOp .USub a pos) (rNeg ta) :=
  PE.weak (pe_un un_neg ha) fun σ H Q ⟨δ, G, Qd, hs, ht, k⟩ => ⟨δ, G, _, hs, ht, fun v H1 G1 d n1 r1 q1 => by
    cases d with
    | int i => exact ⟨i, r1, k _ H1 G1 _ n1 (by simp only [Rep]) q1⟩
    | _ => exact q1.elim⟩
variable {es : List Expr} {tr : RA}
def rNil (_ : List Sl) (Q : List D -> Prop) : Prop := Q []
def rCons (t : RE) (r : RA) (δ : List Sl) (Q : List D -> Prop) : Prop := t δ fun d => r δ fun ds => Q (d :: ds)
theorem a_nil : PA2 X H0 [] rNil := PA.weak pa_nil fun σ H Q ⟨δ, G, Qd, hs, ht, k⟩ => k [] H G [] (Nx.refl hs) Reps.nil ht
theorem a_cons (ha : PE2 X H0 e t) (hr : PA2 X H0 es tr) (hs : starEach (e :: es) X.env = (false, eval e X.env) :: starEach es X.env := by rfl) : PA2 X H0 (e :: es) (rCons t tr) :=
  PA.weak (pa_cons ha hr hs) fun σ H Q ⟨δ, G, Qd, hs, ht, k⟩ => ⟨δ, G, _, hs, ht, fun v H1 G1 d n1 r1 q1 => ⟨δ, G1, _, n1.hs, q1, fun vs H2 G2 ds n2 r2 q2 => k (v :: vs) H2 G2 (d :: ds) (n1.trans n2) (Reps.cons (Rep.mono n2.g _ _ r1) r2) q2⟩⟩
def rTupD (r : RA) (δ : List Sl) (Q : D -> Prop) : Prop := r δ fun ds => ds.length <= sizeLine /\ Q (.tup ds)
def rLstD (r : RA) (δ : List Sl) (Q : D -> Prop) : Prop := r δ fun ds => ds.length <= sizeLine /\ Q (.lst ds)
theorem upd_mono {H : Hp} {p : Addr} {o : HO} (n : H p = none) : Same H (upd H p o) := fun b u q => by rw [upd_ne (ne_of_none q n)]; exact q
theorem e_tup {x1} (h : PA2 X H0 es tr) : PE2 X H0 (.Tuple es x1 pos) (rTupD tr) :=
  PE.weak (pe_tup h) fun σ H Q ⟨δ, G, Qd, hs, ht, k⟩ => ⟨δ, G, _, hs, ht, fun vs H1 G1 ds n1 r1 q1 => ⟨by rw [<- r1.length]; exact q1.1, fun p hp => by
    obtain ⟨h2, s2⟩ := n1.hs.laid (o := .tup vs) hp
    exact k _ _ _ (.tup ds) ⟨h2, n1.g.trans s2, n1.h.trans (upd_mono hp)⟩ (by simp only [Rep]; exact ⟨p, vs, rfl, upd_same, Reps.mono s2 _ _ r1⟩) q1.2⟩⟩
theorem n_lst (h : PA2 X H0 es tr) : PN2 X H0 (.List es pos) (rLstD tr) :=
  PE.weak (pe_lst h) fun σ H Q ⟨δ, G, Qd, hs, ht, k⟩ => ⟨δ, G, _, hs, ht, fun vs H1 G1 ds n1 r1 q1 => ⟨by rw [<- r1.length]; exact q1.1, fun p hp =>
    k _ _ G1 (.lst ds) (n1.hs.fresh hp ⟨vs, upd_same, r1⟩) n1.g (n1.h.trans (upd_mono hp)) q1.2⟩⟩
def dIx (x y : D) (Q : D -> Prop) : Prop := match x, y with
  | .lst ds, .int i => ∃ d, atI ds i = some d /\ Q d
  | .tup ds, .int i => ∃ d, atI ds i = some d /\ Q d
  | _, _ => False
theorem atI_rep {K : PySem.W.Frag} {G : Hp} {ds : List D} {vs : List V} {i : Int} {d : D} (r : Reps K G ds vs) (h : atI ds i = some d) : ∃ v, atI vs i = some v /\ Rep K G d v := by
  unfold atI at h ⊢; rw [<- r.length]
  cases q : ixN ds.length i with
  | none => rw [q] at h; cases h
  | some j =>
    rw [q] at h; exact r.get h
theorem lf_ix {K : PySem.W.Frag} : Lf2 K (rIx K) dIx := fun H0 σ δ G H x y dx dy Qd Q hs rx ry h k => by
  cases dx <;> cases dy <;> first | exact h.elim | skip
  · rename_i ds i
    obtain ⟨a, vs, rfl, h2, h3⟩ := rx; obtain rfl : y = .int i := ry; obtain ⟨d, q, h'⟩ := h; obtain ⟨v, e1, r1⟩ := atI_rep h3 q; exact .inr (.inl ⟨a, vs, i, v, rfl, rfl, SqT.of h2, e1, k _ H G _ (Nx.refl hs) r1 h'⟩)
  · rename_i ds i
    obtain ⟨a, vs, rfl, h2, h3⟩ := rx; obtain rfl : y = .int i := ry; obtain ⟨d, q, h'⟩ := h; obtain ⟨v, e1, r1⟩ := atI_rep h3 q; exact .inl ⟨a, vs, i, v, rfl, rfl, h2, e1, k _ H G _ (Nx.refl hs) r1 h'⟩
theorem e_ix (ha : PB2 X H0 a ta) (hb : PB2 X H0 b tb) (hp : PlainIx b := by intro _ _; rfl) : PE2 X H0 (.Subscript a b pos) (rOp dIx ta tb) :=
  PE.weak (pe_ix ix_seq ha hb hp) (lift_op lf_ix)
abbrev RO := List Sl -> (Option Int -> Prop) -> Prop
def liftO (K : PySem.W.Frag) (H0 : Hp) (t : RO) : TO := fun σ H Q => ∃ δ G Qd, Hs K H0 σ δ G H /\ t δ Qd /\ ∀ o H' G', Nx K H0 σ δ G H G' H' -> Qd o -> Q o H'
def PO2 (X : Cx) (H0 : Hp) (e : Option Expr) (t : RO) : Prop := PO X e (liftO X.K H0 t)
theorem PO.weak {X : Cx} {e : Option Expr} {t t' : TO} (h : PO X e t) (k : ∀ σ H Q, t' σ H Q -> t σ H Q) : PO X e t' := fun pins s σ H Q I hw => h pins s σ H Q I (k σ H Q hw)
theorem o_none : PO2 X H0 none (fun _ Q => Q none) := PO.weak po_none fun σ H Q ⟨δ, G, Qd, hs, ht, k⟩ => k none H G (Nx.refl hs) ht
def rPart (t : RE) (δ : List Sl) (Q : Option Int -> Prop) : Prop := t δ fun d => match d with
  | .int i => Q (some i)
  | _ => False
theorem o_some (h : PB2 X H0 e t) : PO2 X H0 (some e) (rPart t) := PO.weak (po_some h) fun σ H Q ⟨δ, G, Qd, hs, ht, k⟩ => ⟨δ, G, _, hs, ht, fun v H1 G1 d n1 r1 q1 => by
  cases d with
  | int i => exact ⟨i, r1, k _ H1 G1 n1 q1⟩
  | _ => exact q1.elim⟩
def cutD (xs : List D) (lo hi : Option Int) : List D := (xs.drop (HT.sIx xs.length 0 lo)).take (HT.sIx xs.length xs.length hi - HT.sIx xs.length 0 lo)
theorem cut_rep {K : PySem.W.Frag} {G : Hp} {ds : List D} {vs : List V} (r : Reps K G ds vs) (lo hi : Option Int) : Reps K G (cutD ds lo hi) (cutV vs lo hi) := by
  unfold cutD cutV; rw [<- r.length]; exact (r.drop _).take _
variable {lo hi : Option Expr} {tl th : RO} {p2 : Pos}
def rSlL2 (te : RE) (tl th : RO) (δ : List Sl) (Q : D -> Prop) : Prop := te δ fun d => tl δ fun l => th δ fun u => match d with
  | .lst ds => Q (.lst (cutD ds l u))
  | _ => False
theorem n_slL (he : PB2 X H0 e t) (hl : PO2 X H0 lo tl) (hu : PO2 X H0 hi th) : PN2 X H0 (.Subscript e (.Slice lo hi none p2) pos) (rSlL2 t tl th) :=
  PE.weak (pe_slice sl_list he hl hu) fun σ H Q ⟨δ, G, Qd, hs, ht, k⟩ => ⟨δ, G, _, hs, ht, fun v H1 G1 d n1 r1 q1 => ⟨δ, G1, _, n1.hs, q1, fun l H2 G2 n2 q2 => ⟨δ, G2, _, n2.hs, q2, fun u H3 G3 n3 q3 => by
    cases d with
    | lst ds =>
      obtain ⟨a, vs, rfl, h2, h3⟩ := r1.mono (n2.g.trans n3.g) (n2.h.trans n3.h); refine ⟨a, vs, rfl, h2, fun p hp => k _ _ G3 (.lst (cutD ds l u)) (n3.hs.fresh hp ⟨_, upd_same, cut_rep h3 l u⟩) ((n1.trans n2).trans n3).g (((n1.trans n2).trans n3).h.trans (upd_mono hp)) q3⟩
    | _ => exact q3.elim⟩⟩⟩
end
section
variable {X : Cx} {H0 : Hp} {e : Expr} {t : RE} {lo hi : Option Expr} {tl th : RO} {p2 pos : Pos}
def rCutT (te : RE) (tl th : RO) (δ : List Sl) (Q : D -> Prop) : Prop := te δ fun d => tl δ fun l => th δ fun u => match d with
  | .tup ds => ¬ (HT.sIx ds.length 0 l = 0 /\ HT.sIx ds.length ds.length u = ds.length) /\ Q (.tup (cutD ds l u))
  | _ => False
theorem e_slT (he : PB2 X H0 e t) (hl : PO2 X H0 lo tl) (hu : PO2 X H0 hi th) : PE2 X H0 (.Subscript e (.Slice lo hi none p2) pos) (rCutT t tl th) :=
  PE.weak (pe_slice sl_tup he hl hu) fun σ H Q ⟨δ, G, Qd, hs, ht, k⟩ => ⟨δ, G, _, hs, ht, fun v H1 G1 d n1 r1 q1 => ⟨δ, G1, _, n1.hs, q1, fun l H2 G2 n2 q2 => ⟨δ, G2, _, n2.hs, q2, fun u H3 G3 n3 q3 => by
    cases d with
    | tup ds =>
      obtain ⟨a, vs, rfl, h2, h3⟩ := r1.mono (n2.g.trans n3.g) (n2.h.trans n3.h); refine ⟨a, vs, rfl, SqT.of h2, by rw [<- h3.length]; exact q3.1, fun p hp => ?_⟩; obtain ⟨h4, s4⟩ := n3.hs.laid (o := .tup (cutV vs l u)) hp; exact k _ _ _ (.tup (cutD ds l u)) ⟨h4, ((n1.trans n2).trans n3).g.trans s4, ((n1.trans n2).trans n3).h.trans (upd_mono hp)⟩ (by simp only [Rep]; exact ⟨p, _, rfl, upd_same, Reps.mono s4 _ _ (cut_rep h3 l u)⟩) q3.2
    | _ => exact q3.elim⟩⟩⟩
end
inductive Ret where
  | val (d : D) | new (d : D) | two (a b : D) | fo (a b : D)
def RetOk (K : PySem.W.Frag) (H0 H' : Hp) (v : V) : Ret -> Prop
  | .val d => Same H0 H' /\ Rep K H' d v
  | .new d => ∃ G p, v = .ref p /\ Same H0 G /\ G p = none /\ (∀ b, b ≠ p -> G b = H' b) /\ Own K G H' p d
  | .two x y => ∃ G a p q, v = .ref a /\ Same H0 G /\ G a = some (.tup [.ref p, .ref q]) /\ p ≠ q /\ G p = none /\ G q = none /\ (∀ b, b ≠ p -> b ≠ q -> G b = H' b) /\ Own K G H' p x /\ Own K G H' q y
  | .fo x y => ∃ G a vx q, v = .ref a /\ Same H0 G /\ G a = some (.tup [vx, .ref q]) /\ Rep K G x vx /\ G q = none /\ (∀ b, b ≠ q -> G b = H' b) /\ Own K G H' q y
def RetIn (K : PySem.W.Frag) (H0 H' : Hp) (v : V) (δ' : List Sl) : Ret -> Prop
  | .val d => ∃ σ' G', Hs K H0 σ' δ' G' H' /\ Rep K G' d v
  | .new d => RetOk K H0 H' v (.new d)
  | .two x y => RetOk K H0 H' v (.two x y)
  | .fo x y => RetOk K H0 H' v (.fo x y)
theorem RetIn.ok {K : PySem.W.Frag} {H0 H' : Hp} {v : V} {δ' : List Sl} {r : Ret} (h : RetIn K H0 H' v δ' r) : RetOk K H0 H' v r := by
  cases r with
  | val d => obtain ⟨σ', G', hs, r⟩ := h; exact ⟨hs.base.trans hs.sub, Rep.mono hs.sub _ _ r⟩
  | new d => exact h
  | two x y => exact h
  | fo x y => exact h
structure Ends2 where
  nx : List Sl -> Prop
  rt : Ret -> List Sl -> Prop
  bk : List Sl -> Prop := fun _ => False
  ct : List Sl -> Prop := fun _ => False
abbrev RS := Ends2 -> List Sl -> Prop
structure Go (K : PySem.W.Frag) (H0 G : Hp) (E : Ends2) (D : Ends) : Prop where
  nx : ∀ σ' H' δ' G', Hs K H0 σ' δ' G' H' -> Same G G' -> E.nx δ' -> D.nx σ' H'
  rt : ∀ v H' r δ', RetIn K H0 H' v δ' r -> E.rt r δ' -> D.rt v H'
  bk : ∀ σ' H' δ' G', Hs K H0 σ' δ' G' H' -> Same G G' -> E.bk δ' -> D.bk σ' H'
  ct : ∀ σ' H' δ' G', Hs K H0 σ' δ' G' H' -> Same G G' -> E.ct δ' -> D.ct σ' H'
theorem Go.mono {K : PySem.W.Frag} {H0 G G1 : Hp} {E : Ends2} {D : Ends} (g : Go K H0 G E D) (s : Same G G1) : Go K H0 G1 E D :=
  ⟨fun σ' H' δ' G' h s' => g.nx σ' H' δ' G' h (s.trans s'), g.rt, fun σ' H' δ' G' h s' => g.bk σ' H' δ' G' h (s.trans s'), fun σ' H' δ' G' h s' => g.ct σ' H' δ' G' h (s.trans s')⟩
def liftS (K : PySem.W.Frag) (H0 : Hp) (t : RS) : TS := fun D σ H => ∃ δ G E, Hs K H0 σ δ G H /\ t E δ /\ Go K H0 G E D
def PS2 (X : Cx) (H0 : Hp) (st : Stmt) (t : RS) : Prop := PS X st (liftS X.K H0 t)
def PSs2 (X : Cx) (H0 : Hp) (st : List Stmt) (t : RS) : Prop := PSs X st (liftS X.K H0 t)
section
variable {X : Cx} {H0 : Hp} {e tg : Expr} {te : RE} {st : Stmt} {rest b1 b2 : List Stmt} {t u : RS} {c : Expr} {tc : RT} {pos pos' : Pos} {x : Str}
abbrev rNext (E : Ends2) (δ : List Sl) : Prop := E.nx δ
abbrev rSeq (t u : RS) (E : Ends2) (δ : List Sl) : Prop := t { E with nx := u E } δ
theorem s_nil : PSs2 X H0 [] rNext := PSs.weak pss_nil fun D σ H ⟨δ, G, E, hs, ht, g⟩ => g.nx σ H δ G hs (Same.refl _) ht
theorem s_cons (h1 : PS2 X H0 st t) (h2 : PSs2 X H0 rest u) : PSs2 X H0 (st :: rest) (rSeq t u) :=
  PSs.weak (pss_cons h1 h2) fun D σ H ⟨δ, G, E, hs, ht, g⟩ => ⟨δ, G, { E with nx := u E }, hs, ht, ⟨fun σ' H' δ' G' h' s' q => ⟨δ', G', E, h', q, g.mono s'⟩, g.rt, g.bk, g.ct⟩⟩
theorem s_one (h1 : PS2 X H0 st t) : PSs2 X H0 [st] t := PSs.weak (pss_one h1) fun D σ H z => z
def rFreeze (i : Nat) (t : RS) (E : Ends2) (δ : List Sl) : Prop := match δ[i]? with
  | some (.ow d) => t E (δ.set i (.fr d))
  | _ => False
def rRet (te : RE) (E : Ends2) (δ : List Sl) : Prop := te δ fun d => E.rt (.val d) δ
theorem s_ret (he : PE2 X H0 e te) : PS2 X H0 (.Return (some e) pos) (rRet te) :=
  PS.weak (ps_ret he) fun D σ H ⟨δ, G, E, hs, ht, g⟩ => ⟨δ, G, _, hs, ht, fun v H1 G1 d n1 r1 q1 => g.rt v H1 (.val d) δ ⟨σ, G1, n1.hs, r1⟩ q1⟩
theorem ret_new {K : PySem.W.Frag} {σ : L2.St} {δ : List Sl} {G H : Hp} {i : Nat} {d : D} {p : Addr} (hs : Hs K H0 σ δ G H) (e : δ[i]? = some (.ow d)) (e1 : σ[i]? = some (some (.ref p))) : RetOk K H0 H (.ref p) (.new d) := by
  obtain ⟨p', e2, o⟩ := hs.ow i d e; rw [e1] at e2; cases e2; have gp : G p = none := by
    rcases hs.ex p with ⟨_, z⟩ | ⟨z, _⟩
    · exact absurd ⟨_, e, True.intro, e1⟩ (z i)
    · exact z
  have s1 : Same G (fun b => if b = p then none else H b) := fun b u q => by
    have hb : b ≠ p := ne_of_none q gp
    show (if b = p then none else H b) = some u
    rw [if_neg hb]; exact hs.sub b u q
  exact ⟨fun b => if b = p then none else H b, p, rfl, hs.base.trans s1, if_pos rfl, fun b hb => if_neg hb, o.mono s1 rfl⟩
def rRetO (i : Nat) (E : Ends2) (δ : List Sl) : Prop := match δ[i]? with
  | some (.ow d) => E.rt (.new d) δ
  | _ => False
theorem s_retO (i : Nat) (hN : X.N[i]? = some x := by rfl) (hv : Vis X.env.scope x := by first | exact Or.inl rfl | exact Or.inr (Or.inl rfl) | exact Or.inr (Or.inr rfl)) (hd : (x == ("__debug__" : Str)) = false := by decide)
 (hcd : (x == ("__classdict__" : Str)) = false := by decide) : PS2 X H0 (.Return (some (.Name x pos')) pos) (rRetO i) :=
  PS.weak (ps_ret (pe_var hN hv hd hcd)) fun D σ H ⟨δ, G, E, hs, ht, g⟩ => by
    unfold rRetO at ht
    split at ht
    · rename_i d e
      obtain ⟨p, e1, o⟩ := hs.ow i d e; exact ⟨_, e1, g.rt _ H (.new d) δ (ret_new hs e e1) ht⟩
    · exact ht.elim
structure rIf (c : RT) (t u : RS) (E : Ends2) (δ : List Sl) : Prop where
  run : c δ fun b => Two b (t E δ) (u E δ)
theorem s_if (hc : PT2 X H0 c tc) (ha : PSs2 X H0 b1 t) (hb : PSs2 X H0 b2 u) : PS2 X H0 (.If c b1 b2 pos) (rIf tc t u) :=
  PS.weak (ps_if hc ha hb) fun D σ H ⟨δ, G, E, hs, ht, g⟩ => ⟨δ, G, _, hs, ht.run, fun k H1 G1 n1 q1 => by
    cases k with
    | true => rw [if_pos rfl]; exact ⟨δ, G1, E, n1.hs, q1.yes rfl, g.mono n1.g⟩
    | false => rw [if_neg Bool.false_ne_true]; exact ⟨δ, G1, E, n1.hs, q1.no rfl, g.mono n1.g⟩⟩
abbrev RG := D -> List Sl -> (List Sl -> Prop) -> Prop
def liftG (K : PySem.W.Frag) (H0 : Hp) (g : RG) : TG := fun v σ H Q => ∃ δ G d Qd, Hs K H0 σ δ G H /\ Rep K G d v /\ g d δ Qd /\ ∀ σ' H' δ' G', Hs K H0 σ' δ' G' H' -> Same G G' -> Qd δ' -> Q σ' H'
def PG2 (X : Cx) (H0 : Hp) (tg : Expr) (g : RG) : Prop := PG X tg (liftG X.K H0 g)
theorem PG.weak {X : Cx} {e : Expr} {t t' : TG} (h : PG X e t) (k : ∀ v σ H Q, t' v σ H Q -> t v σ H Q) : PG X e t' := fun pins s σ H v u Q I r hw => h pins s σ H v u Q I r (k v σ H Q hw)
def gSet (i : Nat) (d : D) (δ : List Sl) (Q : List Sl -> Prop) : Prop := match δ[i]? with
  | some (.lk _ _) => False
  | some _ => Q (δ.set i (.fr d))
  | none => False
theorem gSet_of {i : Nat} {d : D} {δ : List Sl} {Q : List Sl -> Prop} (h : gSet i d δ Q) : ∃ l, δ[i]? = some l /\ l.locked = false /\ Q (δ.set i (.fr d)) := by
  unfold gSet at h
  split at h
  · exact h.elim
  · rename_i l n e
    refine ⟨l, e, ?_, h⟩
    cases l with
    | lk p d' => exact absurd rfl (n p d')
    | _ => rfl
  · exact h.elim
theorem g_name (i : Nat) (hN : X.N.Nodup) (hi : X.N[i]? = some x := by rfl) (hx : Loc X.env.scope x := by first | exact Or.inl rfl | exact Or.inr rfl) (hf : X.fn x = true \/ X.env.scope.names.lookup x = some .local := by first | exact .inl rfl | exact .inr rfl | assumption) : PG2 X H0 (.Name x pos) (gSet i) :=
  PG.weak (pg_name hN hi hx hf) fun v σ H Q ⟨δ, G, d, Qd, hs, r, h, k⟩ => by
    obtain ⟨l, e, nl, q⟩ := gSet_of h; obtain ⟨G', h', s'⟩ := hs.put e nl r; exact k _ H _ G' h' s' q
def rSet (i : Nat) (te : RE) (E : Ends2) (δ : List Sl) : Prop := te δ fun d => gSet i d δ E.nx
theorem s_set (i : Nat) (hN : X.N.Nodup) (he : PE2 X H0 e te) (hi : X.N[i]? = some x := by rfl) (hx : Loc X.env.scope x := by first | exact Or.inl rfl | exact Or.inr rfl) (hs : swapsWith e (some (.Name x pos')) pos.line X.env = pure false := by rfl)
 (hf : X.fn x = true \/ X.env.scope.names.lookup x = some .local := by first | exact .inl rfl | exact .inr rfl | assumption) : PS2 X H0 (.Assign [.Name x pos'] e pos) (rSet i te) :=
  PS.weak (ps_set hN hi hx he hs hf) fun D σ H ⟨δ, G, E, hs, ht, g⟩ => ⟨δ, G, _, hs, ht, fun v H1 G1 d n1 r1 q1 => by
    obtain ⟨l, e, nl, q⟩ := gSet_of q1; obtain ⟨G', h', s'⟩ := n1.hs.put e nl r1
    exact g.nx _ H1 _ G' h' (n1.g.trans s') q⟩
def gOwn (i : Nat) (d : D) (δ : List Sl) (Q : List Sl -> Prop) : Prop := match δ[i]? with
  | some (.lk _ _) => False
  | some _ => Q (δ.set i (.ow d))
  | none => False
theorem gOwn_of {i : Nat} {d : D} {δ : List Sl} {Q : List Sl -> Prop} (h : gOwn i d δ Q) : ∃ l, δ[i]? = some l /\ l.locked = false /\ Q (δ.set i (.ow d)) := by
  unfold gOwn at h
  split at h
  · exact h.elim
  · rename_i l n e
    refine ⟨l, e, ?_, h⟩
    cases l with
    | lk p d' => exact absurd rfl (n p d')
    | _ => rfl
  · exact h.elim
def rSetN (i : Nat) (te : RE) (E : Ends2) (δ : List Sl) : Prop := te δ fun d => gOwn i d δ E.nx
theorem s_setN (i : Nat) (hN : X.N.Nodup) (he : PN2 X H0 e te) (hi : X.N[i]? = some x := by rfl) (hx : Loc X.env.scope x := by first | exact Or.inl rfl | exact Or.inr rfl) (hs : swapsWith e (some (.Name x pos')) pos.line X.env = pure false := by rfl)
 (hf : X.fn x = true \/ X.env.scope.names.lookup x = some .local := by first | exact .inl rfl | exact .inr rfl | assumption) : PS2 X H0 (.Assign [.Name x pos'] e pos) (rSetN i te) :=
  PS.weak (ps_set hN hi hx he hs hf) fun D σ H ⟨δ, G, E, hs, ht, g⟩ => ⟨δ, G, _, hs, ht, fun v H1 G1 d n1 sg sh q1 => by
    obtain ⟨l, e, nl, q⟩ := gOwn_of q1; obtain ⟨G', h', s'⟩ := n1.own e nl
    exact g.nx _ H1 _ G' h' (sg.trans s') q⟩
abbrev RGs := List D -> List Sl -> (List Sl -> Prop) -> Prop
def liftGs (K : PySem.W.Frag) (H0 : Hp) (g : RGs) : TGs := fun vs σ H Q => ∃ δ G ds Qd, Hs K H0 σ δ G H /\ Reps K G ds vs /\ g ds δ Qd /\ ∀ σ' H' δ' G', Hs K H0 σ' δ' G' H' -> Same G G' -> Qd δ' -> Q σ' H'
def PGs2 (X : Cx) (H0 : Hp) (ts : List Expr) (g : RGs) : Prop := PGs X ts (liftGs X.K H0 g)
theorem PGs.weak {X : Cx} {e : List Expr} {t t' : TGs} (h : PGs X e t) (k : ∀ v σ H Q, t' v σ H Q -> t v σ H Q) : PGs X e t' := fun pins s σ H v u Q I r hw => h pins s σ H v u Q I r (k v σ H Q hw)
def gNil2 (ds : List D) (δ : List Sl) (Q : List Sl -> Prop) : Prop := match ds with
  | [] => Q δ
  | _ => False
def gCons2 (g : RG) (r : RGs) (ds : List D) (δ : List Sl) (Q : List Sl -> Prop) : Prop := match ds with
  | d :: ds => g d δ fun δ1 => r ds δ1 Q
  | [] => False
theorem gs_nil : PGs2 X H0 [] gNil2 := PGs.weak pgs_nil fun vs σ H Q ⟨δ, G, ds, Qd, hs, r, h, k⟩ => by
  cases ds with
  | nil => simp only [Reps] at r; exact ⟨r, k σ H δ G hs (Same.refl _) h⟩
  | cons d ds => exact h.elim
variable {es : List Expr} {g : RG} {gs : RGs}
theorem gs_cons (h1 : PG2 X H0 e g) (h2 : PGs2 X H0 es gs) (hs : (assignEach (e :: es) X.env).map (·.2) = assign e X.env :: (assignEach es X.env).map (·.2) := by rfl) : PGs2 X H0 (e :: es) (gCons2 g gs) :=
  PGs.weak (pgs_cons h1 h2 hs) fun vs σ H Q ⟨δ, G, ds, Qd, hs, r, h, k⟩ => by
    cases ds with
    | nil => exact h.elim
    | cons d ds =>
      simp only [Reps] at r; obtain ⟨v, vr, rfl, r1, r2⟩ := r; exact ⟨v, vr, rfl, δ, G, d, _, hs, r1, h, fun σ1 H1 δ1 G1 h1 s1 q1 => ⟨δ1, G1, ds, Qd, h1, Reps.mono s1 _ _ r2, q1, fun σ2 H2 δ2 G2 h2 s2 q2 => k σ2 H2 δ2 G2 h2 (s1.trans s2) q2⟩⟩
def gTup2 (n : Nat) (gs : RGs) (d : D) (δ : List Sl) (Q : List Sl -> Prop) : Prop := match d with
  | .tup ds => ds.length = n /\ gs ds δ Q
  | _ => False
theorem g_tup {n k : Nat} (hc : X.calm = true) (h : PGs2 X H0 es gs) (hn : (assignEach es X.env).length = n := by rfl) (hst : (assignEach es X.env).findIdx? (·.1) = none := by rfl) : PG2 X H0 (.Tuple es k pos) (gTup2 n gs) :=
  PG.weak (pg_tup (n := n) hc h hn hst) fun v σ H Q ⟨δ, G, d, Qd, hs, r, h, k⟩ => by
    cases d with
    | tup ds =>
      simp only [Rep] at r; obtain ⟨a, vs, rfl, h2, h3⟩ := r; exact ⟨a, vs, rfl, SqT.of (hs.sub _ _ h2), by rw [<- h3.length]; exact h.1, δ, G, ds, Qd, hs, h3, h.2, k⟩
    | _ => exact h.elim
def rAsg (te : RE) (g : RG) (E : Ends2) (δ : List Sl) : Prop := te δ fun d => g d δ E.nx
theorem s_asg (he : PE2 X H0 e te) (hg : PG2 X H0 tg g) (hs : swapsWithSole [tg] e pos.line X.env = pure false := by rfl) (hw : swappedStores [tg] e X.env = pure none := by rfl)
 (h1 : (assignEach [tg] X.env).map (·.2) = [assign tg X.env] := by rfl) : PS2 X H0 (.Assign [tg] e pos) (rAsg te g) :=
  PS.weak (ps_asg he hg hs hw h1) fun D σ H ⟨δ, G, E, hs, ht, g⟩ => ⟨δ, G, _, hs, ht, fun v H1 G1 d n1 r1 q1 => ⟨δ, G1, d, E.nx, n1.hs, r1, q1, fun σ' H' δ' G' h' s' q => g.nx σ' H' δ' G' h' (n1.g.trans s') q⟩⟩
def loop (g : RG) (tb : RS) (E : Ends2) : List D -> List Sl -> Prop
  | [], δ => E.nx δ
  | d :: ds, δ => g d δ fun δ1 => tb { nx := fun δ2 => ∃ δ3, Fg δ2 δ3 /\ loop g tb E ds δ3, rt := E.rt, bk := E.nx, ct := fun δ2 => ∃ δ3, Fg δ2 δ3 /\ loop g tb E ds δ3 } δ1
def rForT (te : RE) (g : RG) (tb : RS) (E : Ends2) (δ : List Sl) : Prop := te δ fun d => match d with
  | .tup ds => loop g tb E ds δ
  | _ => False
variable {iter : Expr} {body : List Stmt} {tb : RS}
theorem s_forT (hp : PassesOwn (model X.prog X.w) X.A X.env X.xe) (hc : X.calm = true) (hi : PE2 X H0 iter te) (hg : PG2 X H0 tg g) (hb : PSs2 X H0 body tb) (hs : ∀ x, foldedSetIterable iter X.env x = pure x := by intro _; rfl) :
 PS2 X H0 (.For tg iter body [] pos) (rForT te g tb) :=
  PS.weak (ps_for hp hc (pi_tup hi) hg hb hs) fun D σ H ⟨δ, G, E, hs, ht, go⟩ => ⟨δ, G, _, hs, ht, fun v H1 G1 d n1 r1 q1 => by
    cases d with
    | tup ds =>
      simp only [Rep] at r1; obtain ⟨a, vs, rfl, h2, h3⟩ := r1; refine ⟨a, rfl, ⟨vs, SqT.of (n1.hs.sub _ _ h2)⟩, for_tup (K := X.K) (a := a) (xs := vs) (fun i σ' H' => ∃ δ' G', Hs X.K H0 σ' δ' G' H' /\ Same G1 G' /\ loop g tb E (ds.drop i) δ') ⟨δ, G1, n1.hs, Same.refl _, q1⟩ ?_ ?_ ?_⟩
      · rintro i σ' H' _ ⟨δ', G', h', s', _⟩
        exact SqT.of (h'.sub _ _ (s' _ _ h2))
      · rintro i x σ' H' hx ⟨δ', G', h', s', q'⟩
        obtain ⟨d, ed, rd⟩ := h3.getV hx; have hil : i < ds.length := (List.getElem?_eq_some_iff.mp ed).1; have ed' : ds[i] = d := by
          have := List.getElem?_eq_getElem hil; rw [this] at ed; exact Option.some.inj ed
        rw [List.drop_eq_getElem_cons hil, ed'] at q'; refine ⟨δ', G', d, _, h', Rep.mono s' _ _ rd, q', fun σ2 H2 δ2 G2 h2' s2 q2 => ⟨δ2, G2, _, h2', q2, ⟨fun σ3 H3 δ3 G3 h3' s3 ⟨δ4, f4, q3⟩ => ⟨δ4, G3, h3'.forget f4, (s'.trans s2).trans s3, q3⟩, go.rt, fun σ3 H3 δ3 G3 h3' s3 q3 => go.nx σ3 H3 δ3 G3 h3' (((n1.g.trans s').trans s2).trans s3) q3, fun σ3 H3 δ3 G3 h3' s3 ⟨δ4, f4, q3⟩ => ⟨δ4, G3, h3'.forget f4, (s'.trans s2).trans s3, q3⟩⟩⟩⟩
      · rintro σ' H' ⟨δ', G', h', s', q'⟩
        rw [<- h3.length, List.drop_length] at q'; exact go.nx σ' H' δ' G' h' (n1.g.trans s') q'
    | _ => exact q1.elim⟩
end
section
variable {X : Cx} {H0 : Hp} {e tg : Expr} {te : RE} {st : Stmt} {pos pos' : Pos} {x : Str} {es : List Expr} {g : RG} {gs : RGs} {iter : Expr} {body : List Stmt} {tb : RS}
def rng (lo : Int) (n : Nat) : List D := (List.range n).map fun k => D.int (lo + (k : Nat))
variable {tr : RA} {a1 a2 : Expr}
def int1 (ds : List D) (Q : Int -> Prop) : Prop := match ds with
  | [.int j] => Q j
  | _ => False
theorem int1_of {ds : List D} {Q : Int -> Prop} (h : int1 ds Q) : ∃ j, ds = [.int j] /\ Q j := by
  unfold int1 at h
  split at h
  · exact ⟨_, rfl, h⟩
  · exact h.elim
end
abbrev Sp2 := List D -> (Ret -> Prop) -> Prop
def liftSp (K : PySem.W.Frag) (sp : Sp2) : Sp := fun vs H Q _ => ∃ ds Qd, Reps K H ds vs /\ sp ds Qd /\ ∀ v H' r, RetOk K H H' v r -> Qd r -> Q v H'
section
variable {P : Program} {w : World} {K : PySem.W.Frag} {mg : Str -> Option Value} {base : Heap}
def start2 (N : List Str) (ds : List D) : List Sl := ds.map Sl.fr ++ List.replicate (N.length - ds.length) .un
theorem fun_ok {x qual : Str} {st : Stmt} {f : Addr} {fd : FuncData} {N ps : List Str} {k : Nat} {sp : Sp2} (F : Fun K x qual st f fd) (S : FnScope N ps (defScope st)) (len : ∀ ds Qd, sp ds Qd -> ds.length = ps.length)
 (hbody : ∀ (cdv : Value) (A : Around) (outer : List Env) (s : Shared) (H : Hp) (E : XK), Room k (A.deeper (envOfC qual (defScope st) s.heap.objs.size f cdv)) -> ∀ ds Qd, sp ds Qd ->
 ∃ t, PSs2 (cxOf CX0 P w K mg base N qual (defScope st) f cdv A outer s H E).nox H (defBody st) t /\ t { nx := fun _ => Qd (.val .non), rt := fun r _ => Qd r } (start2 N ds)) : FnOk P w K mg base CX0 (k + 1) f fd ps (liftSp K sp) := by
  refine F.ok S (fun vs H Q E h => ?_) (fun cdv A outer s H vs Q E hr h => ?_)
  · obtain ⟨ds, Qd, r, h1, _⟩ := h
    rw [<- r.length]; exact len ds Qd h1
  · obtain ⟨ds, Qd, r, h1, h2⟩ := h
    obtain ⟨t, ht, q⟩ := hbody cdv A outer s H E hr ds Qd h1; refine ⟨_, ht, start2 N ds, H, _, ?_, q, ⟨fun σ' H' δ' G' hs _ q => h2 _ H' (.val .non) ⟨hs.base.trans hs.sub, by simp only [Rep]⟩ q, fun v H' r' δ' ok q => h2 v H' r' ok.ok q, fun _ _ _ _ _ _ z => z.elim, fun _ _ _ _ _ _ z => z.elim⟩⟩; have e := Hs.start r (N.length - ds.length)
    show Hs K H (vs.map some ++ List.replicate (N.length - vs.length) none) _ H H
    rw [<- r.length]; exact e
end
theorem ObjOk.sub {P : Program} {w : World} {H1 H2 : Hp} {h : Heap} {a : Addr} (tp : ∀ b xs, H1 b = some (.tup xs) -> H2 b = some (.tup xs)) (ow : ∀ b c, H1 b = some (.own c) -> H2 b = some (.own c)) {o : HO} (x : ObjOk P w H1 h a o) : ObjOk P w H2 h a o :=
  x.stay (fun _ _ _ q => q) (fun b q => ow b a q) tp
section
variable {X : Cx} {H0 : Hp} {pins : List (Addr × Obj)} {σ : L2.St} {δ : List Sl} {G H : Hp} {s : Shared}
theorem Hs.nil_of (hs : Hs X.K H0 σ δ G H) {b : Addr} (n : H b = none) : G b = none /\ ∀ i, ¬ At σ δ i b := by
  rcases hs.ex b with ⟨q, a⟩ | ⟨q, i, a⟩
  · exact ⟨q.trans n, a⟩
  · obtain ⟨o, e, _⟩ := hs.soft a
    rw [n] at e; cases e
theorem Hs.env0 (hs : Hs X.K H0 σ δ G H) (I : Inv X pins σ H s) : Env0 X.prog X.w X.K X.mg X.base X.A X.stack s G := by
  have e := I.env0; refine ⟨e.frames, e.mod, fun b o q => ⟨(e.bs b o q).1, (hs.nil_of (e.bs b o q).2).1⟩, e.bsz, e.funs, fun b hb => (hs.nil_of (e.frf b hb)).1, fun a o q => ?_, e.bare⟩; exact ObjOk.sub (fun b xs z => (hs.hard z (fun y => y)).1) (fun b c z => (hs.hard z (fun y => y)).1) (e.hok a o (hs.sub a o q))
open Classical in
noncomputable def mix (σ : L2.St) (δ : List Sl) (H G1 : Hp) : Hp := fun b => if (∃ i, At σ δ i b) then H b else G1 b
theorem mix_own {G1 : Hp} {i : Nat} {b : Addr} (a : At σ δ i b) : mix σ δ H G1 b = H b := by unfold mix; exact if_pos ⟨i, a⟩
theorem mix_not {G1 : Hp} {b : Addr} (a : ∀ i, ¬ At σ δ i b) : mix σ δ H G1 b = G1 b := by unfold mix; exact if_neg fun ⟨i, z⟩ => a i z
theorem Hs.behind {Q : VK} {u : Value} {s' : Shared} (hs : Hs X.K H0 σ δ G H) (I : Inv X pins σ H s) (h : CE X.stack X.prog X.w G s Q u s') :
 ∃ v G1, Inv X pins σ (mix σ δ H G1) s' /\ RelV v u /\ Q v G1 /\ (∀ i b, At σ δ i b -> G1 b = none) := by
  obtain ⟨v, G1, os, bare, un, hok, r, q⟩ := h; have ownx : ∀ i b, At σ δ i b -> ∃ o ob, H b = some o /\ Soft o /\ s.heap.get? b = some ob /\ G b = none := fun i b a => by
    obtain ⟨o, e, so⟩ := hs.soft a; have lt := I.hok.lt e; have gb : G b = none := by
      rcases hs.ex b with ⟨_, z⟩ | ⟨z, _⟩
      · exact absurd a (z i)
      · exact z
    obtain ⟨ob, eo⟩ : ∃ ob, s.heap.get? b = some ob := by
      have := I.hok b o e
      cases o with
      | lst xs => obtain ⟨_, its, n, _, e⟩ := this; exact ⟨_, e⟩
      | dK xs => obtain ⟨_, _, _, _, ob, _, _, e, _⟩ := this; exact ⟨ob, e⟩
      | dT xs => obtain ⟨_, _, _, _, ob, _, _, e, _⟩ := this; exact ⟨ob, e⟩
      | _ => exact so.elim
    exact ⟨o, ob, e, so, eo, gb⟩
  have own1 : ∀ i b, At σ δ i b -> G1 b = none := fun i b a => by
    obtain ⟨o, ob, _, _, eo, gb⟩ := ownx i b a; exact un.free b ob eo gb (by simp)
  have keepo : ∀ i b, At σ δ i b -> ∀ ob, s.heap.get? b = some ob -> s'.heap.get? b = some ob := fun i b a ob eo => by
    obtain ⟨o, _, e, _, _, gb⟩ := ownx i b a; refine un.keep b ob eo gb (fun z => ?_) (by simp); rw [I.stkFree b z] at e; cases e
  have tp : ∀ b xs, H b = some (.tup xs) -> mix σ δ H G1 b = some (.tup xs) := fun b xs z => by
    obtain ⟨z1, z2⟩ := hs.hard z (fun y => y); rw [mix_not z2]; exact un.tups b xs z1
  refine ⟨v, G1, ?_, r, q, own1⟩; have un2 : Un (frs X.stack) [] H (mix σ δ H G1) s.heap s'.heap := by
    refine ⟨fun b o e n hb hx => un.keep b o e (hs.nil_of n).1 hb hx, fun b o e n hb hx => un.slot b o e (hs.nil_of n).1 hb hx, fun b o e n hx => ?_, un.there, tp, fun b o u' z => ?_, fun b ps z => ?_⟩
    · rw [mix_not (hs.nil_of n).2]; exact un.free b o e (hs.nil_of n).1 hx
    · obtain ⟨z1, z2⟩ := hs.hard z (fun y => y)
      rw [mix_not z2]; exact un.frzs b o u' z1
    · obtain ⟨z1, z2⟩ := hs.hard z (fun y => y)
      rw [mix_not z2]; exact un.tbls b ps z1
  have hok2 : HOk X.prog X.w (mix σ δ H G1) s'.heap := fun a o e => by
    by_cases ha : ∃ i, At σ δ i a
    · obtain ⟨i, ai⟩ := ha
      rw [mix_own ai] at e; obtain ⟨o', ob, e', so, eo, _⟩ := ownx i a ai; rw [e] at e'; cases e'; have x := I.hok a o e
      cases o with
      | lst xs => obtain ⟨z, its, n, r', e2⟩ := x; exact ⟨z, its, n, r', keepo i a ai _ e2⟩
      | dK xs => obtain ⟨z, y, vs, r', ob', es, ep, e2, c⟩ := x; exact ⟨z, y, vs, r', ob', es, ep, keepo i a ai _ e2, c⟩
      | dT xs =>
        obtain ⟨z, y, xs', r', ob', es, ep, e2, c⟩ := x; exact ⟨z, y, xs', Paired.mapP r' fun p q' z' => ⟨z'.1, tp _ _ z'.2.1, z'.2.2⟩, ob', es, ep, keepo i a ai _ e2, c⟩
      | _ => exact so.elim
    · have na : ∀ i, ¬ At σ δ i a := fun i z => ha ⟨i, z⟩
      rw [mix_not na] at e; refine ObjOk.sub (H1 := G1) (fun b xs z => ?_) (fun b c z => ?_) (hok a o e)
      · rw [mix_not fun i y => by rw [own1 i b y] at z; cases z]; exact z
      · rw [mix_not fun i y => by rw [own1 i b y] at z; cases z]; exact z
  obtain ⟨hh, gg, d, t, os'⟩ := s'; obtain rfl : os' = s.os := os; exact I.call (h' := hh) (g' := gg) (d' := d) (t' := t) (ch := []) un2 hok2 bare (fun b z => absurd z (by simp))
theorem Hs.behind_val {G1 : Hp} {d : D} {v : V} (hs : Hs X.K H0 σ δ G H) (own1 : ∀ i b, At σ δ i b -> G1 b = none) (ok : RetOk X.K G G1 v (.val d)) : Nx X.K H0 σ δ G H G1 (mix σ δ H G1) /\ Rep X.K G1 d v := by
  obtain ⟨s1, r⟩ := ok; have ex : ∀ b, (G1 b = mix σ δ H G1 b /\ ∀ i, ¬ At σ δ i b) \/ (G1 b = none /\ ∃ i, At σ δ i b) := fun b => by
    by_cases ha : ∃ i, At σ δ i b
    · obtain ⟨i, ai⟩ := ha
      exact .inr ⟨own1 i b ai, i, ai⟩
    · have na : ∀ i, ¬ At σ δ i b := fun i z => ha ⟨i, z⟩
      exact .inl ⟨(mix_not na).symm, na⟩
  refine ⟨⟨⟨hs.len, hs.base.trans s1, ex, fun i d e => ?_, fun i d e => ?_, fun i p ds e => ?_, hs.ne⟩, s1, fun b o e => ?_⟩, r⟩
  · obtain ⟨v, e1, r1⟩ := hs.fr i d e
    exact ⟨v, e1, Rep.mono s1 _ _ r1⟩
  · obtain ⟨p, e1, o⟩ := hs.ow i d e
    exact ⟨p, e1, o.mono s1 (mix_own ⟨_, e, True.intro, e1⟩)⟩
  · obtain ⟨e1, o⟩ := hs.lk i p ds e
    exact ⟨e1, o.mono s1 (mix_own ⟨_, e, True.intro, e1⟩)⟩
  · rcases hs.ex b with ⟨q, a⟩ | ⟨q, i, a⟩
    · rw [mix_not a]; exact s1 b o (q.trans e)
    · rw [mix_own a]; exact e
theorem Hs.behind_own {G1 G2 : Hp} {d : D} {p : Addr} (hs : Hs X.K H0 σ δ G H) (own1 : ∀ i b, At σ δ i b -> G1 b = none) (s2 : Same G G2) (gp : G2 p = none) (eq : ∀ b, b ≠ p -> G2 b = G1 b) (o : Own X.K G2 G1 p d) :
 Hs X.K H0 (some (.ref p) :: σ) (.ow d :: δ) G2 (mix σ δ H G1) /\ Same H (mix σ δ H G1) := by
  obtain ⟨ob, eo, so⟩ := o.soft; have nap : ∀ i, ¬ At σ δ i p := fun i a => by rw [own1 i p a] at eo; cases eo
  have mp : mix σ δ H G1 p = G1 p := mix_not nap; have sm : Same H (mix σ δ H G1) := fun b u e => by
    rcases hs.ex b with ⟨q, a⟩ | ⟨q, i, a⟩
    · rw [mix_not a]
      have e2 := s2 b u (q.trans e); have hb : b ≠ p := ne_of_none e2 gp; rw [<- eq b hb]; exact e2
    · rw [mix_own a]; exact e
  have a0 : ∀ b, At (some (.ref p) :: σ) (.ow d :: δ) 0 b ↔ b = p := fun b => by
    rw [at_zero]
    constructor
    · rintro ⟨_, z⟩; cases z; rfl
    · rintro rfl; exact ⟨True.intro, rfl⟩
  refine ⟨⟨by simp [hs.len], hs.base.trans s2, fun b => ?_, fun j d' q => ?_, fun j d' q => ?_, fun j q' es q => ?_, fun j k b a1 a2 => ?_⟩, sm⟩
  · by_cases hb : b = p
    · subst hb; exact .inr ⟨gp, 0, (a0 b).mpr rfl⟩
    · rcases hs.ex b with ⟨z1, z2⟩ | ⟨z1, j, z2⟩
      · refine .inl ⟨by rw [mix_not z2]; exact eq b hb, fun j a => ?_⟩
        cases j with
        | zero => exact hb ((a0 b).mp a)
        | succ j => exact z2 j (at_cons.mp a)
      · exact .inr ⟨by rw [eq b hb]; exact own1 j b z2, j + 1, at_cons.mpr z2⟩
  · cases j with
    | zero => simp at q
    | succ j =>
      obtain ⟨v, e1, r1⟩ := hs.fr j d' (by simpa using q); exact ⟨v, by simpa using e1, Rep.mono s2 _ _ r1⟩
  · cases j with
    | zero =>
      simp at q; subst q; exact ⟨p, rfl, o.mono (Same.refl _) mp⟩
    | succ j =>
      have q' : δ[j]? = some (.ow d') := by simpa using q
      obtain ⟨b, w1, w2⟩ := hs.ow j d' q'; exact ⟨b, by simpa using w1, w2.mono s2 (mix_own ⟨_, q', True.intro, w1⟩)⟩
  · cases j with
    | zero => simp at q
    | succ j =>
      have q'' : δ[j]? = some (.lk q' es) := by simpa using q
      obtain ⟨w1, w2⟩ := hs.lk j q' es q''; exact ⟨by simpa using w1, w2.mono s2 (mix_own ⟨_, q'', True.intro, w1⟩)⟩
  · cases j with
    | zero =>
      cases k with
      | zero => rfl
      | succ k =>
        have z := (a0 b).mp a1; subst z; exact absurd (at_cons.mp a2) (nap k)
    | succ j =>
      cases k with
      | zero =>
        have z := (a0 b).mp a2; subst z; exact absurd (at_cons.mp a1) (nap j)
      | succ k =>
        have := hs.ne j k b (at_cons.mp a1) (at_cons.mp a2); omega
theorem Hs.behind_new {G1 : Hp} {d : D} {v : V} (hs : Hs X.K H0 σ δ G H) (own1 : ∀ i b, At σ δ i b -> G1 b = none) (ok : RetOk X.K G G1 v (.new d)) :
 ∃ G2, Hs X.K H0 (some v :: σ) (.ow d :: δ) G2 (mix σ δ H G1) /\ Same G G2 /\ Same H (mix σ δ H G1) := by
  obtain ⟨G2, p, rfl, s2, gp, eq, o⟩ := ok; obtain ⟨h1, h2⟩ := hs.behind_own own1 s2 gp eq o; exact ⟨G2, h1, s2, h2⟩
theorem Hs.behind_two {G1 : Hp} {x y : D} {v : V} (hs : Hs X.K H0 σ δ G H) (own1 : ∀ i b, At σ δ i b -> G1 b = none) (ok : RetOk X.K G G1 v (.two x y)) :
 ∃ G2 a p q, v = .ref a /\ G2 a = some (.tup [.ref p, .ref q]) /\ Hs X.K H0 (some (.ref p) :: some (.ref q) :: σ) (.ow x :: .ow y :: δ) G2 (mix σ δ H G1) /\ Same G G2 /\ Same H (mix σ δ H G1) := by
  obtain ⟨G2, a, p, q, rfl, s2, ga, ne, gp, gq, eq, ox, oy⟩ := ok; obtain ⟨o1, e1, _⟩ := ox.soft; have nap : ∀ i, ¬ At σ δ i p := fun i z => by rw [own1 i p z] at e1; cases e1
  let G3 : Hp := fun b => if b = p then none else G1 b
  have g3 : ∀ b, b ≠ p -> G3 b = G1 b := fun b hb => if_neg hb
  obtain ⟨h1, h2⟩ := hs.behind_own (G1 := G3) (G2 := G2) (d := y) (p := q) (fun i b z => by
      by_cases hb : b = p
      · exact if_pos hb
      · rw [g3 b hb]; exact own1 i b z) s2 gq (fun b hb => by
      by_cases hp : b = p
      · subst hp; rw [gp]; exact (if_pos rfl).symm
      · rw [g3 b hp]; exact eq b hp hb) (oy.mono (Same.refl _) (g3 q (fun z => ne z.symm)))
  have m3 : mix σ δ H G1 = upd (mix σ δ H G3) p o1 := by
    funext b
    by_cases hb : b = p
    · subst hb; rw [upd_same, mix_not nap]; exact e1
    · rw [upd_ne hb]
      by_cases ha : ∃ i, At σ δ i b
      · obtain ⟨i, ai⟩ := ha; rw [mix_own ai, mix_own ai]
      · rw [mix_not fun i z => ha ⟨i, z⟩, mix_not fun i z => ha ⟨i, z⟩, g3 b hb]
  have n3 : mix σ δ H G3 p = none := by rw [mix_not nap]; exact if_pos rfl
  refine ⟨G2, a, p, q, rfl, ga, ?_, s2, ?_⟩
  · rw [m3]
    exact h1.fresh n3 (ox.mono (Same.refl _) (by rw [upd_same, e1]))
  · rw [m3]; exact h2.trans (upd_mono n3)
end
structure Fn2 (P : Program) (w : World) (K : PySem.W.Frag) (mg : Str -> Option Value) (base : Heap) (k : Nat) (x : Str) (sp : Sp2) : Prop where
  ex : ∃ (f : Addr) (fd : FuncData) (ps : List Str), FnOk P w K mg base CX0 k f fd ps (liftSp K sp) /\ mg x = some (.ref f) /\ PySem.W.keepIn K (.ref f) = true /\ Binds K fd ps []
section
variable {X : Cx} {H0 : Hp} {k : Nat} {x : Str} {sp : Sp2} {e : Expr} {es : List Expr} {tr : RA} {p pos : Pos}
theorem run_fn2 {pins : List (Addr × Obj)} {σ : L2.St} {δ : List Sl} {G H : Hp} {s : Shared} {f : Addr} {fd : FuncData} {ps : List Str} {us : List Value} {vs : List V} {ds : List D} {Qd : Ret -> Prop} {Q : Value -> Shared -> Prop}
 (F : FnOk X.prog X.w X.K X.mg X.base CX0 k f fd ps (liftSp X.K sp)) (hr : Room k X.A) (hb : Binds X.K fd ps []) (hs : Hs X.K H0 σ δ G H) (I : Inv X pins σ H s) (r : Vals vs us) (rd : Reps X.K G ds vs) (h : sp ds Qd)
 (q : ∀ v G1 r u s', Inv X pins σ (mix σ δ H G1) s' -> RelV v u -> (∀ i b, At σ δ i b -> G1 b = none) -> RetOk X.K G G1 v r -> Qd r -> Q u s') : wpAny (model X.prog X.w) X.A (call (.ref f) us) Q X.xe s := by
  have hh : liftSp X.K sp vs G (fun v G1 => ∃ r, RetOk X.K G G1 v r /\ Qd r) E0 := ⟨ds, Qd, rd, h, fun v H' r ok q => ⟨r, ok, q⟩⟩; have hl : us.length = ps.length := by rw [<- r.length]; exact F.len _ _ _ _ hh
  have hbt : BindsTo s fd ⟨us, []⟩ (ps.zip us) := by simpa using hb s us I.kIn (by simpa using hl)
  refine wpAny_call (codeAny_mono (F.run X.A X.stack s G ⟨us, []⟩ us vs _ E0 hr (hs.env0 I) hbt r hh) fun r s' hq => ?_)
  cases r with
  | error e => exact False.elim hq
  | ok fl =>
    cases fl with
    | ret u =>
      obtain ⟨v, G1, I1, rv, ⟨r, ok, q1⟩, own1⟩ := hs.behind I hq; exact q v G1 r u s' I1 rv own1 ok q1
    | next => exact False.elim hq
    | brk => exact False.elim hq
    | cont => exact False.elim hq
def retQ (Qd : D -> Prop) (r : Ret) : Prop := match r with
  | .val d => Qd d
  | .new d => Qd d
  | .two x y => Qd (.tup [x, y])
  | .fo x y => Qd (.tup [x, y])
def rCall (sp : Sp2) (tr : RA) (δ : List Sl) (Q : D -> Prop) : Prop := tr δ fun ds => sp ds (retQ Q)
theorem e_call (F : Fn2 X.prog X.w X.K X.mg X.base k x sp) (hr : Room k X.A) (ha : PA2 X H0 (e :: es) tr) (hg : Gl X x := by rfl) (hdb : (x == ("__debug__" : Str)) = false := by decide)
 (he : starEach (e :: es) X.env = (false, eval e X.env) :: starEach es X.env := by rfl) (hpl : (backTo pos (starEach es X.env)).any (·.1) = false := by rfl) : PE2 X H0 (.Call (.Name x p) (e :: es) [] pos) (rCall sp tr) := by
  obtain ⟨f, fd, ps, F, hm, hk, hb⟩ := F.ex; intro pins s σ H Q I ⟨δ, G, Qd, hs, ht, kk⟩; refine wpAny_Call_Name_kw (ld_glob I hg hm ?_ hdb); have hA : liftA X.K H0 tr σ H (fun vs H' => ∃ G' ds, Nx X.K H0 σ δ G H G' H' /\ Reps X.K G' ds vs /\ sp ds (retQ Qd)) := ⟨δ, G, _, hs, ht, fun vs H' G' ds n r q => ⟨G', ds, n, r, q⟩⟩; refine PySem.W.callWith_K (h₀ := X.base) I.ok.mod.kin hk (thn (ha pos pins s σ H _ I hA) fun us s1 ⟨vs, H1, I1, r, G', ds, n, rd, q⟩ => ⟨I1.kIn, ?_⟩) he hpl; refine run_fn2 F hr hb n.hs I1 r rd q fun v G1 r u s' I2 rv own1 ok q2 => ?_
  cases r with
  | val d =>
    obtain ⟨n2, r2⟩ := n.hs.behind_val own1 ok; exact ⟨v, _, I2, rv, kk v _ _ d (n.trans n2) r2 q2⟩
  | new d =>
    obtain ⟨G2, n2, sg, sh⟩ := n.hs.behind_new own1 ok; obtain ⟨G3, n3, s3, r3⟩ := n2.settle; exact ⟨v, _, I2, rv, kk v _ _ d ⟨n3, (n.g.trans sg).trans s3, n.h.trans sh⟩ r3 q2⟩
  | two x y =>
    obtain ⟨G2, a, p, q, rfl, ga, n2, sg, sh⟩ := n.hs.behind_two own1 ok; obtain ⟨G3, n3, s3, r3⟩ := n2.settle; obtain ⟨G4, n4, s4, r4⟩ := n3.settle; exact ⟨_, _, I2, rv, kk _ _ _ (.tup [x, y]) ⟨n4, ((n.g.trans sg).trans s3).trans s4, n.h.trans sh⟩ (by simp only [Rep]; exact ⟨a, _, rfl, s4 _ _ (s3 _ _ ga), Reps.cons (Rep.mono s4 _ _ r3) (Reps.cons r4 Reps.nil)⟩) q2⟩
  | fo x y =>
    obtain ⟨G2, a, vx, q, rfl, s2, ga, rx, gq, eq, oy⟩ := ok; obtain ⟨n2, sh⟩ := n.hs.behind_own own1 s2 gq eq oy; obtain ⟨G3, n3, s3, r3⟩ := n2.settle; exact ⟨_, _, I2, rv, kk _ _ _ (.tup [x, y]) ⟨n3, (n.g.trans s2).trans s3, n.h.trans sh⟩ (by simp only [Rep]; exact ⟨a, _, rfl, s3 _ _ ga, Reps.cons (Rep.mono s3 _ _ rx) (Reps.cons r3 Reps.nil)⟩) q2⟩
end
section
variable {prog : Program} {w : World} {A : Around} {E : Value -> Shared -> Prop}
theorem draw_list {it t : Addr} {items : Array Value} (hne : t ≠ it) : ∀ (n i : Nat) (s : Shared) (Q : List Value -> Shared -> Prop), s.heap.IsListIter it t i -> s.heap.IsList t items -> i + n <= items.size ->
 (∀ h', h'.IsListIter it t (i + n) -> Heap.SameBut it s.heap h' -> Q ((items.toList.drop i).take n) { s with heap := h' }) -> wpAny (model prog w) A (draw (.ref it) n) Q E s
  | 0, i, s, Q, hit, _, _, hQ => by
    show wpAny _ _ (pure []) Q E s
    exact wpAny_pure (by simpa using hQ s.heap hit (Heap.SameBut.refl ..))
  | n + 1, i, s, Q, hit, ht, hle, hQ => by
    have hlt : i < items.size := by omega
    show wpAny _ _ (pyNext (.ref it) >>= _) Q E s
    refine wpAny_bind (wpAny_pyNext_list_item hit ht (x := items[i]) (by simp [hlt]) fun h₁ hit₁ hs₁ => ?_); refine wpAny_bind (wpAny_holding (draw_list hne n (i + 1) _ _ hit₁ (ht.at fun o e => (hs₁.2 t hne).trans e) (by omega) fun h₂ hit₂ hs₂ => wpAny_pure ?_)); have hd : items.toList.drop i = items[i] :: items.toList.drop (i + 1) := by simp [List.drop_eq_getElem_cons, hlt]
    have := hQ h₂ (by rw [show i + (n + 1) = i + 1 + n by omega]; exact hit₂) (hs₁.trans hs₂); rw [hd, List.take_succ_cons] at this; exact this
theorem unpackItems_list {s : Shared} {t : Addr} {items : Array Value} {Q : List Value -> Shared -> Prop} (hh : A.handled = none) (ht : s.heap.IsList t items)
 (hQ : ∀ h', Heap.ExtBut s.heap.objs.size s.heap h' -> Q items.toList { s with heap := h' }) : wpAny (model prog w) A (unpackItems (.ref t) items.size none) Q E s := by
  have hlt : t ≠ s.heap.objs.size := by obtain ⟨o, ho, _⟩ := ht; exact Nat.ne_of_lt (Heap.lt_size ho)
  unfold unpackItems; refine wpAny_bind ?_
  · unfold notIterableAtAll
    refine wpAny_bind (wpAny_specialOf ht.typeIs PySem.slot_list_iter.lookup ?_); refine wpAny_pure ?_; simp only [Bool.false_eq_true, if_false]; refine wpAny_bind (wpAny_holding (wpAny_pyIter_list ht ?_)); refine wpAny_bind (wpAny_holding (draw_list hlt items.size 0 _ _ ⟨_, Heap.get?_push_size _ rfl, rfl, rfl⟩ (ht.at fun o e => Heap.get?_push_of_some _ e) (by omega) fun h₁ hit₁ hs₁ => ?_)); have hall : List.take items.size (List.drop 0 items.toList) = items.toList := by
      rw [List.drop_zero]; exact List.take_of_length_le (by simp)
    rw [hall]; rw [if_neg (by simp)]; have ht₁ : h₁.IsList t items := ht.at fun o e => (hs₁.2 t hlt).trans (Heap.get?_push_of_some _ e)
    refine wpAny_bind (wpAny_holding (wpAny_pyNext_list_end hh hit₁ ht₁ (by simp) fun h₂ he₂ => ?_)); simp only [Option.isSome_none, Bool.false_eq_true, if_false]; refine wpAny_pure (hQ h₂ fun b o hb e => he₂ b o hb (hs₁.extBut b o hb (Heap.get?_push_of_some _ e)))
theorem assign_Tuple_list {s : Shared} {env : Env} {elts : List Expr} {x1} {pos : Pos} {t : Addr} {items : Array Value} {Q : Unit -> Shared -> Prop} (hh : A.handled = none) (ht : s.heap.IsList t items)
 (hn : (assignEach elts env).length = items.size) (hstar : (assignEach elts env).findIdx? (·.1) = none)
 (h : ∀ h', Heap.ExtBut s.heap.objs.size s.heap h' -> wpAny (model prog w) A (assignInOrder ((assignEach elts env).map (·.2)) items.toList) Q E { s with heap := h' }) :
 wpAny (model prog w) A (assign (.Tuple elts x1 pos) env (.ref t)) Q E s := by
  rw [PyProof.Rows.assign_Tuple]; refine wpAny_bind (wpAny_standAt ?_); unfold unpack; rw [hn, hstar]; exact wpAny_bind (wpAny_holding (unpackItems_list hh ht h))
end
section
variable {X : Cx} {H0 : Hp} {es : List Expr} {gs : RGs} {pos : Pos}
def gLstT (K : PySem.W.Frag) (n : Nat) (t : TGs) : TG := fun v σ H Q => ∃ a xs, v = .ref a /\ SqL K H a xs /\ xs.length = n /\ t xs σ H Q
theorem pg_lst {es : List Expr} {k : Nat} {t : TGs} {n : Nat} (hc : X.calm = true) (h : PGs X es t)
 (hn : (assignEach es X.env).length = n := by rfl) (hst : (assignEach es X.env).findIdx? (·.1) = none := by rfl) : PG X (.Tuple es k pos) (gLstT X.K n t) := by
  intro pins s σ H v u Q I r hw; obtain ⟨a, xs, e1, hq, hl, hw⟩ := hw; subst e1; cases r; obtain ⟨its, rv, ht, hz⟩ := I.list hq; refine assign_Tuple_list (I.ok.hd hc) ht.isList (by simp [hn, <- hl, rv.length]) hst fun h' hx => ?_
  have I1 : L2.Inv X pins σ H { s with heap := h' } := I.kept (t' := s.toks) fun b o e => hx b o (Nat.ne_of_lt (Heap.lt_size e)) e
  exact h pins _ σ H xs _ Q I1 (by simpa using rv) hw
def gLst2 (n : Nat) (gs : RGs) (d : D) (δ : List Sl) (Q : List Sl -> Prop) : Prop := match d with
  | .lst ds => ds.length = n /\ gs ds δ Q
  | _ => False
theorem g_lst {n k : Nat} (hc : X.calm = true) (h : PGs2 X H0 es gs) (hn : (assignEach es X.env).length = n := by rfl) (hst : (assignEach es X.env).findIdx? (·.1) = none := by rfl) : PG2 X H0 (.Tuple es k pos) (gLst2 n gs) :=
  PG.weak (pg_lst (n := n) hc h hn hst) fun v σ H Q ⟨δ, G, d, Qd, hs, r, h, k⟩ => by
    cases d with
    | lst ds =>
      simp only [Rep] at r; obtain ⟨a, vs, rfl, h2, h3⟩ := r; exact ⟨a, vs, rfl, hs.sub.seq h2, by rw [<- h3.length]; exact h.1, δ, G, ds, Qd, hs, h3, h.2, k⟩
    | _ => exact h.elim
end
section
def Ite (K : PySem.W.Frag) (a : Addr) : It :=
  ⟨fun i H => ∃ xs x, SqL K H a xs /\ xs[i]? = some x, fun i H x H' => ∃ p y, H p = none /\ x = .ref p /\ (∀ xs, SqL K H a xs -> xs[i]? = some y) /\ H' = upd H p (.tup [.int i, y]), fun i H => ∃ xs, SqL K H a xs /\ xs.length <= i⟩
theorem turn_enum {P : Program} {w : World} {K : PySem.W.Frag} {ts : List Expr} {k : Nat} {tp : Pos} (a e it : Addr) (hne : e ≠ it) : Turn P w K (.Tuple ts k tp) (Ite K a) [e, it] e (fun i h => (∃ old, IsEnum h e it i old) /\ h.IsListIter it a i) where
  mem := by simp
  obj := fun i h st b hb => by
    obtain ⟨⟨old, h1⟩, o, h2, c, d⟩ := st
    rcases List.mem_cons.mp hb with z | z
    · subst z; exact ⟨_, h1, fun v z => by cases z⟩
    · have z : b = it := by simpa using z
      subst z; exact ⟨o, h2, fun v z => by rw [d] at z; cases z⟩
  keep := fun i h h' st k => by
    obtain ⟨⟨old, h1⟩, h2⟩ := st; exact ⟨⟨old, k e (by simp) _ h1⟩, h2.at fun o q => k it (by simp) o q⟩
  item := by
    intro X hP hw hK hc i pins s σ H E I hf st hg; subst hP hw hK; obtain ⟨xs, x, hq, hx⟩ := hg; obtain ⟨its, rv, p, hz⟩ := I.list hq; obtain ⟨u, hu, ru⟩ := rv.get hx; obtain ⟨⟨old, h1⟩, h2⟩ := st; obtain ⟨f0, f1, f2, f3, f4, f5⟩ := hf e (by simp); obtain ⟨g0, g1, g2, g3, g4, g5⟩ := hf it (by simp); have fr : H s.heap.objs.size = none := I.hok.fresh (Nat.le_refl _); refine wpAny_pyNext_enum_item h1 h2 p.isList (x := u) (by simpa using hu) hne fun h' ho hit' hT hsz hk => ⟨_, rfl, ?_⟩
    have elt : e < s.heap.objs.size := Heap.lt_size h1; have ilt : it < s.heap.objs.size := by obtain ⟨o, q, _⟩ := h2; exact Heap.lt_size q
    refine wpAny_letOwnedTupleGo_enum ho fun h3 he3 hs3 => ?_
    replace hs3 : Heap.SameBut e h' h3 := hs3; have kk : ∀ b o, b ≠ e -> b ≠ it -> s.heap.get? b = some o -> h3.get? b = some o := fun b o hb hb' q => (hs3.2 b hb).trans (hk b o hb hb' q)
    have nit : ∀ b u, H b = some u -> b ≠ e /\ b ≠ it := fun b u q => ⟨(fun z => by rw [z, f0] at q; cases q), (fun z => by rw [z, g0] at q; cases q)⟩
    have hT3 : h3.get? s.heap.objs.size = some { cls := .type "tuple", data := .seq #[.int i s.toks, u] } := (hs3.2 _ (Nat.ne_of_gt elt)).trans hT; refine ⟨.ref s.heap.objs.size, upd H s.heap.objs.size (.tup [.int i, x]), ?_, rfl, ⟨_, x, fr, rfl, fun ys hy => by rw [I.list_inj hy hq]; exact hx, rfl⟩, ⟨⟨u, by simpa using he3⟩, hit'.at fun o q => (hs3.2 it hne.symm).trans q⟩, fun b hb => ?_⟩
    · suffices h : L2.Inv X pins σ (upd H s.heap.objs.size (.tup [.int i, x])) { s with heap := h3, gens := s.gens, drawn := s.drawn, toks := s.toks + 1 } from h
      refine I.step (g' := s.gens) (d' := s.drawn) (ch := [e, it]) (h' := h3) (t' := s.toks + 1) (fun b hb => ?_) (fun b o _ _ hc e' _ => ?_) (fun b o _ _ hc e' _ => ⟨o.slots, ?_⟩) (fun b o hc e' n => ?_) (fun b o hc e' => ⟨o, ?_⟩) (fun b ys q => ?_) (fun b o u' q => ?_) (fun b ps q => ⟨#[], ?_⟩) (fun m hm => ?_) (fun b o q => ?_) I.bare
      · rcases List.mem_cons.mp hb with z | z
        · subst z; exact ⟨f3, f1, f4, f5⟩
        · have z : b = it := by simpa using z
          subst z; exact ⟨g3, g1, g4, g5⟩
      · exact kk b o (fun z => hc (by simp [z])) (fun z => hc (by simp [z])) e'
      · exact kk b o (fun z => hc (by simp [z])) (fun z => hc (by simp [z])) e'
      · rw [upd_ne (Nat.ne_of_lt (Heap.lt_size e'))]; exact n
      · exact kk b o (fun z => hc (by simp [z])) (fun z => hc (by simp [z])) e'
      · rw [upd_ne (ne_of_none q fr)]; exact q
      · rw [upd_ne (ne_of_none q fr)]; exact q
      · rw [upd_ne (ne_of_none q fr), q]; simp
      · obtain ⟨o, es, ep, ho', r⟩ := hm
        exact ⟨o, es, ep, kk _ o f1.symm g1.symm ho', r⟩
      · by_cases hb : b = s.heap.objs.size
        · subst hb
          rw [upd_same] at q; cases q; exact ⟨by show 2 <= sizeLine; decide, [.int i s.toks, u], .cons ⟨_, rfl⟩ (.cons ru .nil), ⟨_, hT3, rfl, _, rfl⟩⟩
        · rw [upd_ne hb] at q
          refine (I.hok b o q).stay (fun c v hc z => ?_) (fun c z => ?_) (fun c ys z => ?_)
          · rcases hc with y | y
            · rw [y] at z ⊢; exact kk b v (nit b _ q).1 (nit b _ q).2 z
            · exact kk c v (nit c _ y).1 (nit c _ y).2 z
          · rw [upd_ne (ne_of_none z fr)]; exact z
          · rw [upd_ne (ne_of_none z fr)]; exact z
    · have hb' : b ≠ s.heap.objs.size := by
        rcases List.mem_cons.mp hb with z | z
        · subst z; exact Nat.ne_of_lt elt
        · have z : b = it := by simpa using z
          subst z; exact Nat.ne_of_lt ilt
      rw [upd_ne hb']; exact (hf b hb).1
  done := by
    intro X hP hw hK hc i pins s σ H E I hf st hg; subst hP hw hK; obtain ⟨xs, hq, hx⟩ := hg; obtain ⟨its, rv, p, hz⟩ := I.list hq; obtain ⟨⟨old, h1⟩, h2⟩ := st; obtain ⟨f0, f1, f2, f3, f4, f5⟩ := hf it (by simp); have hl := rv.length; exact wpAny_pyNext_enum_end (I.ok.hd hc) h1 h2 p.isList (by simp; omega) fun h' eb => ⟨rfl, I.turned (t' := s.toks) (fun b o hb e => eb b o hb e) f0 f1 f3 f4 f5⟩
  self := fun _ _ _ _ _ st h => by
    obtain ⟨⟨old, h1⟩, _⟩ := st; exact wpAny_pyIter_enum h1 h
variable {X : Cx} {H0 : Hp}
def iEnum (K : PySem.W.Frag) (ta : TA) : TI := fun σ H R => ta σ H fun vs H1 => ∃ a, vs = [.ref a] /\ (∃ xs, SqL K H1 a xs) /\ R (Ite K a) H1
theorem pi_enum {ts : List Expr} {k : Nat} {tp : Pos} {a : Expr} {ta : TA} {p pos : Pos} (hg : Gl X "enumerate") (hm : X.mg "enumerate" = none) (ha : PA X [a] ta) (hs : starEach [a] X.env = [(false, eval a X.env)] := by rfl) :
 PI X (.Tuple ts k tp) (.Call (.Name "enumerate" p) [a] [] pos) (iEnum X.K ta) := by
  intro pins s σ H R I h; refine wpAny_Call_Name_kw (ld_blt I hg hm (u := .type "enumerate") rfl ?_); refine PyProof.Rows.callWith_type1 (thn (ha pos pins s σ H _ I h) fun us s1 ⟨vs, H1, I1, r1, q1⟩ => ?_) hs rfl; obtain ⟨l, e, ⟨xs, hq⟩, q⟩ := q1; subst e; obtain ⟨u, rfl, ru⟩ := vals1 r1; cases ru; obtain ⟨its, rv, pl, hz⟩ := I1.list hq; refine call_enumerate_list pl.isList fun h' he hit hsz hk => ?_
  refine wpAny_pyIter_enum he ?_
  have I2 : L2.Inv X pins σ H1 { s1 with heap := h' } := I1.kept (t' := s1.toks) hk; refine ⟨s1.heap.objs.size + 1, [s1.heap.objs.size + 1, s1.heap.objs.size], _, _, H1, rfl, I2, turn_enum l _ _ (Nat.succ_ne_self _), ⟨⟨_, by simpa using he⟩, hit⟩, fun b hb => ?_, q⟩; have hb' : s1.heap.objs.size <= b := by
    rcases List.mem_cons.mp hb with z | z
    · rw [z]; exact Nat.le_succ _
    · have z : b = s1.heap.objs.size := by simpa using z
      rw [z]; exact Nat.le_refl _
  exact I1.fpOk hb' (I1.hok.fresh hb')
def enumD (n : Nat) : List D -> List D
  | [] => []
  | d :: ds => .tup [.int n, d] :: enumD (n + 1) ds
theorem enumD_length (n : Nat) (ds : List D) : (enumD n ds).length = ds.length := by
  induction ds generalizing n with
  | nil => rfl
  | cons d ds ih => simp [enumD, ih]
theorem enumD_drop : ∀ (n i : Nat) (ds : List D) (d : D), ds[i]? = some d -> (enumD n ds).drop i = .tup [.int (n + i : Nat), d] :: (enumD n ds).drop (i + 1)
  | n, _, [], _, h => by simp at h
  | n, 0, d' :: ds, d, h => by simp at h; subst h; simp [enumD]
  | n, i + 1, d' :: ds, d, h => by
    have := enumD_drop (n + 1) i ds d (by simpa using h); simp only [enumD, List.drop_succ_cons]; rw [this]; simp only [Nat.add_assoc, Nat.add_comm 1 i]
def lst1 (ds : List D) (Q : List D -> Prop) : Prop := match ds with
  | [.lst xs] => Q xs
  | _ => False
theorem lst1_of {ds : List D} {Q : List D -> Prop} (h : lst1 ds Q) : ∃ xs, ds = [.lst xs] /\ Q xs := by
  unfold lst1 at h
  split at h
  · exact ⟨_, rfl, h⟩
  · exact h.elim
def rForE (tr : RA) (g : RG) (tb : RS) (E : Ends2) (δ : List Sl) : Prop := tr δ fun ds => lst1 ds fun xs => loop g tb E (enumD 0 xs) δ
variable {ts : List Expr} {k : Nat} {tp p pos pos2 : Pos} {a : Expr} {tr : RA} {g : RG} {tb : RS} {body : List Stmt}
theorem s_forE (hp : PassesOwn (model X.prog X.w) X.A X.env X.xe) (hc : X.calm = true) (hgl : Gl X "enumerate") (hm : X.mg "enumerate" = none) (ha : PA2 X H0 [a] tr) (hg : PG2 X H0 (.Tuple ts k tp) g) (hb : PSs2 X H0 body tb) (hst : starEach [a] X.env = [(false, eval a X.env)] := by rfl)
 (hs : ∀ x, foldedSetIterable (.Call (.Name "enumerate" p) [a] [] pos2) X.env x = pure x := by intro _; rfl) : PS2 X H0 (.For (.Tuple ts k tp) (.Call (.Name "enumerate" p) [a] [] pos2) body [] pos) (rForE tr g tb) :=
  PS.weak (ps_for hp hc (pi_enum hgl hm ha hst) hg hb hs) fun D σ H ⟨δ, G, E, hs, ht, go⟩ => ⟨δ, G, _, hs, ht, fun vs H1 G1 ds n1 r1 q1 => by
    obtain ⟨xs, rfl, q2⟩ := lst1_of q1; simp only [Reps, Rep] at r1; obtain ⟨v, r, rfl, ⟨l, ws, rfl, h2, h3⟩, rfl⟩ := r1; refine ⟨l, rfl, ⟨ws, n1.hs.sub.seq h2⟩, fun i m σ' H' => m = ws.length - i /\ i <= ws.length /\ ∃ δ' G', Hs X.K H0 σ' δ' G' H' /\ Same G1 G' /\ loop g tb E ((enumD 0 xs).drop i) δ', ⟨ws.length, by simp, Nat.zero_le _, δ, G1, n1.hs, Same.refl _, q2⟩, ?_⟩; rintro i m σ' H' ⟨rfl, hi, δ', G', h', s', q'⟩; have sq : SqL X.K H' l ws := h'.sub.seq (s'.seq h2)
    by_cases hlt : i < ws.length
    · have hx : ws[i]? = some ws[i] := by simp [hlt]
      obtain ⟨d, ed, rd⟩ := h3.getV hx; rw [enumD_drop 0 i xs d ed] at q'; refine .inr ⟨⟨ws, ws[i], sq, hx⟩, fun σ2 H2 => ∃ δ' G', Hs X.K H0 σ2 δ' G' H2 /\ Same G1 G' /\ loop g tb E ((enumD 0 xs).drop (i + 1)) δ', fun σ2 H2 z => ⟨ws.length - (i + 1), by omega, rfl, hlt, z⟩, fun x H2 ⟨p, y, hp, ex, hy, eh⟩ => ?_⟩; subst ex eh; have ey : ws[i] = y := by
        have := hy ws sq; rw [hx] at this; exact Option.some.inj this
      obtain ⟨h4, s4⟩ := h'.laid (o := .tup [.int i, y]) hp; refine ⟨δ', _, .tup [.int (0 + i : Nat), d], _, h4, ?_, q', fun σ2 H2 δ2 G2 h2' s2 q2 => ⟨δ2, G2, _, h2', q2, ⟨fun σ3 H3 δ3 G3 h3' s3 ⟨δ4, f4, q3⟩ => ⟨δ4, G3, h3'.forget f4, ((s'.trans s4).trans s2).trans s3, q3⟩, go.rt, fun σ3 H3 δ3 G3 h3' s3 q3 => go.nx σ3 H3 δ3 G3 h3' ((((n1.g.trans s').trans s4).trans s2).trans s3) q3, fun σ3 H3 δ3 G3 h3' s3 ⟨δ4, f4, q3⟩ => ⟨δ4, G3, h3'.forget f4, ((s'.trans s4).trans s2).trans s3, q3⟩⟩⟩⟩; simp only [Rep]; refine ⟨p, _, rfl, upd_same, Reps.cons (by simp only [Rep]; rw [Nat.zero_add]) (Reps.cons ?_ Reps.nil)⟩; subst ey; exact Rep.mono (s'.trans s4) _ _ rd
    · have e : i = ws.length := by omega
      subst e; refine .inl ⟨⟨ws, sq, Nat.le_refl _⟩, go.nx σ' H' δ' G' h' (n1.g.trans s') ?_⟩; rw [List.drop_of_length_le (by rw [enumD_length, h3.length]; exact Nat.le_refl _)] at q'
      exact q'⟩
end
def RepsB (K : PySem.W.Frag) (G H : Hp) : List D -> List V -> Prop
  | [], vs => vs = []
  | d :: ds, vs => ∃ v r, vs = v :: r /\ RepB K G H d v /\ RepsB K G H ds r
def liftAB (K : PySem.W.Frag) (H0 : Hp) (t : RA) : TA := fun σ H Q => ∃ δ G Qd, Hs K H0 σ δ G H /\ t δ Qd /\ ∀ vs H' G' ds, Nx K H0 σ δ G H G' H' -> RepsB K G' H' ds vs -> Qd ds -> Q vs H'
def PAB2 (X : Cx) (H0 : Hp) (es : List Expr) (t : RA) : Prop := PA X es (liftAB X.K H0 t)
section
variable {X : Cx} {H0 : Hp} {e : Expr} {t : RE} {pos p : Pos} {es : List Expr} {tr : RA} {x : Str} {id T : String}
theorem ab_nil : PAB2 X H0 [] rNil := PA.weak pa_nil fun σ H Q ⟨δ, G, Qd, hs, ht, k⟩ => k [] H G [] (Nx.refl hs) rfl ht
theorem ab_cons (ha : PB2 X H0 e t) (hr : PAB2 X H0 es tr) (hs : starEach (e :: es) X.env = (false, eval e X.env) :: starEach es X.env := by rfl) : PAB2 X H0 (e :: es) (rCons t tr) :=
  PA.weak (pa_cons ha hr hs) fun σ H Q ⟨δ, G, Qd, hs, ht, k⟩ => ⟨δ, G, _, hs, ht, fun v H1 G1 d n1 r1 q1 => ⟨δ, G1, _, n1.hs, q1, fun vs H2 G2 ds n2 r2 q2 => k (v :: vs) H2 G2 (d :: ds) (n1.trans n2) ⟨v, vs, rfl, r1.mono n2.g n2.h, r2⟩ q2⟩⟩
def LfC (K : PySem.W.Frag) (r : List V -> Hp -> VK -> Prop) (r2 : List D -> (D -> Prop) -> Prop) : Prop :=
  ∀ (H0 : Hp) (σ : L2.St) (δ : List Sl) (G H : Hp) (vs : List V) (ds : List D) (Qd : D -> Prop) (Q : VK), Hs K H0 σ δ G H -> RepsB K G H ds vs -> r2 ds Qd -> (∀ v H' G' d, Nx K H0 σ δ G H G' H' -> Rep K G' d v -> Qd d -> Q v H') -> r vs H Q
def rCB (r2 : List D -> (D -> Prop) -> Prop) (tr : RA) (δ : List Sl) (Q : D -> Prop) : Prop := tr δ fun ds => r2 ds Q
variable {r : List V -> Hp -> VK -> Prop} {r2 : List D -> (D -> Prop) -> Prop}
theorem lift_cb (lf : LfC X.K r r2) : ∀ σ H Q, liftE X.K H0 (rCB r2 tr) σ H Q -> tCB r (liftAB X.K H0 tr) σ H Q := fun σ H Q ⟨δ, G, Qd, hs, ht, k⟩ =>
  ⟨δ, G, _, hs, ht, fun vs H1 G1 ds n1 r1 q1 => lf H0 σ δ G1 H1 vs ds Qd Q n1.hs r1 q1 fun v H2 G2 d n2 rr q2 => k v H2 G2 d (n1.trans n2) rr q2⟩
theorem e_callB (hc : CallR X (.builtin id) r) (lf : LfC X.K r r2) (hm : X.mg x = none) (hv : bootBuiltins x = some (.builtin id)) (ha : PAB2 X H0 (e :: es) tr) (hg : Gl X x := by rfl) (hn : x ≠ "__name__" := by decide) (hdb : (x == ("__debug__" : Str)) = false := by decide)
 (he : starEach (e :: es) X.env = (false, eval e X.env) :: starEach es X.env := by rfl) (hpl : (backTo pos (starEach es X.env)).any (·.1) = false := by rfl) : PE2 X H0 (.Call (.Name x p) (e :: es) [] pos) (rCB r2 tr) :=
  PE.weak (pe_callB hc hg hm hv ha hn hdb he hpl) (lift_cb lf)
theorem e_callTy (hc : CallR X (.type T) r) (lf : LfC X.K r r2) (hm : X.mg x = none) (hv : bootBuiltins x = some (.type T)) (ha : PAB2 X H0 (e :: es) tr) (hg : Gl X x := by rfl) (hn : x ≠ "__name__" := by decide) (hdb : (x == ("__debug__" : Str)) = false := by decide)
 (he : starEach (e :: es) X.env = (false, eval e X.env) :: starEach es X.env := by rfl) (hpl : (backTo pos (starEach es X.env)).any (·.1) = false := by rfl) : PE2 X H0 (.Call (.Name x p) (e :: es) [] pos) (rCB r2 tr) :=
  PE.weak (pe_callTy hc hg hm hv ha hn hdb he hpl) (lift_cb lf)
def dLen (ds : List D) (Q : D -> Prop) : Prop := match ds with
  | [.lst xs] => Q (.int xs.length)
  | [.tup xs] => Q (.int xs.length)
  | _ => False
theorem lf_len {K : PySem.W.Frag} : LfC K (fun xs H Q => ∃ p ys, xs = [.ref p] /\ (SqL K H p ys \/ SqT K H p ys) /\ Q (.int ys.length) H) dLen := fun H0 σ δ G H vs ds Qd Q hs r h k => by
  unfold dLen at h
  split at h
  · rename_i xs
    obtain ⟨v, rr, rfl, ⟨a, ws, rfl, h2, h3⟩, h4⟩ := r; obtain rfl : rr = [] := h4; exact ⟨a, ws, rfl, .inl h2, k _ H G _ (Nx.refl hs) (by simp only [Rep]; rw [h3.length]) h⟩
  · rename_i xs
    obtain ⟨v, rr, rfl, ⟨a, ws, rfl, h2, h3⟩, h4⟩ := r; obtain rfl : rr = [] := h4; exact ⟨a, ws, rfl, .inr (SqT.of h2), k _ H G _ (Nx.refl hs) (by simp only [Rep]; rw [h3.length]) h⟩
  · exact h.elim
theorem e_len (hm : X.mg "len" = none) (ha : PAB2 X H0 (e :: es) tr) (hg : Gl X "len" := by rfl)
 (he : starEach (e :: es) X.env = (false, eval e X.env) :: starEach es X.env := by rfl) (hpl : (backTo pos (starEach es X.env)).any (·.1) = false := by rfl) : PE2 X H0 (.Call (.Name "len" p) (e :: es) [] pos) (rCB dLen tr) :=
  e_callB call_len_seq lf_len hm PySem.boot_len ha hg (by decide) (by decide) he hpl
end
section
variable {X : Cx} {H0 : Hp} {e : Expr} {t : RE} {pos cpos apos p : Pos} {x : Str}
def rApp (i : Nat) (te : RE) (E : Ends2) (δ : List Sl) : Prop := match δ[i]? with
  | some (.ow (.lst ds)) => te δ fun d => ds.length < sizeLine /\ E.nx (δ.set i (.ow (.lst (ds ++ [d]))))
  | _ => False
theorem s_app (i : Nat) (he : PE2 X H0 e t) (hN : X.N[i]? = some x := by rfl) (hv : Vis X.env.scope x := by first | exact Or.inl rfl | exact Or.inr (Or.inl rfl) | exact Or.inr (Or.inr rfl)) (hd : (x == ("__debug__" : Str)) = false := by decide)
 (hcd : (x == ("__classdict__" : Str)) = false := by decide)
 (hbase : attributeBase (.Name x p) "append" X.env (eval (.Name x p) X.env) = eval (.Name x p) X.env := by rfl)
 (hfew : ((backTo cpos (starEach [e] X.env)).all (fun x => !x.1) && (backToKw cpos (keywordEach [] X.env)).all (fun x => x.1.isSome)
 && decide ([e].length + ([] : List Keyword).length + (if ([] : List Keyword).isEmpty then 0 else 1) < 30)) = true := by rfl)
 (hline : (apos.endLine == cpos.line) = true := by rfl) (hs : starEach [e] X.env = (false, eval e X.env) :: starEach [] X.env := by rfl) (hplain : (backTo cpos (starEach [] X.env)).any (·.1) = false := by rfl)
 (hsw : swapsWith (.Call (.Attribute (.Name x p) "append" apos) [e] [] cpos) none pos.line X.env = pure false := by rfl) :
 PS2 X H0 (.Expr (.Call (.Attribute (.Name x p) "append" apos) [e] [] cpos) pos) (rApp i t) :=
  PS.weak (ps_expr (pe_bm PySem.F.plainAttrs_list PySem.F.slot_list_append PySem.F.type_list_append mt_append (pe_var hN hv hd hcd) (pa_cons he pa_nil hs) hbase hfew hline hs hplain) hsw) fun D σ H ⟨δ, G, E, hs, ht, go⟩ => by
    unfold rApp at ht
    split at ht
    · rename_i ds e0
      obtain ⟨q, e1, vs, h1, h2⟩ := hs.ow i _ e0; refine ⟨.ref q, e1, .inl ⟨rfl, vs, SqL.of h1⟩, δ, G, _, hs, ht, fun v H1 G1 d n1 r1 q1 => ?_⟩; obtain ⟨q', e1', vs', h1', h2'⟩ := n1.hs.ow i _ e0; rw [e1] at e1'; cases e1'; refine ⟨q, vs', v, rfl, rfl, h1', by rw [<- h2'.length]; exact q1.1, ?_⟩; exact go.nx _ _ _ G1 (n1.hs.write (d' := .lst (ds ++ [d])) e0 e1 ⟨_, upd_same, Reps.append h2' (Reps.cons r1 Reps.nil)⟩) n1.g q1.2
    · exact ht.elim
end
theorem loop_ind {g : RG} {tb : RS} {E : Ends2} (I : List D -> List Sl -> Prop) (fin : ∀ δ, I [] δ -> E.nx δ)
 (step : ∀ d r δ (L : List Sl -> Prop), (∀ δ2 δ3, I r δ3 -> Fg δ2 δ3 -> L δ2) -> I (d :: r) δ -> g d δ fun δ1 => tb { nx := L, rt := E.rt, bk := E.nx, ct := L } δ1) : ∀ ds δ, I ds δ -> loop g tb E ds δ
  | [], δ, h => fin δ h
  | d :: r, δ, h => step d r δ (fun δ2 => ∃ δ3, Fg δ2 δ3 /\ loop g tb E r δ3) (fun δ2 δ3 h' f => ⟨δ3, f, loop_ind I fin step r δ3 h'⟩) h
theorem gSet_ok {i : Nat} {d : D} {δ : List Sl} {Q : List Sl -> Prop} {l : Sl} (e : δ[i]? = some l) (nl : l.locked = false) (q : Q (δ.set i (.fr d))) : gSet i d δ Q := by
  unfold gSet; rw [e]
  cases l with
  | lk p d => cases nl
  | _ => exact q
theorem cmulR {i j : Int} (h1 : -(2 ^ 64) < j := by decide) (h2 : j < 2 ^ 64 := by decide) : CMul i j := .inr ⟨h1, h2⟩
theorem cmulL {i j : Int} (h1 : -(2 ^ 64) < i := by decide) (h2 : i < 2 ^ 64 := by decide) : CMul i j := .inl ⟨h1, h2⟩
theorem cpow {i j : Int} (h1 : 0 <= j := by decide) (h2 : j <= 1000000 := by decide) (h3 : i.natAbs < 2 ^ 64 := by decide) : CPow i j := ⟨h1, h2, h3⟩
theorem atI_map {ns : List Int} {n : Nat} (h : n < ns.length) : atI (ns.map D.int) (n : Int) = some (.int (ns.getD n 0)) := atI_nat (by simp [h])
section
variable {c : RT} {t u : RS} {E : Ends2} {δ : List Sl}
end
def RdT (t : RT) (δ : List Sl) (b : Bool) : Prop := ∀ Q : Bool -> Prop, Q b -> t δ Q
def RdE (t : RE) (δ : List Sl) (d : D) : Prop := ∀ Q : D -> Prop, Q d -> t δ Q
section
variable {δ : List Sl} {u v : RT} {ta tb : RE} {b1 b2 : Bool}
theorem or_by (h1 : RdT u δ b1) (h2 : b1 = false -> RdT v δ b2) : RdT (rOr u v) δ (b1 || b2) := fun Q q => h1 _ ⟨(fun e => by subst e; exact q), (fun e => by subst e; exact h2 rfl Q q)⟩
theorem and_by (h1 : RdT u δ b1) (h2 : b1 = true -> RdT v δ b2) : RdT (rAnd u v) δ (b1 && b2) := fun Q q => h1 _ ⟨(fun e => by subst e; exact h2 rfl Q q), (fun e => by subst e; exact q)⟩
theorem not_by (h1 : RdT u δ b1) : RdT (rNot u) δ (!b1) := fun Q q => h1 _ q
theorem orV_by (h1 : RdE ta δ (.bl b1)) (h2 : b1 = false -> RdE tb δ (.bl b2)) : RdE (rOrV ta tb) δ (.bl (b1 || b2)) := fun Q q => h1 _ ⟨(fun e => by subst e; exact q), (fun e => by subst e; exact h2 rfl Q q)⟩
theorem andV_by (h1 : RdE ta δ (.bl b1)) (h2 : b1 = true -> RdE tb δ (.bl b2)) : RdE (rAndV ta tb) δ (.bl (b1 && b2)) := fun Q q => h1 _ ⟨(fun e => by subst e; exact h2 rfl Q q), (fun e => by subst e; exact q)⟩
theorem notV_by (h1 : RdE ta δ (.bl b1)) : RdE (rNotV ta) δ (.bl (!b1)) := fun Q q => h1 _ q
theorem RdT.eq (h : RdT u δ b1) (e : b1 = b2) : RdT u δ b2 := e ▸ h
theorem RdE.eq {d d' : D} (h : RdE ta δ d) (e : d = d') : RdE ta δ d' := e ▸ h
theorem or_ff (h1 : RdT u δ false) (h2 : RdT v δ false) : RdT (rOr u v) δ false := or_by h1 fun _ => h2
theorem and_f (h1 : RdT u δ false) : RdT (rAnd u v) δ false := fun Q q => h1 _ (Two.f q)
theorem or_t (h1 : RdT u δ true) : RdT (rOr u v) δ true := fun Q q => h1 _ (Two.t q)
theorem andV_tt (h1 : RdE ta δ (.bl true)) (h2 : RdE tb δ (.bl true)) : RdE (rAndV ta tb) δ (.bl true) := andV_by h1 fun _ => h2
end
section
variable {c : RT} {t u : RS} {E : Ends2} {δ : List Sl} {te : RE}
theorem if_t (h : RdT c δ true) (k : t E δ) : rIf c t u E δ := ⟨h _ (Two.t k)⟩
theorem if_f (h : RdT c δ false) (k : u E δ) : rIf c t u E δ := ⟨h _ (Two.f k)⟩
theorem if_by {b : Bool} (h : RdT c δ b) (k1 : b = true -> t E δ) (k2 : b = false -> u E δ) : rIf c t u E δ := ⟨h _ ⟨k1, k2⟩⟩
theorem if_p {p : Prop} [Decidable p] (h : RdT c δ (decide p)) (k1 : p -> t E δ) (k2 : ¬ p -> u E δ) : rIf c t u E δ := ⟨h _ (Two.dec k1 k2)⟩
theorem if_eq {p : Prop} [Decidable p] (h : RdT c δ (false != decide p)) (k1 : p -> t E δ) (k2 : ¬ p -> u E δ) : rIf c t u E δ := if_p (h.eq (by cases decide p <;> rfl)) k1 k2
theorem ret_by {d : D} (h : RdE te δ d) (q : E.rt (.val d) δ) : rRet te E δ := h _ q
end
inductive Drawn : List Int -> List Int -> Prop where
  | nil : Drawn [] []
  | cons {d s : Int} {ds ss : List Int} (h0 : 0 <= d) (h1 : d < s) (h : Drawn ds ss) : Drawn (d :: ds) (s :: ss)
theorem Drawn.one {s1 : Int} {P : List Int -> Prop} (h : ∀ a : Int, 0 <= a -> a < s1 -> P [a]) : ∀ out, Drawn out [s1] -> P out := fun out w => by
  cases w with | cons a0 a1 w => cases w with | nil => exact h _ a0 a1
theorem Drawn.snoc {out ss : List Int} {d s : Int} (h : Drawn out ss) (h0 : 0 <= d) (h1 : d < s) : Drawn (out ++ [d]) (ss ++ [s]) := by
  induction h with
  | nil => exact .cons h0 h1 .nil
  | cons a b _ ih => exact .cons a b ih
theorem cpos {n : Int} (h : 0 < n := by decide) : 0 < n := h
theorem sz1 : 1 <= sizeLine := by decide
theorem sz2 : 2 <= sizeLine := by decide
theorem sz3 : 3 <= sizeLine := by decide
theorem sz4 : 4 <= sizeLine := by decide
theorem sz5 : 5 <= sizeLine := by decide
theorem sz8 : 8 <= sizeLine := by decide
mutual
def eqD : D -> D -> Bool
  | .non, y => match y with
    | .non => true
    | _ => false
  | .bl a, y => match y with
    | .bl b => a == b
    | .int b => (if a then 1 else 0) == b
    | _ => false
  | .int a, y => match y with
    | .bl b => a == (if b then 1 else 0)
    | .int b => a == b
    | _ => false
  | .str a, y => match y with
    | .str b => a == b
    | _ => false
  | .tup xs, y => match y with
    | .tup ys => eqDs xs ys
    | _ => false
  | .lst xs, y => match y with
    | .lst ys => eqDs xs ys
    | _ => false
  | .dK _, _ => false
  | .dT _, _ => false
  | .adr _, _ => false
def eqDs : List D -> List D -> Bool
  | [], ys => match ys with
    | [] => true
    | _ => false
  | x :: xs, ys => match ys with
    | y :: ys => eqD x y && eqDs xs ys
    | _ => false
end
def plainD : Nat -> D -> Bool
  | _, .non => true
  | _, .bl _ => true
  | _, .int _ => true
  | _, .str _ => true
  | n + 1, .tup xs => xs.all (plainD n)
  | n + 1, .lst xs => xs.all (plainD n)
  | _, _ => false
theorem eqDs_len : ∀ {xs ys : List D}, eqDs xs ys = true -> xs.length = ys.length
  | [], [], _ => rfl
  | [], _ :: _, h => by simp [eqDs] at h
  | _ :: _, [], h => by simp [eqDs] at h
  | x :: xs, y :: ys, h => by
    simp only [eqDs, Bool.and_eq_true] at h; simp [eqDs_len h.2]
theorem eqDs_range : ∀ (xs ys : List D), xs.length = ys.length -> (List.range xs.length).all (fun j => eqD (xs.getD j .non) (ys.getD j .non)) = eqDs xs ys
  | [], [], _ => rfl
  | [], _ :: _, h => by simp at h
  | _ :: _, [], h => by simp at h
  | x :: xs, y :: ys, h => by
    have ih := eqDs_range xs ys (by simpa using h); rw [List.length_cons, List.range_succ_eq_map, List.all_cons, List.all_map, eqDs]; rw [<- ih]; rfl
mutual
theorem eqD_self : ∀ (n : Nat) (d : D), plainD n d = true -> eqD d d = true
  | _, .non, _ => by simp [eqD]
  | _, .bl _, _ => by simp [eqD]
  | _, .int _, _ => by simp [eqD]
  | _, .str _, _ => by simp [eqD]
  | 0, .tup _, h => by simp [plainD] at h
  | 0, .lst _, h => by simp [plainD] at h
  | n + 1, .tup xs, h => by simp only [plainD] at h; simp only [eqD]; exact eqDs_self n xs h
  | n + 1, .lst xs, h => by simp only [plainD] at h; simp only [eqD]; exact eqDs_self n xs h
  | n, .dK _, h => by cases n <;> simp [plainD] at h
  | n, .dT _, h => by cases n <;> simp [plainD] at h
  | n, .adr _, h => by cases n <;> simp [plainD] at h
theorem eqDs_self : ∀ (n : Nat) (xs : List D), xs.all (plainD n) = true -> eqDs xs xs = true
  | _, [], _ => by simp [eqDs]
  | n, x :: xs, h => by
    rw [List.all_cons, Bool.and_eq_true] at h; simp only [eqDs, Bool.and_eq_true]; exact ⟨eqD_self n x h.1, eqDs_self n xs h.2⟩
end
section
variable {X : Cx} {pins : List (Addr × Obj)} {σ : L2.St} {H G : Hp} {s : Shared}
open SeqAt
theorem lst_tup_apart {K : PySem.W.Frag} {a : Addr} {xs ys : List V} (I : L2.Inv X pins σ H s) (h1 : SqL X.K H a xs) (h2 : SqT X.K H a ys) : False := by
  obtain ⟨its, r, pl, _⟩ := I.list h1; obtain ⟨its', r', pt, _⟩ := I.tuple h2; exact ne_of_list_tuple pl.isList pt rfl
mutual
theorem rep_eq (I : L2.Inv X pins σ H s) : ∀ (n : Nat) (d d' : D) (v : V), plainD n d = true -> plainD n d' = true -> Rep X.K H d v -> Rep X.K H d' v -> eqD d d' = true := fun n d d' v p p' r r' => by
  cases d with
  | adr _ => cases n <;> simp [plainD] at p
  | dK _ => cases n <;> simp [plainD] at p
  | dT _ => cases n <;> simp [plainD] at p
  | non => cases d' <;> simp_all [Rep, eqD]
  | bl b => cases d' <;> simp_all [Rep, eqD]
  | int b => cases d' <;> simp_all [Rep, eqD]
  | str b => cases d' <;> simp_all [Rep, eqD]
  | tup xs =>
    simp only [Rep] at r; obtain ⟨a, vs, rfl, h1, h2⟩ := r
    cases d' with
    | tup ys =>
      simp only [Rep] at r'; obtain ⟨a', ws, e, h3, h4⟩ := r'; cases e; obtain rfl := I.tuple_inj (SqT.of h1) (SqT.of h3)
      cases n with
      | zero => simp [plainD] at p
      | succ n =>
        simp only [plainD] at p p'; simp only [eqD]; exact reps_eq I n xs ys _ p p' h2 h4
    | lst ys =>
      simp only [Rep] at r'; obtain ⟨a', ws, e, h3, h4⟩ := r'; cases e; exact (lst_tup_apart (K := X.K) I h3 (SqT.of h1)).elim
    | dK _ => cases n <;> simp [plainD] at p'
    | dT _ => cases n <;> simp [plainD] at p'
    | adr _ => cases n <;> simp [plainD] at p'
    | _ => simp [Rep] at r'
  | lst xs =>
    simp only [Rep] at r; obtain ⟨a, vs, rfl, h1, h2⟩ := r
    cases d' with
    | lst ys =>
      simp only [Rep] at r'; obtain ⟨a', ws, e, h3, h4⟩ := r'; cases e; obtain rfl := I.list_inj h1 h3
      cases n with
      | zero => simp [plainD] at p
      | succ n =>
        simp only [plainD] at p p'; simp only [eqD]; exact reps_eq I n xs ys _ p p' h2 h4
    | tup ys =>
      simp only [Rep] at r'; obtain ⟨a', ws, e, h3, h4⟩ := r'; cases e; exact (lst_tup_apart (K := X.K) I h1 (SqT.of h3)).elim
    | dK _ => cases n <;> simp [plainD] at p'
    | dT _ => cases n <;> simp [plainD] at p'
    | adr _ => cases n <;> simp [plainD] at p'
    | _ => simp [Rep] at r'
termination_by n => (n, 0)
theorem reps_eq (I : L2.Inv X pins σ H s) : ∀ (n : Nat) (xs ys : List D) (vs : List V), xs.all (plainD n) = true -> ys.all (plainD n) = true -> Reps X.K H xs vs -> Reps X.K H ys vs -> eqDs xs ys = true
  | n, [], ys, vs, _, _, h1, h2 => by
    simp only [Reps] at h1; subst h1
    cases ys with
    | nil => simp [eqDs]
    | cons y ys => simp [Reps] at h2
  | n, x :: xs, ys, vs, p, p', h1, h2 => by
    simp only [Reps] at h1; obtain ⟨v, r, rfl, h3, h4⟩ := h1
    cases ys with
    | nil => simp [Reps] at h2
    | cons y ys =>
      simp only [Reps] at h2; obtain ⟨v', r', e, h5, h6⟩ := h2; cases e; rw [List.all_cons, Bool.and_eq_true] at p p'; simp only [eqDs, Bool.and_eq_true]; exact ⟨rep_eq I n x y v p.1 p'.1 h3 h5, reps_eq I n xs ys r p.2 p'.2 h4 h6⟩
termination_by n xs => (n, xs.length + 1)
end
end
section
variable {X : Cx} {pins : List (Addr × Obj)} {σ : L2.St} {H G : Hp} {s : Shared}
open SeqAt
theorem items_eq {A : Around} {n : Nat} {xs ys : List D} {vs ws : List V} {its its2 : List Value} (hx : Reps X.K H xs vs) (hy : Reps X.K H ys ws) (rx : Vals vs its) (ry : Vals ws its2) (px : xs.all (plainD n) = true) (py : ys.all (plainD n) = true)
 (ih : ∀ d d' v v' u u', plainD n d = true -> plainD n d' = true -> Rep X.K H d v -> Rep X.K H d' v' -> L2.RelV v u -> L2.RelV v' u' -> EqAt A s u u' (eqD d d')) :
 ∀ j (h1 : j < its.toArray.size) (h2 : j < its2.toArray.size), EqAt A s its.toArray[j] its2.toArray[j] (eqD (xs.getD j .non) (ys.getD j .non)) := by
  intro j h1 h2; have l1 : its.length = xs.length := by rw [<- rx.length, hx.length]
  have l2 : its2.length = ys.length := by rw [<- ry.length, hy.length]
  have h1' : j < xs.length := by simpa [l1] using h1
  have h2' : j < ys.length := by simpa [l2] using h2
  obtain ⟨v, ev, rv⟩ := hx.get (i := j) (d := xs[j]) (by simp [h1']); obtain ⟨v', ev', rv'⟩ := hy.get (i := j) (d := ys[j]) (by simp [h2']); obtain ⟨u, eu, ru⟩ := rx.get ev; obtain ⟨u', eu', ru'⟩ := ry.get ev'; have e1 : its.toArray[j] = u := by
    have : its[j]? = some its[j] := by simp [l1, h1']
    rw [this] at eu; simpa using eu
  have e2 : its2.toArray[j] = u' := by
    have : its2[j]? = some its2[j] := by simp [l2, h2']
    rw [this] at eu'; simpa using eu'
  have g1 : xs.getD j .non = xs[j] := by simp [List.getD, h1']
  have g2 : ys.getD j .non = ys[j] := by simp [List.getD, h2']
  rw [e1, e2, g1, g2]; exact ih _ _ v v' u u' (List.all_eq_true.mp px _ (List.getElem_mem h1')) (List.all_eq_true.mp py _ (List.getElem_mem h2')) rv rv' ru ru'
theorem lists_at {A : Around} {n : Nat} {xs ys : List D} {vs ws : List V} {a b : Addr} (I : L2.Inv X pins σ H s) (ha : SqL X.K H a vs) (hb : SqL X.K H b ws) (hx : Reps X.K H xs vs) (hy : Reps X.K H ys ws) (px : xs.all (plainD n) = true) (py : ys.all (plainD n) = true) (hu : A.units < cLine)
 (ih : ∀ d d' v v' u u', plainD n d = true -> plainD n d' = true -> Rep X.K H d v -> Rep X.K H d' v' -> L2.RelV v u -> L2.RelV v' u' -> EqAt A.in1 s u u' (eqD d d')) : RcAt A s (.ref a) (.ref b) (eqDs xs ys) /\ RcNeAt A s (.ref a) (.ref b) (!eqDs xs ys) := by
  obtain ⟨its, rx, pl, _⟩ := I.list ha; obtain ⟨its2, ry, pl2, _⟩ := I.list hb; have l1 : its.length = xs.length := by rw [<- rx.length, hx.length]
  have l2 : its2.length = ys.length := by rw [<- ry.length, hy.length]
  by_cases hl : xs.length = ys.length
  · have e := eqDs_range xs ys hl
    have it := items_eq hx hy rx ry px py ih; rw [<- e, <- l1]; exact ⟨RcAt.lists pl.isList pl2.isList (by simp [l1, l2, hl]) hu it, RcNeAt.lists pl.isList pl2.isList (by simp [l1, l2, hl]) hu it⟩
  · have e : eqDs xs ys = false := by
      cases q : eqDs xs ys with
      | false => rfl
      | true => exact absurd (eqDs_len q) hl
    rw [e]; exact ⟨RcAt.lists_lengths pl.isList pl2.isList (by simp [l1, l2, hl]) hu, RcNeAt.lists_lengths pl.isList pl2.isList (by simp [l1, l2, hl]) hu⟩
theorem tuples_at {A : Around} {n : Nat} {xs ys : List D} {vs ws : List V} {a b : Addr} (I : L2.Inv X pins σ H s) (ha : SqT X.K H a vs) (hb : SqT X.K H b ws) (hx : Reps X.K H xs vs) (hy : Reps X.K H ys ws) (px : xs.all (plainD n) = true) (py : ys.all (plainD n) = true) (hu : A.units < cLine)
 (ih : ∀ d d' v v' u u', plainD n d = true -> plainD n d' = true -> Rep X.K H d v -> Rep X.K H d' v' -> L2.RelV v u -> L2.RelV v' u' -> EqAt A.in1 s u u' (eqD d d')) : RcAt A s (.ref a) (.ref b) (eqDs xs ys) /\ RcNeAt A s (.ref a) (.ref b) (!eqDs xs ys) := by
  obtain ⟨its, rx, pl, _⟩ := I.tuple ha; obtain ⟨its2, ry, pl2, _⟩ := I.tuple hb; have l1 : its.length = xs.length := by rw [<- rx.length, hx.length]
  have l2 : its2.length = ys.length := by rw [<- ry.length, hy.length]
  have it := items_eq hx hy rx ry px py ih; have e : ((List.range (min its.toArray.size its2.toArray.size)).all (fun j => eqD (xs.getD j .non) (ys.getD j .non)) && its.toArray.size == its2.toArray.size) = eqDs xs ys := by
    simp only [List.size_toArray, l1, l2]
    by_cases hl : xs.length = ys.length
    · rw [<- eqDs_range xs ys hl, <- hl, Nat.min_self]; simp
    · have e : eqDs xs ys = false := by
        cases q : eqDs xs ys with
        | false => rfl
        | true => exact absurd (eqDs_len q) hl
      rw [e, beq_false_of_ne hl, Bool.and_false]
  have r1 := RcAt.tuples pl pl2 hu it; have r2 := RcNeAt.tuples pl pl2 hu it; rw [e] at r1; refine ⟨r1, ?_⟩
  first | (rw [e] at r2; exact r2) | (rw [<- e]; exact r2)
theorem both_at (I : L2.Inv X pins σ H s) : ∀ (n : Nat) (A : Around) (d d' : D) (v v' : V) (u u' : Value), A.units + n < cLine -> plainD n d = true -> plainD n d' = true -> Rep X.K H d v -> Rep X.K H d' v' -> L2.RelV v u -> L2.RelV v' u' ->
 (RcAt A s u u' (eqD d d') /\ RcNeAt A s u u' (!eqD d d')) /\ EqAt A s u u' (eqD d d') := by
  intro n
  induction n with
  | zero =>
    intro A d d' v v' u u' hu p p' r r' ru ru'
    cases d <;> (try simp [plainD] at p) <;> cases d' <;> (try simp [plainD] at p')
    all_goals
      simp only [Rep] at r r'; subst r r'; simp only [L2.RelV] at ru ru'
      first | (subst ru) | (obtain ⟨t, rfl⟩ := ru)
      first | (subst ru') | (obtain ⟨t', rfl⟩ := ru')
      simp only [eqD]
    · exact ⟨⟨.none_none, .none_none⟩, .same _⟩
    · exact ⟨⟨.none_bool _, .none_bool _⟩, .none_bool _⟩
    · exact ⟨⟨.none_int _ _, .none_int _ _⟩, .none_int _ _⟩
    · exact ⟨⟨.none_str _ _, .none_str _ _⟩, .none_str _ _⟩
    · exact ⟨⟨.bool_none _, .bool_none _⟩, .bool_none _⟩
    · exact ⟨⟨.bool_bool _ _, .bool_bool _ _⟩, .bool_bool _ _⟩
    · exact ⟨⟨.bool_int _ _ _, .bool_int _ _ _⟩, .bool_int _ _ _⟩
    · exact ⟨⟨.bool_str _ _ _, .bool_str _ _ _⟩, .bool_str _ _ _⟩
    · exact ⟨⟨.int_none _ _, .int_none _ _⟩, .int_none _ _⟩
    · exact ⟨⟨.int_bool _ _ _, .int_bool _ _ _⟩, .int_bool _ _ _⟩
    · exact ⟨⟨.int_int _ _ _ _, .int_int _ _ _ _⟩, .int_int _ _ _ _⟩
    · exact ⟨⟨.int_str _ _ _ _, .int_str _ _ _ _⟩, .int_str _ _ _ _⟩
    · exact ⟨⟨.str_none _ _, .str_none _ _⟩, .str_none _ _⟩
    · exact ⟨⟨.str_bool _ _ _, .str_bool _ _ _⟩, .str_bool _ _ _⟩
    · exact ⟨⟨.str_int _ _ _ _, .str_int _ _ _ _⟩, .str_int _ _ _ _⟩
    · exact ⟨⟨.str_str _ _ _ _, .str_str _ _ _ _⟩, .str_str _ _ _ _⟩
  | succ n ih =>
    intro A d d' v v' u u' hu p p' r r' ru ru'; have hu0 : A.units < cLine := by omega
    have ihe : ∀ d d' v v' u u', plainD n d = true -> plainD n d' = true -> Rep X.K H d v -> Rep X.K H d' v' -> L2.RelV v u -> L2.RelV v' u' -> EqAt A.in1 s u u' (eqD d d') := fun d d' v v' u u' a b c e f g => (ih A.in1 d d' v v' u u' (by show A.units + 1 + n < cLine; omega) a b c e f g).2
    have refs : ∀ {a b : Addr} {k : Bool}, RcAt A s (.ref a) (.ref b) k -> (a = b -> k = true) -> EqAt A s (.ref a) (.ref b) k := fun {a b k} h e => by
      by_cases hab : a = b
      · subst hab; rw [e rfl]; exact .same _
      · exact .of_refs hab h
    cases d with
    | dK _ => simp [plainD] at p
    | dT _ => simp [plainD] at p
    | adr _ => simp [plainD] at p
    | tup xs =>
      have r0 := r; simp only [Rep] at r; obtain ⟨a, vs, rfl, h1, h2⟩ := r; simp only [L2.RelV] at ru; subst ru; obtain ⟨its, rx, pt, _⟩ := I.tuple (SqT.of h1); simp only [plainD] at p
      cases d' with
      | dK _ => simp [plainD] at p'
      | dT _ => simp [plainD] at p'
      | adr _ => simp [plainD] at p'
      | tup ys =>
        have r0' := r'; have p0' := p'; simp only [Rep] at r'; obtain ⟨b, ws, rfl, h3, h4⟩ := r'; simp only [L2.RelV] at ru'; subst ru'; simp only [plainD] at p'; have t := tuples_at I (SqT.of h1) (SqT.of h3) h2 h4 p p' hu0 ihe; simp only [eqD]; refine ⟨t, refs t.1 fun e => ?_⟩; subst e; have := rep_eq I (n + 1) (.tup xs) (.tup ys) _ (by simpa only [plainD] using p) p0' r0 r0'
        simpa only [eqD] using this
      | lst ys =>
        simp only [Rep] at r'; obtain ⟨b, ws, rfl, h3, h4⟩ := r'; simp only [L2.RelV] at ru'; subst ru'; obtain ⟨its2, ry, pl, _⟩ := I.list h3; simp only [eqD]; exact ⟨⟨.tuple_list pt pl.isList hu0, .tuple_list pt pl.isList hu0⟩, .tuple_list pt pl.isList hu0⟩
      | non => simp only [Rep] at r'; subst r'; simp only [L2.RelV] at ru'; subst ru'; simp only [eqD]; exact ⟨⟨.tuple_none pt hu0, .tuple_none pt hu0⟩, .tuple_none pt hu0⟩
      | bl b => simp only [Rep] at r'; subst r'; simp only [L2.RelV] at ru'; subst ru'; simp only [eqD]; exact ⟨⟨.tuple_bool _ pt hu0, .tuple_bool _ pt hu0⟩, .tuple_bool _ pt hu0⟩
      | int b => simp only [Rep] at r'; subst r'; simp only [L2.RelV] at ru'; obtain ⟨t', rfl⟩ := ru'; simp only [eqD]; exact ⟨⟨.tuple_int _ _ pt hu0, .tuple_int _ _ pt hu0⟩, .tuple_int _ _ pt hu0⟩
      | str b => simp only [Rep] at r'; subst r'; simp only [L2.RelV] at ru'; obtain ⟨t', rfl⟩ := ru'; simp only [eqD]; exact ⟨⟨.tuple_str _ _ pt hu0, .tuple_str _ _ pt hu0⟩, .tuple_str _ _ pt hu0⟩
    | lst xs =>
      have r0 := r; simp only [Rep] at r; obtain ⟨a, vs, rfl, h1, h2⟩ := r; simp only [L2.RelV] at ru; subst ru; obtain ⟨its, rx, pl, _⟩ := I.list h1; have pt := pl.isList; simp only [plainD] at p
      cases d' with
      | dK _ => simp [plainD] at p'
      | dT _ => simp [plainD] at p'
      | adr _ => simp [plainD] at p'
      | lst ys =>
        have r0' := r'; have p0' := p'; simp only [Rep] at r'; obtain ⟨b, ws, rfl, h3, h4⟩ := r'; simp only [L2.RelV] at ru'; subst ru'; simp only [plainD] at p'; have t := lists_at I h1 h3 h2 h4 p p' hu0 ihe; simp only [eqD]; refine ⟨t, refs t.1 fun e => ?_⟩; subst e; have := rep_eq I (n + 1) (.lst xs) (.lst ys) _ (by simpa only [plainD] using p) p0' r0 r0'
        simpa only [eqD] using this
      | tup ys =>
        simp only [Rep] at r'; obtain ⟨b, ws, rfl, h3, h4⟩ := r'; simp only [L2.RelV] at ru'; subst ru'; obtain ⟨its2, ry, pt2, _⟩ := I.tuple (SqT.of h3); simp only [eqD]; exact ⟨⟨.list_tuple pt pt2 hu0, .list_tuple pt pt2 hu0⟩, .list_tuple pt pt2 hu0⟩
      | non => simp only [Rep] at r'; subst r'; simp only [L2.RelV] at ru'; subst ru'; simp only [eqD]; exact ⟨⟨.list_none pt hu0, .list_none pt hu0⟩, .list_none pt hu0⟩
      | bl b => simp only [Rep] at r'; subst r'; simp only [L2.RelV] at ru'; subst ru'; simp only [eqD]; exact ⟨⟨.list_bool _ pt hu0, .list_bool _ pt hu0⟩, .list_bool _ pt hu0⟩
      | int b => simp only [Rep] at r'; subst r'; simp only [L2.RelV] at ru'; obtain ⟨t', rfl⟩ := ru'; simp only [eqD]; exact ⟨⟨.list_int _ _ pt hu0, .list_int _ _ pt hu0⟩, .list_int _ _ pt hu0⟩
      | str b => simp only [Rep] at r'; subst r'; simp only [L2.RelV] at ru'; obtain ⟨t', rfl⟩ := ru'; simp only [eqD]; exact ⟨⟨.list_str _ _ pt hu0, .list_str _ _ pt hu0⟩, .list_str _ _ pt hu0⟩
    | non =>
      cases d' with
      | tup ys =>
        simp only [Rep] at r r'; subst r; obtain ⟨b, ws, rfl, h3, h4⟩ := r'; simp only [L2.RelV] at ru ru'; subst ru ru'; obtain ⟨_, _, pt, _⟩ := I.tuple (SqT.of h3); simp only [eqD]; exact ⟨⟨.none_tuple pt hu0, .none_tuple pt hu0⟩, .none_tuple pt hu0⟩
      | lst ys =>
        simp only [Rep] at r r'; subst r; obtain ⟨b, ws, rfl, h3, h4⟩ := r'; simp only [L2.RelV] at ru ru'; subst ru ru'; obtain ⟨_, _, pl, _⟩ := I.list h3; simp only [eqD]; exact ⟨⟨.none_list pl.isList hu0, .none_list pl.isList hu0⟩, .none_list pl.isList hu0⟩
      | dK _ => simp [plainD] at p'
      | dT _ => simp [plainD] at p'
      | adr _ => simp [plainD] at p'
      | _ => exact ih A _ _ v v' u u' (by omega) (by cases n <;> rfl) (by cases n <;> rfl) r r' ru ru'
    | bl x =>
      cases d' with
      | tup ys =>
        simp only [Rep] at r r'; subst r; obtain ⟨b, ws, rfl, h3, h4⟩ := r'; simp only [L2.RelV] at ru ru'; subst ru ru'; obtain ⟨_, _, pt, _⟩ := I.tuple (SqT.of h3); simp only [eqD]; exact ⟨⟨.bool_tuple _ pt hu0, .bool_tuple _ pt hu0⟩, .bool_tuple _ pt hu0⟩
      | lst ys =>
        simp only [Rep] at r r'; subst r; obtain ⟨b, ws, rfl, h3, h4⟩ := r'; simp only [L2.RelV] at ru ru'; subst ru ru'; obtain ⟨_, _, pl, _⟩ := I.list h3; simp only [eqD]; exact ⟨⟨.bool_list _ pl.isList hu0, .bool_list _ pl.isList hu0⟩, .bool_list _ pl.isList hu0⟩
      | dK _ => simp [plainD] at p'
      | dT _ => simp [plainD] at p'
      | adr _ => simp [plainD] at p'
      | _ => exact ih A _ _ v v' u u' (by omega) (by cases n <;> rfl) (by cases n <;> rfl) r r' ru ru'
    | int x =>
      cases d' with
      | tup ys =>
        simp only [Rep] at r r'; subst r; obtain ⟨b, ws, rfl, h3, h4⟩ := r'; simp only [L2.RelV] at ru ru'; obtain ⟨t, rfl⟩ := ru; subst ru'; obtain ⟨_, _, pt, _⟩ := I.tuple (SqT.of h3); simp only [eqD]; exact ⟨⟨.int_tuple _ _ pt hu0, .int_tuple _ _ pt hu0⟩, .int_tuple _ _ pt hu0⟩
      | lst ys =>
        simp only [Rep] at r r'; subst r; obtain ⟨b, ws, rfl, h3, h4⟩ := r'; simp only [L2.RelV] at ru ru'; obtain ⟨t, rfl⟩ := ru; subst ru'; obtain ⟨_, _, pl, _⟩ := I.list h3; simp only [eqD]; exact ⟨⟨.int_list _ _ pl.isList hu0, .int_list _ _ pl.isList hu0⟩, .int_list _ _ pl.isList hu0⟩
      | dK _ => simp [plainD] at p'
      | dT _ => simp [plainD] at p'
      | adr _ => simp [plainD] at p'
      | _ => exact ih A _ _ v v' u u' (by omega) (by cases n <;> rfl) (by cases n <;> rfl) r r' ru ru'
    | str x =>
      cases d' with
      | tup ys =>
        simp only [Rep] at r r'; subst r; obtain ⟨b, ws, rfl, h3, h4⟩ := r'; simp only [L2.RelV] at ru ru'; obtain ⟨t, rfl⟩ := ru; subst ru'; obtain ⟨_, _, pt, _⟩ := I.tuple (SqT.of h3); simp only [eqD]; exact ⟨⟨.str_tuple _ _ pt hu0, .str_tuple _ _ pt hu0⟩, .str_tuple _ _ pt hu0⟩
      | lst ys =>
        simp only [Rep] at r r'; subst r; obtain ⟨b, ws, rfl, h3, h4⟩ := r'; simp only [L2.RelV] at ru ru'; obtain ⟨t, rfl⟩ := ru; subst ru'; obtain ⟨_, _, pl, _⟩ := I.list h3; simp only [eqD]; exact ⟨⟨.str_list _ _ pl.isList hu0, .str_list _ _ pl.isList hu0⟩, .str_list _ _ pl.isList hu0⟩
      | dK _ => simp [plainD] at p'
      | dT _ => simp [plainD] at p'
      | adr _ => simp [plainD] at p'
      | _ => exact ih A _ _ v v' u u' (by omega) (by cases n <;> rfl) (by cases n <;> rfl) r r' ru ru'
end
section
variable {X : Cx}
def rEqU (K : PySem.W.Frag) (neg : Bool) : R2 := fun x y H Q => ∃ d d', plainD 60 d = true /\ plainD 60 d' = true /\ Rep K H d x /\ Rep K H d' y /\ Q (.bl (neg != eqD d d')) H
theorem op_eqD (hu : X.A.units + 64 < cLine) : OpR X (compareOp .Eq) (rEqU X.K false) := by
  intro pins s σ H x y v u Q I rx ry h; obtain ⟨d, d', p, p', r, r', q⟩ := h; exact (both_at I 60 X.A d d' x y v u (by omega) p p' r r' rx ry).1.1 X.prog X.w X.xe _ ⟨.bl _, H, I, rfl, by simpa using q⟩
def dEqU (neg : Bool) (x y : D) (Q : D -> Prop) : Prop := plainD 60 x = true /\ plainD 60 y = true /\ Q (.bl (neg != eqD x y))
theorem lf_eqU {K : PySem.W.Frag} {neg : Bool} : Lf2 K (rEqU K neg) (dEqU neg) := fun H0 σ δ G H x y dx dy Qd Q hs rx ry h k =>
  ⟨dx, dy, h.1, h.2.1, rx.all hs.sub, ry.all hs.sub, k _ H G _ (Nx.refl hs) (by simp only [Rep]) h.2.2⟩
end
def kindD : D -> String
  | .non => "NoneType"
  | .bl _ => "bool"
  | .int _ => "int"
  | .str _ => "str"
  | .tup _ => "tuple"
  | .lst _ => "list"
  | .dK _ => "dict"
  | .dT _ => "dict"
  | .adr _ => "adr"
def noAdr (d : D) (P : Prop) : Prop := match d with
  | .adr _ => False
  | _ => P
theorem noAdr_of {d : D} {P : Prop} (h : noAdr d P) : kindD d ≠ "adr" /\ P := by
  cases d <;> first | exact h.elim | exact ⟨by simp [kindD], h⟩
def isKind (k T : String) : Bool := k == T || (k == "bool" && T == "int")
structure KindOk (K : PySem.W.Frag) (T : String) : Prop where
  h : ∀ k ∈ ["NoneType", "bool", "int", "str", "tuple", "list", "dict"], PySem.W.kitOne K (.type k) (.type T) = some (isKind k T)
section
variable {X : Cx} {H0 : Hp} {e : Expr} {t : RE} {pos p p2 : Pos} {T : String} {x : Str}
theorem isi_ok {pins : List (Addr × Obj)} {σ : L2.St} {H : Hp} {s : Shared} {d : D} {v : V} {u : Value} {Q : Value -> Shared -> Prop} {E : Value -> Shared -> Prop} {A : Around} (k : KindOk X.K T) (I : L2.Inv X pins σ H s) (nk : kindD d ≠ "adr") (r : Rep X.K H d v) (ru : L2.RelV v u) (h : ∀ tk, Q (.bool (isKind (kindD d) T)) { s with toks := tk }) :
 wpAny (model X.prog X.w) A (call (.builtin "isinstance") [u, .type T]) Q E s := by
  cases d with
  | adr p => exact absurd rfl nk
  | non => simp only [Rep] at r; subst r; cases (show u = Value.none from ru); exact PySem.W.kia_one PySem.W.kitx_none I.kIn True.intro (k.h _ (by simp)) (fun z => nomatch z) h
  | bl b => simp only [Rep] at r; subst r; cases (show u = Value.bool b from ru); exact PySem.W.kia_one PySem.W.kitx_bool I.kIn True.intro (k.h _ (by simp)) (fun z => nomatch z) h
  | int b => simp only [Rep] at r; subst r; obtain ⟨t, q⟩ := (show ∃ t, u = Value.int b t from ru); cases q; exact PySem.W.kia_one PySem.W.kitx_int I.kIn True.intro (k.h _ (by simp)) (fun z => nomatch z) h
  | str b => simp only [Rep] at r; subst r; obtain ⟨t, q⟩ := (show ∃ t, u = Value.str b t from ru); cases q; exact PySem.W.kia_one PySem.W.kitx_str I.kIn True.intro (k.h _ (by simp)) (fun z => nomatch z) h
  | tup xs =>
    simp only [Rep] at r; obtain ⟨a, vs, rfl, h1, _⟩ := r; cases (show u = Value.ref a from ru); obtain ⟨_, _, ⟨o, h2, h3, _⟩, _⟩ := I.tuple (SqT.of h1); exact PySem.W.kia_one PySem.W.kitx_tuple I.kIn ⟨o, h2, h3⟩ (k.h _ (by simp)) (fun z => nomatch z) h
  | lst xs =>
    simp only [Rep] at r; obtain ⟨a, vs, rfl, h1, _⟩ := r; cases (show u = Value.ref a from ru); obtain ⟨_, _, ⟨o, n, h2, h3, _⟩, _⟩ := I.list h1; exact PySem.W.kia_one PySem.W.kitx_list I.kIn ⟨o, h2, h3⟩ (k.h _ (by simp)) (fun z => nomatch z) h
  | dK xs =>
    simp only [Rep] at r; obtain ⟨a, vs, rfl, h1, _⟩ := r; cases (show u = Value.ref a from ru); obtain ⟨_, _, _, _, o, _, _, h2, h3, _⟩ := dk_rd I.hok h1; exact PySem.W.kia_one PySem.W.kitx_dict I.kIn ⟨o, h2, h3.1⟩ (k.h _ (by simp)) (fun z => nomatch z) h
  | dT xs =>
    simp only [Rep] at r; obtain ⟨a, vs, rfl, h1, _⟩ := r; cases (show u = Value.ref a from ru); obtain ⟨_, _, _, _, o, _, _, h2, h3, _⟩ := dt_rd I.hok h1; exact PySem.W.kia_one PySem.W.kitx_dict I.kIn ⟨o, h2, h3.1⟩ (k.h _ (by simp)) (fun z => nomatch z) h
def rIsiV (K : PySem.W.Frag) (T : String) : List V -> Hp -> VK -> Prop := fun xs H Q => ∃ d v, xs = [v, .ty T] /\ kindD d ≠ "adr" /\ Rep K H d v /\ Q (.bl (isKind (kindD d) T)) H
theorem call_isi (k : KindOk X.K T) : CallR X (.builtin "isinstance") (rIsiV X.K T) := by
  intro pins s σ H xs us Q I r h; obtain ⟨d, v, rfl, nk, rd, q⟩ := h
  cases r with
  | cons r1 r =>
    cases r with
    | cons r2 r =>
      cases r with
      | nil =>
        cases (show _ = Value.type T from r2); exact isi_ok k I nk rd r1 fun tk => ⟨.bl _, H, I.tok _, rfl, q⟩
def rIsi (T : String) (te : RE) (δ : List Sl) (Q : D -> Prop) : Prop := te δ fun d => noAdr d (Q (.bl (isKind (kindD d) T)))
theorem e_isi (k : KindOk X.K T) (hm : X.mg "isinstance" = none) (hm2 : X.mg x = none) (ha : PB2 X H0 e t) (hv : bootBuiltins x = some (.type T) := by rfl) (hg : Gl X "isinstance" := by rfl) (hg2 : Gl X x := by rfl) (hn : x ≠ "__name__" := by decide) (hdb : (x == ("__debug__" : Str)) = false := by decide)
 (he : starEach (e :: [.Name x p2]) X.env = (false, eval e X.env) :: starEach [.Name x p2] X.env := by rfl) (he2 : starEach [.Name x p2] X.env = (false, eval (.Name x p2) X.env) :: starEach [] X.env := by rfl)
 (hpl : (backTo pos (starEach [.Name x p2] X.env)).any (·.1) = false := by rfl) : PE2 X H0 (.Call (.Name "isinstance" p) [e, .Name x p2] [] pos) (rIsi T t) :=
  PE.weak (pe_callB (call_isi k) hg hm rfl (pa_cons ha (pa_cons (pe_bltn hg2 hm2 hv (v := .ty T) rfl hn hdb) pa_nil he2) he) (by decide) (by decide) he hpl) fun σ H Q ⟨δ, G, Qd, hs, ht, kk⟩ =>
    ⟨δ, G, _, hs, ht, fun v H1 G1 d n1 r1 q1 => ⟨d, v, rfl, (noAdr_of q1).1, r1.all n1.hs.sub, kk _ H1 G1 _ n1 (by simp only [Rep]) (noAdr_of q1).2⟩⟩
end
section
variable {X : Cx} {H0 : Hp} {e : Expr} {es : List Expr} {tr : RA} {pos p : Pos}
end
section
variable {X : Cx} {H0 : Hp} {e : Expr} {te : RE} {pos pos' : Pos} {x : Str}
end
theorem mem7 {P : String -> Prop} (h1 : P "NoneType") (h2 : P "bool") (h3 : P "int") (h4 : P "str") (h5 : P "tuple") (h6 : P "list") (h7 : P "dict") : ∀ k ∈ ["NoneType", "bool", "int", "str", "tuple", "list", "dict"], P k := by
  intro k hk; simp only [List.mem_cons, List.not_mem_nil, or_false] at hk
  rcases hk with rfl | rfl | rfl | rfl | rfl | rfl | rfl
  all_goals assumption
theorem kind_int (K : PySem.W.Frag) : KindOk K "int" := ⟨mem7 (by first | rfl | kernel_rfl) (by first | rfl | kernel_rfl) (by first | rfl | kernel_rfl) (by first | rfl | kernel_rfl) (by first | rfl | kernel_rfl) (by first | rfl | kernel_rfl) (by first | rfl | kernel_rfl)⟩
theorem kind_bool (K : PySem.W.Frag) : KindOk K "bool" := ⟨mem7 (by first | rfl | kernel_rfl) (by first | rfl | kernel_rfl) (by first | rfl | kernel_rfl) (by first | rfl | kernel_rfl) (by first | rfl | kernel_rfl) (by first | rfl | kernel_rfl) (by first | rfl | kernel_rfl)⟩
theorem kind_str (K : PySem.W.Frag) : KindOk K "str" := ⟨mem7 (by first | rfl | kernel_rfl) (by first | rfl | kernel_rfl) (by first | rfl | kernel_rfl) (by first | rfl | kernel_rfl) (by first | rfl | kernel_rfl) (by first | rfl | kernel_rfl) (by first | rfl | kernel_rfl)⟩
theorem kind_tuple (K : PySem.W.Frag) : KindOk K "tuple" := ⟨mem7 (by first | rfl | kernel_rfl) (by first | rfl | kernel_rfl) (by first | rfl | kernel_rfl) (by first | rfl | kernel_rfl) (by first | rfl | kernel_rfl) (by first | rfl | kernel_rfl) (by first | rfl | kernel_rfl)⟩
theorem sIx_nat {len dflt n : Nat} : HT.sIx len dflt (some (n : Int)) = min n len := by
  unfold HT.sIx
  first | (simp; omega) | (simp; done) | (split <;> omega) | skip
theorem cut_to {xs : List D} {n : Nat} : cutD xs none (some (n : Int)) = xs.take n := by
  unfold cutD; rw [sIx_nat]; have : HT.sIx xs.length 0 none = 0 := rfl; rw [this, List.drop_zero, Nat.sub_zero, <- List.take_length (l := xs), List.take_take, List.length_take]; simp
theorem cut_from {xs : List D} {n : Nat} : cutD xs (some (n : Int)) none = xs.drop n := by
  unfold cutD; rw [sIx_nat]; have : HT.sIx xs.length xs.length none = xs.length := rfl; rw [this]
  by_cases h : n <= xs.length
  · rw [Nat.min_eq_left h, List.take_of_length_le (by simp)]
  · rw [Nat.min_eq_right (by omega), List.drop_length, List.drop_of_length_le (by omega)]; simp
theorem eq_self60 {d : D} (h : plainD 60 d = true) : eqD d d = true := eqD_self 60 d h
section
variable {κ : Type} [DecidableEq κ]
end
section
variable {K : PySem.W.Frag} {H : Hp}
end
section
variable {K : PySem.W.Frag} {H : Hp}
end
section
variable {X : Cx} {H0 : Hp} {a b e f value o : Expr} {ta tb te tf : RE} {pos pos' apos cpos p : Pos} {x : Str}
variable {es : List Expr} {tr : RA}
end
open PySem PySem.Spec PyProof.Rows L2 SeqAt
section
variable {κ : Type} [DecidableEq κ]
end
section
variable {X : Cx}
end
section
variable {X : Cx} {H0 : Hp} {c : Expr} {body : List Stmt} {tc : RT} {tb : RS} {pos : Pos}
end
abbrev Sp3 := List D -> D -> (D -> D -> Prop) -> Prop
def liftSp3 (K : PySem.W.Frag) (sp : Sp3) : Sp := fun vs H Q _ => ∃ ws p G d ds Qd, vs = ws ++ [.ref p] /\ G p = none /\ (∀ b, b ≠ p -> G b = H b) /\ Own K G H p d /\ Reps K G ds ws /\ sp ds d Qd /\
  ∀ v H' G' x d', Same G G' -> G' p = none -> (∀ b, b ≠ p -> G' b = H' b) -> Own K G' H' p d' -> Rep K G' x v -> Qd x d' -> Q v H'
section
variable {K : PySem.W.Frag} {H0 : Hp} {σ : L2.St} {δ : List Sl} {G H : Hp}
end
section
variable {P : Program} {w : World} {K : PySem.W.Frag} {mg : Str -> Option Value} {base : Heap}
end
section
variable {X : Cx} {H0 : Hp} {pins : List (Addr × Obj)} {σ : L2.St} {δ : List Sl} {G H : Hp} {s : Shared}
end
structure Fn3 (P : Program) (w : World) (K : PySem.W.Frag) (mg : Str -> Option Value) (base : Heap) (k : Nat) (x : Str) (sp : Sp3) : Prop where
  ex : ∃ (f : Addr) (fd : FuncData) (ps : List Str), FnOk P w K mg base CX0 k f fd ps (liftSp3 K sp) /\ mg x = some (.ref f) /\ PySem.W.keepIn K (.ref f) = true /\ Binds K fd ps []
def liftAL (K : PySem.W.Frag) (H0 : Hp) (i : Nat) (tr : RA) : TA := fun σ H Q => ∃ δ G Qd a, Hs K H0 σ δ G H /\ σ[i]? = some (some (.ref a)) /\ tr δ Qd /\ ∀ ws H' G' ds, Nx K H0 σ δ G H G' H' -> Reps K G' ds ws -> Qd ds -> Q (ws ++ [.ref a]) H'
def PAL (X : Cx) (H0 : Hp) (i : Nat) (es : List Expr) (tr : RA) : Prop := PA X es (liftAL X.K H0 i tr)
section
variable {X : Cx} {H0 : Hp} {k : Nat} {x : Str} {sp : Sp3} {e : Expr} {es : List Expr} {t : RE} {tr : RA} {p pos : Pos} {i : Nat}
variable {tg : Expr} {g : RG}
end
section
variable {X : Cx} {pins : List (Addr × Obj)} {σ : L2.St} {H : Hp} {s : Shared} {h' : Heap}
end
structure Out (X : Cx) (pins : List (Addr × Obj)) (b : Addr) : Prop where
  l : b ≠ X.env.locals
  f : b ∉ X.fs
  x : b ∈ X.ex \/ X.s₀.heap.objs.size <= b
  c : ∀ x c, X.env.cells.lookup x = some c -> c ≠ b
  p : ∀ p ∈ X.pn ++ pins, p.1 ≠ b
section
variable {X : Cx} {pins : List (Addr × Obj)} {σ : L2.St} {H : Hp} {s : Shared} {A : Around} {E : Value -> Shared -> Prop} {P : PySem.Fin -> Shared -> Prop} {kS a : Addr} {kA : Array Value} {e e1 : Nat}
end
section
variable {X : Cx} {pins : List (Addr × Obj)} {σ : L2.St} {H : Hp} {s : Shared} {E : Value -> Shared -> Prop} {P : PySem.Fin -> Shared -> Prop} {kS a : Addr} {e1 : Nat}
end
section
variable {K : PySem.W.Frag} {H0 : Hp} {σ : L2.St} {δ : List Sl} {G H H' : Hp}
open Classical in
end
abbrev SR := List D -> (D -> D) -> (List D -> Prop) -> Prop
section
variable {X : Cx} {H0 : Hp} {k : Nat} {fx : Str} {sp : Sp2} {e : Expr} {te : RE} {p p2 pos kp : Pos} {S : SR}
end
section
variable {prog : Program} {w : World} {A : Around} {E : Value -> Shared -> Prop} {s : Shared}
end
section
variable {X : Cx} {pins : List (Addr × Obj)} {σ : L2.St} {H : Hp} {s : Shared}
end
section
variable {X : Cx} {H0 : Hp} {a b e : Expr} {ta tb : RE} {pos : Pos}
def rCatL (K : PySem.W.Frag) : R2 := fun x y H Q => ∃ l b xs zs, x = .ref l /\ y = .ref b /\ SqL K H l xs /\ SqL K H b zs /\ xs.length + zs.length <= sizeLine /\ ∀ p, H p = none -> Q (.ref p) (upd H p (.lst (xs ++ zs)))
theorem op_catL : OpR X (binaryOp .Add) (rCatL X.K) := by
  intro pins s σ H x y v u Q I rx ry h; obtain ⟨l, b, xs, zs, rfl, rfl, hl, hb, hz, q⟩ := h; cases rx; cases ry; obtain ⟨its, r, ⟨⟨cls, dd, data, sl⟩, n, ho, hc, hd, hs⟩, z⟩ := I.list hl; obtain ⟨its2, r2, ⟨⟨cls2, dd2, data2, sl2⟩, n2, ho2, hc2, hd2, hs2⟩, z2⟩ := I.list hb; simp only at hc hd hs hc2 hd2 hs2; subst hc hd hs hc2 hd2 hs2; have e : its.toArray ++ its2.toArray = (its ++ its2).toArray := by simp
  have l1 := r.length; have l2 := r2.length; refine concat_meets ⟨_, ho, rfl⟩ ⟨_, ho2, rfl⟩ noFill_list_add seq_list_add PySem.F.slot_list_add PySem.F.entry_list_add (PySem.F.args_list_add_2 _ _) (list_addW l b its.toArray its2.toArray n n2 none none sl sl2 (by simp; omega)) ⟨ho, ho2, ?_⟩; rw [e]; exact ⟨.ref _, _, I.lnew (t' := s.toks) (r.append r2) (by rw [List.length_append]; omega), rfl, q _ I.fresh⟩
def rCat2 (ta tb : RE) (δ : List Sl) (Q : D -> Prop) : Prop := ta δ fun x => tb δ fun y => match x, y with
  | .lst xs, .lst ys => xs.length + ys.length <= sizeLine /\ Q (.lst (xs ++ ys))
  | _, _ => False
theorem n_cat (ha : PB2 X H0 a ta) (hb : PB2 X H0 b tb) : PN2 X H0 (.BinOp a .Add b pos) (rCat2 ta tb) :=
  PE.weak (pe_op op_catL ha hb) fun σ H Q ⟨δ, G, Qd, hs, ht, k⟩ => ⟨δ, G, _, hs, ht, fun v H1 G1 d n1 r1 q1 => ⟨δ, G1, _, n1.hs, q1, fun v2 H2 G2 d2 n2 r2 q2 => by
    cases d with
    | lst xs =>
      cases d2 with
      | lst ys =>
        obtain ⟨hz, q⟩ := q2; obtain ⟨a, vs, rfl, h2, h3⟩ := r1.mono n2.g n2.h; obtain ⟨b, ws, rfl, g2, g3⟩ := r2; refine ⟨a, b, vs, ws, rfl, rfl, h2, g2, by rw [<- h3.length, <- g3.length]; exact hz, fun p hp => k _ _ G2 (.lst (xs ++ ys)) (n2.hs.fresh hp ⟨_, upd_same, Reps.append h3 g3⟩) (n1.trans n2).g ((n1.trans n2).h.trans (upd_mono hp)) q⟩
      | _ => exact q2.elim
    | _ => exact q2.elim⟩⟩
variable {x : Str} {p apos cpos : Pos}
end
section
variable {X : Cx} {pins : List (Addr × Obj)} {σ : L2.St} {H : Hp} {s : Shared}
end
inductive FlatsAre : List Value -> List Key -> Prop
  | nil : FlatsAre [] []
  | int (n : Int) (t : Tok) {vs ks} : FlatsAre vs ks -> FlatsAre (.int n t :: vs) (.inl n :: ks)
  | str (x : Str) (t : Tok) {vs ks} : FlatsAre vs ks -> FlatsAre (.str x t :: vs) (.inr x :: ks)
section
variable {prog : Program} {w : World} {A : Around} {E : Value -> Shared -> Prop} {s : Shared}
end
section
variable {X : Cx} {pins : List (Addr × Obj)} {σ : L2.St} {H : Hp} {s : Shared}
end
section
variable {X : Cx} {H0 : Hp} {e : Expr} {es : List Expr} {tr : RA} {pos p : Pos}
end
theorem Drawn.five {s1 s2 s3 s4 s5 : Int} {P : List Int -> Prop} (h : ∀ a b c d e : Int, 0 <= a -> a < s1 -> 0 <= b -> b < s2 -> 0 <= c -> c < s3 -> 0 <= d -> d < s4 -> 0 <= e -> e < s5 -> P [a, b, c, d, e]) : ∀ out, Drawn out [s1, s2, s3, s4, s5] -> P out := fun out w => by
  cases w with | cons a0 a1 w => cases w with | cons b0 b1 w => cases w with | cons c0 c1 w => cases w with | cons d0 d1 w => cases w with | cons e0 e1 w => cases w with | nil => exact h _ _ _ _ _ a0 a1 b0 b1 c0 c1 d0 d1 e0 e1
section
variable {K : PySem.W.Frag} {H0 : Hp} {σ : L2.St} {δ : List Sl} {G H : Hp}
end
section
variable {X : Cx} {H0 : Hp} {tg : Expr} {g : RG} {body : List Stmt} {tb : RS} {pos p : Pos} {x : Str}
end
section
variable {X : Cx} {pins : List (Addr × Obj)} {σ : L2.St} {H : Hp} {s : Shared} {h' : Heap}
theorem turned_all {t' : Nat} {ch : List Addr} (I : L2.Inv X pins σ H s) (hf : ∀ b ∈ ch, FpOk X pins H b) (k : ∀ b o, b ∉ ch -> s.heap.get? b = some o -> h'.get? b = some o) : L2.Inv X pins σ H { s with heap := h', toks := t' } := by
  have nit : ∀ b u, H b = some u -> b ∉ ch := fun b u e z => by rw [(hf b z).1] at e; cases e
  refine I.step (g' := s.gens) (d' := s.drawn) (ch := ch) (fun b hb => ?_) (fun b o _ _ hc e _ => k b o hc e) (fun b o _ _ hc e _ => ⟨o.slots, k b o hc e⟩) (fun _ _ _ _ n => n)
    (fun b o hc e => ⟨o, k b o hc e⟩) (fun _ _ e => e) (fun _ _ _ e => e) (fun b ps e => ⟨#[], by rw [e]; simp⟩) (fun m hm => ?_) (fun b u e => ?_) I.bare
  · obtain ⟨f0, f1, f2, f3, f4, f5⟩ := hf b hb
    exact ⟨f3, f1, f4, f5⟩
  · obtain ⟨o, es, ep, ho, r⟩ := hm
    exact ⟨o, es, ep, k _ o (fun z => (hf _ z).2.1 rfl) ho, r⟩
  · refine (I.hok b u e).stay (fun c v hc q => k c v ?_ q) (fun _ q => q) fun _ _ q => q
    rcases hc with z | z
    · rw [z]; exact nit b u e
    · exact nit c _ z
theorem turned_tup {t' : Nat} {ch : List Addr} {vs : List V} {us : List Value} (I : L2.Inv X pins σ H s) (hf : ∀ b ∈ ch, FpOk X pins H b) (k : ∀ b o, b ∉ ch -> s.heap.get? b = some o -> h'.get? b = some o)
 (hz : vs.length <= sizeLine) (rv : Vals vs us) (hT : h'.get? s.heap.objs.size = some { cls := .type "tuple", data := .seq us.toArray }) : L2.Inv X pins σ (upd H s.heap.objs.size (.tup vs)) { s with heap := h', toks := t' } := by
  have fr : H s.heap.objs.size = none := I.hok.fresh (Nat.le_refl _); have nit : ∀ b u, H b = some u -> b ∉ ch := fun b u e z => by rw [(hf b z).1] at e; cases e
  refine I.step (g' := s.gens) (d' := s.drawn) (ch := ch) (h' := h') (t' := t') (fun b hb => ?_) (fun b o _ _ hc e' _ => ?_) (fun b o _ _ hc e' _ => ⟨o.slots, ?_⟩) (fun b o hc e' n => ?_) (fun b o hc e' => ⟨o, ?_⟩) (fun b ys q => ?_) (fun b o u' q => ?_) (fun b ps q => ⟨#[], ?_⟩) (fun m hm => ?_) (fun b o q => ?_) I.bare
  · obtain ⟨f0, f1, f2, f3, f4, f5⟩ := hf b hb
    exact ⟨f3, f1, f4, f5⟩
  · exact k b o hc e'
  · exact k b o hc e'
  · rw [upd_ne (Nat.ne_of_lt (Heap.lt_size e'))]; exact n
  · exact k b o hc e'
  · rw [upd_ne (ne_of_none q fr)]; exact q
  · rw [upd_ne (ne_of_none q fr)]; exact q
  · rw [upd_ne (ne_of_none q fr), q]; simp
  · obtain ⟨o, es, ep, ho', r⟩ := hm
    exact ⟨o, es, ep, k _ o (fun z => (hf _ z).2.1 rfl) ho', r⟩
  · by_cases hb : b = s.heap.objs.size
    · subst hb
      rw [upd_same] at q; cases q; exact ⟨hz, us, rv, ⟨_, hT, rfl, _, rfl⟩⟩
    · rw [upd_ne hb] at q
      refine (I.hok b o q).stay (fun c v hc z => ?_) (fun c z => ?_) (fun c ys z => ?_)
      · rcases hc with y | y
        · rw [y] at z ⊢; exact k b v (nit b _ q) z
        · exact k c v (nit c _ y) z
      · rw [upd_ne (ne_of_none z fr)]; exact z
      · rw [upd_ne (ne_of_none z fr)]; exact z
end
section
variable {X : Cx} {H0 : Hp}
def zipD : List D -> List D -> List D
  | x :: xs, y :: ys => .tup [x, y] :: zipD xs ys
  | _, _ => []
theorem zipD_drop : ∀ (i : Nat) (xs ys : List D) (x y : D), xs[i]? = some x -> ys[i]? = some y -> (zipD xs ys).drop i = .tup [x, y] :: (zipD xs ys).drop (i + 1)
  | _, [], _, _, _, h, _ => by simp at h
  | _, _ :: _, [], _, _, _, h => by simp at h
  | 0, a :: xs, b :: ys, x, y, h1, h2 => by simp at h1 h2; subst h1 h2; simp [zipD]
  | i + 1, a :: xs, b :: ys, x, y, h1, h2 => by
    have := zipD_drop i xs ys x y (by simpa using h1) (by simpa using h2); simp only [zipD, List.drop_succ_cons]; rw [this]
theorem zipD_end : ∀ (i : Nat) (xs ys : List D), xs.length <= i \/ ys.length <= i -> (zipD xs ys).drop i = []
  | i, [], _, _ => by simp [zipD]
  | i, _ :: _, [], _ => by simp [zipD]
  | 0, a :: xs, b :: ys, h => by simp at h
  | i + 1, a :: xs, b :: ys, h => by
    simp only [zipD, List.drop_succ_cons]; exact zipD_end i xs ys (by simpa using h)
variable {ts : List Expr} {k : Nat} {tp p pos pos2 : Pos} {a b : Expr} {tr : RA} {g : RG} {tb : RS} {body : List Stmt}
end
section
variable {X : Cx} {H0 : Hp} {pins : List (Addr × Obj)} {σ : L2.St} {H : Hp} {s : Shared}
mutual
theorem rep_inj (I : L2.Inv X pins σ H s) : ∀ (n : Nat) (d d' : D) (v : V), plainD n d = true -> plainD n d' = true -> Rep X.K H d v -> Rep X.K H d' v -> d = d' := fun n d d' v p p' r r' => by
  cases d with
  | dK _ => cases n <;> simp [plainD] at p
  | dT _ => cases n <;> simp [plainD] at p
  | adr _ => cases n <;> simp [plainD] at p
  | non => cases d' <;> simp_all [Rep]
  | bl b => cases d' <;> simp_all [Rep]
  | int b => cases d' <;> simp_all [Rep]
  | str b => cases d' <;> simp_all [Rep]
  | tup xs =>
    simp only [Rep] at r; obtain ⟨a, vs, rfl, h1, h2⟩ := r
    cases d' with
    | tup ys =>
      simp only [Rep] at r'; obtain ⟨a', ws, e, h3, h4⟩ := r'; cases e; obtain rfl := I.tuple_inj (SqT.of h1) (SqT.of h3)
      cases n with
      | zero => simp [plainD] at p
      | succ n =>
        simp only [plainD] at p p'; rw [reps_inj I n xs ys _ p p' h2 h4]
    | lst ys =>
      simp only [Rep] at r'; obtain ⟨a', ws, e, h3, h4⟩ := r'; cases e; exact (lst_tup_apart (K := X.K) I h3 (SqT.of h1)).elim
    | dK _ => cases n <;> simp [plainD] at p'
    | dT _ => cases n <;> simp [plainD] at p'
    | adr _ => cases n <;> simp [plainD] at p'
    | _ => simp [Rep] at r'
  | lst xs =>
    simp only [Rep] at r; obtain ⟨a, vs, rfl, h1, h2⟩ := r
    cases d' with
    | lst ys =>
      simp only [Rep] at r'; obtain ⟨a', ws, e, h3, h4⟩ := r'; cases e; obtain rfl := I.list_inj h1 h3
      cases n with
      | zero => simp [plainD] at p
      | succ n =>
        simp only [plainD] at p p'; rw [reps_inj I n xs ys _ p p' h2 h4]
    | tup ys =>
      simp only [Rep] at r'; obtain ⟨a', ws, e, h3, h4⟩ := r'; cases e; exact (lst_tup_apart (K := X.K) I h1 (SqT.of h3)).elim
    | dK _ => cases n <;> simp [plainD] at p'
    | dT _ => cases n <;> simp [plainD] at p'
    | adr _ => cases n <;> simp [plainD] at p'
    | _ => simp [Rep] at r'
termination_by n => (n, 0)
theorem reps_inj (I : L2.Inv X pins σ H s) : ∀ (n : Nat) (xs ys : List D) (vs : List V), xs.all (plainD n) = true -> ys.all (plainD n) = true -> Reps X.K H xs vs -> Reps X.K H ys vs -> xs = ys
  | n, [], ys, vs, _, _, h1, h2 => by
    simp only [Reps] at h1; subst h1
    cases ys with
    | nil => rfl
    | cons y ys => simp [Reps] at h2
  | n, x :: xs, ys, vs, p, p', h1, h2 => by
    simp only [Reps] at h1; obtain ⟨v, r, rfl, h3, h4⟩ := h1
    cases ys with
    | nil => simp [Reps] at h2
    | cons y ys =>
      simp only [Reps] at h2; obtain ⟨v', r', e, h5, h6⟩ := h2; cases e; rw [List.all_cons, Bool.and_eq_true] at p p'; rw [rep_inj I n x y v p.1 p'.1 h3 h5, reps_inj I n xs ys r p.2 p'.2 h4 h6]
termination_by n xs => (n, xs.length + 1)
end
theorem relV_inj {v v' : V} {u : Value} (h : L2.RelV v u) (h' : L2.RelV v' u) : v = v' := by
  cases v <;> cases v' <;> simp only [L2.RelV] at h h' <;> first
    | (obtain ⟨t, rfl⟩ := h; obtain ⟨t', e⟩ := h'; cases e; done)
    | (obtain ⟨t, rfl⟩ := h; obtain ⟨t', e⟩ := h'; cases e; rfl)
    | (obtain ⟨t, rfl⟩ := h; cases h'; done)
    | (obtain ⟨t', rfl⟩ := h'; cases h; done)
    | (subst h; cases h'; done)
    | (subst h; cases h'; rfl)
    | rfl
def inD (x : D) (ys : List D) : Bool := ys.any fun y => eqD y x
noncomputable def inE (K : PySem.W.Frag) (H : Hp) (x : D) (ds : List D) (u : Value) : Bool := @decide (∃ d ∈ ds, ∃ v, Rep K H d v /\ L2.RelV v u /\ eqD d x = true) (Classical.propDecidable _)
theorem inE_at (I : L2.Inv X pins σ H s) {x d : D} {ds : List D} {v : V} {u : Value} (hp : ds.all (plainD 50) = true) (hd : d ∈ ds) (r : Rep X.K H d v) (ru : L2.RelV v u) : inE X.K H x ds u = eqD d x := by
  unfold inE; rw [List.all_eq_true] at hp
  cases e : eqD d x with
  | true => exact @decide_eq_true _ (Classical.propDecidable _) ⟨d, hd, v, r, ru, e⟩
  | false =>
    refine @decide_eq_false _ (Classical.propDecidable _) fun ⟨d', hd', v', r', ru', e'⟩ => ?_
    rw [relV_inj ru' ru] at r'; rw [rep_inj I 50 d' d v (hp d' hd') (hp d hd) r' r, e] at e'; cases e'
theorem reps_mem {K : PySem.W.Frag} : ∀ {ds : List D} {ys : List V} {its : List Value}, Reps K H ds ys -> L2.Vals ys its -> ∀ u ∈ its, ∃ d ∈ ds, ∃ v, Rep K H d v /\ L2.RelV v u
  | [], _, _, h, r, u, hu => by
    simp only [Reps] at h; subst h; cases r; cases hu
  | d :: ds, _, _, h, r, u, hu => by
    simp only [Reps] at h; obtain ⟨v, t, rfl, h1, h2⟩ := h
    cases r with
    | cons ru rt =>
      rcases List.mem_cons.mp hu with rfl | hu
      · exact ⟨d, .head _, v, h1, ru⟩
      · obtain ⟨d', m, v', a, b⟩ := reps_mem h2 rt u hu
        exact ⟨d', .tail _ m, v', a, b⟩
theorem any_inE (I : L2.Inv X pins σ H s) {x : D} {all : List D} (hp : all.all (plainD 50) = true) : ∀ {ds : List D} {ys : List V} {its : List Value}, (∀ d ∈ ds, d ∈ all) -> Reps X.K H ds ys -> L2.Vals ys its -> its.any (inE X.K H x all) = inD x ds
  | [], _, _, _, h, r => by
    simp only [Reps] at h; subst h; cases r; rfl
  | d :: ds, _, _, m, h, r => by
    simp only [Reps] at h; obtain ⟨v, t, rfl, h1, h2⟩ := h
    cases r with
    | cons ru rt =>
      unfold inD; rw [List.any_cons, List.any_cons, inE_at I hp (m d (.head _)) h1 ru]; exact congrArg (eqD d x || ·) (any_inE I hp (fun d' hd' => m d' (.tail _ hd')) h2 rt)
def rInP (K : PySem.W.Frag) (neg : Bool) : R2 := fun x y H Q => ∃ d p ds ys, plainD 50 d = true /\ ds.all (plainD 50) = true /\ Rep K H d x /\ y = .ref p /\ SqL K H p ys /\ Reps K H ds ys /\ Q (.bl (neg != inD d ds)) H
theorem op_notInP (hu : X.A.units + 64 < cLine) : OpR X (compareOp .NotIn) (rInP X.K true) := by
  intro pins s σ H x y v u Q I rx ry h; obtain ⟨d, p, ds, ys, pd, pds, rd, rfl, hq, rds, q⟩ := h; cases ry; obtain ⟨its, r, pl, hz⟩ := I.list hq; refine SeqAt.notIn_listAt (inE X.K H d ds) pl.isList (fun w hw => ?_) ⟨.bl _, H, I, rfl, ?_⟩
  · obtain ⟨d', hd', v', r', ru'⟩ := reps_mem rds r w (by simpa using hw)
    rw [inE_at I pds hd' r' ru']; rw [List.all_eq_true] at pds; exact (both_at I 50 X.A.in1 d' d v' x w v (by have : X.A.in1.units <= X.A.units + 1 := (by first | exact Nat.le_refl _ | simp [Around.in1]); omega) (pds d' hd') pd r' rd ru' rx).2
  · rw [show its.toArray.any (inE X.K H d ds) = its.any (inE X.K H d ds) by simp, any_inE I pds (fun _ z => z) rds r]
    simpa using q
def dInP (neg : Bool) (x y : D) (Q : D -> Prop) : Prop := match y with
  | .lst ys => plainD 50 x = true /\ ys.all (plainD 50) = true /\ Q (.bl (neg != inD x ys))
  | _ => False
theorem lf_inP {K : PySem.W.Frag} {neg : Bool} : Lf2 K (rInP K neg) (dInP neg) := fun H0 σ δ G H x y dx dy Qd Q hs rx ry h k => by
  cases dy with
  | lst ys =>
    have r := ry.all hs.sub; simp only [Rep] at r; obtain ⟨a, vs, rfl, h2, h3⟩ := r; exact ⟨dx, a, ys, vs, h.1, h.2.1, rx.all hs.sub, rfl, h2, h3, k _ H G _ (Nx.refl hs) (by simp only [Rep]) h.2.2⟩
  | _ => exact h.elim
variable {e : Expr} {es : List Expr} {tr : RA} {p pos : Pos}
variable {k i : Nat} {x : Str} {sp : Sp3} {b1 b2 : List Stmt} {t u : RS} {p2 p3 p4 : Pos}
end
section
variable {X : Cx} {pins : List (Addr × Obj)} {σ : L2.St} {H : Hp} {s : Shared} {scope : Scope} {N' : List Str} {C : Addr} {cl : List (Str × Addr)} {fp : List Addr}
structure ClOk (X : Cx) (scope : Scope) (cl : List (Str × Addr)) : Prop where
  sub : ∀ x c, cl.lookup x = some c -> X.env.cells.lookup x = some c
  has : ∀ x, ((relabel scope X.env).names.lookup x = some .cell \/ (relabel scope X.env).names.lookup x = some .free) -> ∃ c, cl.lookup x = some c
def CapOk (X : Cx) (scope : Scope) (nT : Nat) (N' : List Str) : Prop :=
  N'.length = nT + 1 + X.N.length /\ (∀ x, N'[nT]? = some x -> ¬ Vis (relabel scope X.env) x) /\
    ∀ (j : Nat) (x : Str), N'[nT + 1 + j]? = some x -> Vis (relabel scope X.env) x -> X.N[j]? = some x /\ X.env.kindOf x = some .cell /\ ((relabel scope X.env).names.lookup x = some .cell \/ (relabel scope X.env).names.lookup x = some .free)
end
section
variable {prog : Program} {w : World} {A : Around} {R : Result -> Shared -> Prop} {s : Shared}
end
def PIf (X : Cx) (ifs : List Expr) (t : TT) : Prop :=
  ∀ (pins : List (Addr × Obj)) (s : Shared) (σ : L2.St) (H : Hp) (Q : Bool -> Hp -> Prop), L2.Inv X pins σ H s -> t σ H Q -> wpAny (model X.prog X.w) X.A (forIn ifs true fun c r => if r = true then do let ok <- isTrue c X.env (eval c X.env); pure (ForInStep.yield ok) else pure (ForInStep.yield r)) (TP X pins σ Q) X.xe s
section
variable {X : Cx} {pins : List (Addr × Obj)} {σ : L2.St} {H : Hp} {s : Shared} {scope : Scope} {N' : List Str} {cl : List (Str × Addr)} {fp : List Addr} {target iter elt : Expr} {ifs : List Expr} {pos : Pos} {g : TG} {tc : TT} {tel : TE} {nT : Nat} {J : It} {it D : Addr} {tn : Nat -> Heap -> Prop}
end
structure CompOk (X : Cx) (scope : Scope) (nT : Nat) (N' : List Str) : Prop where
  calm : X.calm = true
  kind : scope.kind = .function
  cell : ∀ y ∈ scope.names, y.2 ≠ .cell
  free : ∀ x ∈ scope.names, x.2 = .free -> X.env.kindOf x.1 = some .cell
  loc : ∀ x ∈ scope.names, x.2 = .local -> scope.names.lookup x.1 = some .local
  cap : CapOk X scope nT N'
section
variable {X : Cx} {scope : Scope} {N' : List Str} {target iter elt : Expr} {ifs : List Expr} {pos : Pos} {g : TG} {tc : TT} {tel : TE} {nT : Nat} {wi : TI}
end
def NoOwn (pre : List Sl) : Prop := ∀ l ∈ pre, ¬ l.mine
section
variable {K : PySem.W.Frag} {H0 : Hp} {σ : L2.St} {δ : List Sl} {G H : Hp}
end
abbrev RGp := D -> List Sl -> (List Sl -> Prop) -> Prop
abbrev RGsp := List D -> List Sl -> (List Sl -> Prop) -> Prop
def liftGp (K : PySem.W.Frag) (H0 : Hp) (nT : Nat) (g : RGp) : TG := fun v σ' H Q => ∃ (ps σ : L2.St) (pre δ : List Sl) (G : Hp) (d : D) (Qd : List Sl -> Prop), σ' = ps ++ σ /\ ps.length = nT /\ pre.length = nT /\ NoOwn pre /\ Hs K H0 σ' (pre ++ δ) G H /\ Rep K G d v /\ g d pre Qd /\
  ∀ ps' pre', ps'.length = nT -> pre'.length = nT -> NoOwn pre' -> Hs K H0 (ps' ++ σ) (pre' ++ δ) G H -> Qd pre' -> Q (ps' ++ σ) H
def liftGsp (K : PySem.W.Frag) (H0 : Hp) (nT : Nat) (g : RGsp) : TGs := fun vs σ' H Q => ∃ (ps σ : L2.St) (pre δ : List Sl) (G : Hp) (ds : List D) (Qd : List Sl -> Prop), σ' = ps ++ σ /\ ps.length = nT /\ pre.length = nT /\ NoOwn pre /\ Hs K H0 σ' (pre ++ δ) G H /\ Reps K G ds vs /\ g ds pre Qd /\
  ∀ ps' pre', ps'.length = nT -> pre'.length = nT -> NoOwn pre' -> Hs K H0 (ps' ++ σ) (pre' ++ δ) G H -> Qd pre' -> Q (ps' ++ σ) H
def PGp (X : Cx) (H0 : Hp) (nT : Nat) (tg : Expr) (g : RGp) : Prop := PG X tg (liftGp X.K H0 nT g)
def PGsp (X : Cx) (H0 : Hp) (nT : Nat) (tg : List Expr) (g : RGsp) : Prop := PGs X tg (liftGsp X.K H0 nT g)
section
variable {X : Cx} {H0 : Hp} {nT : Nat} {x : Str} {pos : Pos} {e : Expr} {es : List Expr}
variable {g : RGp} {gs : RGsp}
def PIf2 (X : Cx) (H0 : Hp) (ifs : List Expr) (t : RT) : Prop := PIf X ifs (liftT X.K H0 t)
variable {target iter elt : Expr} {ifs : List Expr} {scope : Scope} {N' : List Str} {te tel : RE} {tc : RT}
end
section
variable {X : Cx} {H0 : Hp} {nT : Nat} {pos : Pos} {g : RGp} {target iter elt : Expr} {ifs : List Expr} {scope : Scope} {N' : List Str} {te tel : RE} {tc : RT}
end
def isNon : D -> Bool
  | .non => true
  | _ => false
def dIsN (neg : Bool) (x y : D) (Q : D -> Prop) : Prop := match y with
  | .non => Q (.bl (neg != isNon x))
  | _ => False
theorem rep_non {K : PySem.W.Frag} {H : Hp} {d : D} {v : V} (r : Rep K H d v) : decide (v = .non) = isNon d := by
  cases d with
  | non => simp only [Rep] at r; subst r; rfl
  | bl b => simp only [Rep] at r; subst r; rfl
  | int b => simp only [Rep] at r; subst r; rfl
  | str b => simp only [Rep] at r; subst r; rfl
  | adr b => simp only [Rep] at r; subst r; rfl
  | tup xs => simp only [Rep] at r; obtain ⟨a, vs, rfl, _⟩ := r; rfl
  | lst xs => simp only [Rep] at r; obtain ⟨a, vs, rfl, _⟩ := r; rfl
  | dK xs => simp only [Rep] at r; obtain ⟨a, vs, rfl, _⟩ := r; rfl
  | dT xs => simp only [Rep] at r; obtain ⟨a, vs, rfl, _⟩ := r; rfl
theorem lf_isN {K : PySem.W.Frag} : Lf2 K (fun x y H Q => y = .non /\ Q (.bl (decide (x = .non))) H) (dIsN false) := fun H0 σ δ G H x y dx dy Qd Q hs rx ry h k => by
  cases dy with
  | non =>
    have r := ry.all hs.sub; simp only [Rep] at r; refine ⟨r, k _ H G _ (Nx.refl hs) ?_ h⟩; simp only [Rep]; rw [rep_non (rx.all hs.sub)]; simp
  | _ => exact h.elim
section
variable {X : Cx} {pins : List (Addr × Obj)} {σ : L2.St} {H H' : Hp} {s : Shared} {a : Addr} {y v : V} {u r : Value} {E : Value -> Shared -> Prop} {A : Around}
end
section
variable {prog : Program} {w : World} {A : Around} {R : Result -> Shared -> Prop} {s : Shared}
end
section
variable {X : Cx} {pins : List (Addr × Obj)} {σ : L2.St} {H : Hp} {s : Shared} {scope : Scope} {N' : List Str} {cl : List (Str × Addr)} {fp : List Addr} {target iter kx vx : Expr} {ifs : List Expr} {pos : Pos} {g : TG} {tc : TT} {tk tv : TE} {nT : Nat} {J : It} {it D : Addr} {tn : Nat -> Heap -> Prop}
variable {wi : TI}
end
section
variable {X : Cx} {H0 : Hp} {nT : Nat} {pos : Pos} {g : RGp} {target iter kx vx : Expr} {ifs : List Expr} {scope : Scope} {N' : List Str} {te tk tv : RE} {tc : RT}
end
section
variable {X : Cx} {H0 : Hp} {o e : Expr} {ta te : RE} {apos cpos : Pos}
end
section
variable {X : Cx} {scope : Scope} {N' : List Str} {target iter kx vx : Expr} {ifs : List Expr} {pos : Pos} {g : TG} {tc : TT} {tk tv : TE} {nT : Nat} {wi : TI}
end
section
variable {X : Cx} {H0 : Hp} {nT : Nat} {pos : Pos} {g : RGp} {target iter kx vx : Expr} {ifs : List Expr} {scope : Scope} {N' : List Str} {te tk tv : RE} {tc : RT}
end
section
variable {X : Cx} {H0 : Hp} {a b : Expr} {p p2 pos pos2 : Pos}
end
mutual
def flat : D -> Bool
  | .lst _ => false
  | .dK _ => false
  | .dT _ => false
  | .tup xs => flats xs
  | _ => true
def flats : List D -> Bool
  | [] => true
  | d :: ds => flat d && flats ds
end
def without (G : Hp) (p : Addr) : Hp := fun b => if b = p then none else G b
section
variable {K : PySem.W.Frag} {H0 : Hp} {σ : L2.St} {δ : List Sl} {G H G1 H1 : Hp} {i : Nat} {d : D} {p : Addr}
end
section
variable {X : Cx} {H0 : Hp} {e : Expr} {t : RE} {u : RT}
end
section
variable {X : Cx} {H0 : Hp} {x y : Str} {pos p1 p2 p3 : Pos} {k : Nat}
variable {f : Str} {sp : Sp2} {e : Expr} {es : List Expr} {tr : RA} {p : Pos}
end
section
variable {X : Cx} {pins : List (Addr × Obj)} {σ : L2.St} {H : Hp} {s : Shared} {a : Addr} {kws : List (Key × V)} {ob : Obj}
end
section
variable {X : Cx} {tg : Expr}
end
section
variable {X : Cx} {H0 : Hp} {tg : Expr} {g : RG} {body : List Stmt} {tb : RS} {pos p : Pos} {x : Str}
end
section
variable {prog : Program} {w : World} {A : Around} {E : Value -> Shared -> Prop} {s : Shared}
end
section
variable {X : Cx} {H0 : Hp} {e : Expr} {es : List Expr} {tr : RA} {pos p : Pos}
end
section
variable {X : Cx} {H0 : Hp} {e value : Expr} {te tv : RE} {pos pos' cpos apos p : Pos} {x : Str}
def rClr (i : Nat) (E : Ends2) (δ : List Sl) : Prop := match δ[i]? with
  | some (.ow (.lst _)) => E.nx (δ.set i (.ow (.lst [])))
  | _ => False
theorem setItem_at {prog : Program} {w : World} {A : Around} {E : Value -> Shared -> Prop} {s : Shared} {l : Addr} {items : Array Value} {n : Nat} {k : Int} {t : Tok} {v : Value} {Q : Unit -> Shared -> Prop} (ho : s.heap.get? l = some { cls := .type "list", data := .seq items n })
 (h0 : 0 <= k) (hfit : k < 2 ^ 63) (hn : k < items.size) (hQ : Q () { s with heap := s.heap.update l (Obj.mapSeq (·.setIfInBounds k.toNat v)) }) :
 wpAny (model prog w) A (setItem (.ref l) (.int k t) v) Q E s := by
  have hl : s.heap.IsList l items := ⟨_, ho, rfl, n, rfl⟩; unfold setItem
  try with_reducible refine wpAny_holding ?_
  first | refine wpAny_bind (wpAny_pure ?_) | skip
  refine wpAny_bind (wpAny_sequenceKey hl.typeIs (by decide) ?_)
  refine wpAny_bind (wpAny_callSpecial?_slot (name := Str.ofString "__setitem__") hl.typeIs slot_list_setitem
    (wpAny_call_entry slot_list_setitem hl.typeIs entry_list_setitem ?_ (args_list_setitem _ _ _)))
  show wpAny _ _ (Builtin.List.listSubscript? (.int k t) >>= _) _ _ s
  refine wpAny_bind (wpAny_listSubscript_int (fitsIndex_of h0 hfit) ?_)
  clear hfit
  obtain ⟨j, rfl⟩ := Int.eq_ofNat_of_zero_le h0; have hj : j < items.size := by omega
  have hx' : items[j]? = some items[j] := Array.getElem?_eq_getElem hj
  show wpAny _ _ ((seqItemAt l j >>= fun r => pure (r.map (j, ·))) >>= _) _ _ s
  refine wpAny_bind (wpAny_bind (wpAny_seqItemAt ho rfl (wpAny_pure ?_))); rw [hx']
  show wpAny _ _ (setSeqItemAt l j v >>= _) _ _ s
  refine wpAny_bind (wpAny_setSeqItemAt ho rfl ?_)
  first
    | exact wpAny_bind (wpAny_pure (wpAny_pure ⟨.none, rfl, wpAny_pure hQ⟩))
    | exact wpAny_pure ⟨.none, rfl, wpAny_pure hQ⟩
theorem Vals.set : ∀ {xs : List V} {us : List Value} (i : Nat) {y : V} {u : Value}, Vals xs us -> L2.RelV y u -> Vals (xs.set i y) (us.set i u)
  | _, _, _, _, _, .nil, _ => .nil
  | _, _, 0, _, _, .cons r t, q => .cons q t
  | _, _, i + 1, _, _, .cons r t, q => .cons r (Vals.set i t q)
def sLPut (to ti tv : TE) : TS := fun D σ H => tv σ H fun v H1 => to σ H1 fun x H2 => ti σ H2 fun y H3 => ∃ l xs j, x = .ref l /\ y = .int (j : Nat) /\ H3 l = some (.lst xs) /\ j < xs.length /\ D.nx σ (upd H3 l (.lst (xs.set j v)))
theorem ps_lput {o i : Expr} {to ti tv : TE} (ho : PE X o to) (hi : PE X i ti) (hv : PE X value tv) (hs : swapsWith value (some (.Subscript o i pos')) pos.line X.env = pure false) :
 PS X (.Assign [.Subscript o i pos'] value pos) (sLPut to ti tv) := by
  intro pins s σ H D I h; refine wpAny_Assign_Subscript (thn (hv pins s σ H _ I h) fun r s1 ⟨v, H1, I1, rv, q1⟩ => thn (ho pins s1 σ H1 _ I1 q1) fun u s2 ⟨x, H2, I2, rx, q2⟩ => thn (hi pins s2 σ H2 _ I2 q2) fun iv s3 ⟨y, H3, I3, ry, l, xs, j, ex, ey, hH, hj, q3⟩ => ?_) hs; subst ex; subst ey; obtain rfl : u = Value.ref l := rx; obtain ⟨t, rfl⟩ := (show ∃ t, iv = Value.int j t from ry); obtain ⟨z, its, n, r2, hl, e⟩ := I3.lstM hH; have hn := line63; have hfit : ((j : Nat) : Int) < 2 ^ 63 := by
    have h1 : j < 2 ^ 63 := by omega
    exact_mod_cast h1
  have hsz : ((j : Nat) : Int) < (its.toArray.size : Int) := by rw [List.size_toArray]; omega
  refine setItem_at e (Int.natCast_nonneg j) hfit hsz ?_; exact ⟨σ, _, I3.lset (its' := its.set j r) hH e (by simp) (Vals.set j r2 rv) (by simpa using z), q3⟩
def rLPut (i : Nat) (tk tv : RE) (E : Ends2) (δ : List Sl) : Prop := match δ[i]? with
  | some (.ow (.lst ds)) => tv δ fun d => tk δ fun y => int1 [y] fun k => 0 <= k /\ k < ds.length /\ E.nx (δ.set i (.ow (.lst (ds.set k.toNat d))))
  | _ => False
theorem s_lput (i : Nat) (hk : PE2 X H0 e te) (hv : PE2 X H0 value tv) (hN : X.N[i]? = some x := by rfl) (hvs : Vis X.env.scope x := by first | exact Or.inl rfl | exact Or.inr (Or.inl rfl) | exact Or.inr (Or.inr rfl)) (hd : (x == ("__debug__" : Str)) = false := by decide)
 (hcd : (x == ("__classdict__" : Str)) = false := by decide) (hs : swapsWith value (some (.Subscript (.Name x p) e pos')) pos.line X.env = pure false := by rfl) :
 PS2 X H0 (.Assign [.Subscript (.Name x p) e pos'] value pos) (rLPut i te tv) :=
  PS.weak (ps_lput (pe_var hN hvs hd hcd) hk hv hs) fun D σ H ⟨δ, G, E, hs, ht, go⟩ => by
    unfold rLPut at ht
    split at ht
    · rename_i ds e0
      refine ⟨δ, G, _, hs, ht, fun v H1 G1 d n1 r1 q1 => ?_⟩; obtain ⟨a, e1, _⟩ := n1.hs.ow i _ e0; refine ⟨_, e1, δ, G1, _, n1.hs, q1, fun y H2 G2 dy n2 r2 q2 => ?_⟩; obtain ⟨a', e1', vs, h1, h2⟩ := n2.hs.ow i _ e0; rw [e1] at e1'; cases e1'; obtain ⟨k, ek, k0, kl, q⟩ := int1_of q2
      injection ek with ek; subst ek
      obtain ⟨j, rfl⟩ := Int.eq_ofNat_of_zero_le k0; have hy : y = .int j := by simpa only [Rep] using r2
      have hl := h2.length; refine ⟨a, vs, j, rfl, hy, h1, by omega, go.nx _ _ _ G2 (n2.hs.write (d' := .lst (ds.set j d)) e0 e1 ⟨_, upd_same, Reps.set j h2 (Rep.mono n2.g _ _ r1)⟩) (n1.g.trans n2.g) q⟩
    · exact ht.elim
end
section
variable {X : Cx} {H0 : Hp} {ts : List Expr} {k : Nat} {tp p p2 pos pos2 : Pos} {a : Expr} {ta : RE} {g : RG} {tb : RS} {body : List Stmt} {x : Str}
end
section
variable {K : PySem.W.Frag} {H0 : Hp} {σ : L2.St} {δ : List Sl} {G H : Hp}
end
section
variable {X : Cx} {H0 : Hp} {e e1 e2 : Expr} {t t1 t2 : RE} {pos p1 p3 : Pos} {k3 : Nat} {x : Str}
end
section
variable {X : Cx} {H0 : Hp} {f x : Str} {sp : Sp2} {e : Expr} {es : List Expr} {tr : RA} {k : Nat} {p p1 pos p5 : Pos}
end
section
variable {K : PySem.W.Frag} {H0 : Hp} {σ : L2.St} {δ : List Sl} {G H : Hp} {i k g : Nat} {q : Addr} {ds : List D} {y : D}
end
section
variable {X : Cx} {H0 : Hp} {e : Expr} {t : RE} {u : RT}
end
section
variable {X : Cx} {H0 : Hp} {e : Expr} {te : RE} {pos cpos apos p ps pk : Pos} {x : Str} {kc : Nat}
end
section
variable {X : Cx} {H0 : Hp} {f x : Str} {sp : Sp2} {e : Expr} {es : List Expr} {tr : RA} {k : Nat} {p p1 pos p5 : Pos}
end
section
variable {X : Cx} {H0 : Hp} {e a : Expr} {te ta : RE} {pos pos' cpos apos p p2 p3 p4 p5 p6 : Pos} {x f : Str} {j : Nat}
structure rIfPop (i : Nat) (t : RT) (ta : RE) (sp : Sp2) (tb te : RS) (E : Ends2) (δ : List Sl) : Prop where
  run : t δ fun k => Two k (tb E δ) (ta δ fun dx => match δ[i]? with
    | some (.ow (.lst ys)) => ∃ y, ys[ys.length - 1]? = some y /\ sp [y] (retQ fun r => plainD 60 dx = true /\ plainD 60 r = true /\ Two (true != eqD dx r) (tb E (δ.set i (.ow (.lst ys.dropLast)))) (te E (δ.set i (.ow (.lst ys.dropLast)))))
    | _ => False)
end
theorem ObjOk.there {P : Program} {w : World} {H : Hp} {h : Heap} {a : Addr} {o : HO} (x : ObjOk P w H h a o) : ∃ ob, h.get? a = some ob := by
  cases q : h.get? a with
  | some ob => exact ⟨ob, rfl⟩
  | none =>
    exfalso
    induction o with
    | lst xs => obtain ⟨_, _, _, _, e⟩ := x; rw [q] at e; cases e
    | tup xs => obtain ⟨_, _, _, _, e, _⟩ := x; rw [q] at e; cases e
    | dK kvs => obtain ⟨_, _, _, _, _, _, _, e, _⟩ := x; rw [q] at e; cases e
    | dT kvs => obtain ⟨_, _, _, _, _, _, _, e, _⟩ := x; rw [q] at e; cases e
    | set S n => obtain ⟨_, _, _, _, e, _⟩ := x; rw [q] at e; cases e
    | ins C dx fs => obtain ⟨_, _, _, e, _⟩ := x; rw [q] at e; cases e
    | own y => obtain ⟨_, e⟩ := x; rw [q] at e; cases e
    | xd fs => obtain ⟨_, ⟨_, _, _, e, _⟩, _⟩ := x; rw [q] at e; cases e
    | rng lo hi => obtain ⟨_, _, _, e⟩ := x; rw [q] at e; cases e
    | frz ob u ih => obtain ⟨e, _⟩ := x; rw [q] at e; cases e
    | tbl ps => have e : h.get? a = some _ := x; rw [q] at e; cases e
    | met f y => have e : h.get? a = some _ := x; rw [q] at e; cases e
    | ext φ => obtain ⟨_, ⟨_, e⟩, _⟩ := x; rw [q] at e; cases e
def CX1 (P : Program) (w : World) : CXT := fun outer H s E e s' => ∃ (ea C t : Addr) (B : Heap) (H' : Hp), e = .ref ea /\ s'.os = s.os /\ AllBare s'.gens /\ Heap.FlyingW B outer ea (.ref C) (.ref t) s'.heap /\
  (∀ h6, B.StaysIn h6 -> s'.heap.UpToSlots h6 -> Un (frs outer) [] H H' s.heap h6 /\ HOk P w H' h6) /\ H' ea = none /\ s.heap.get? ea = none /\ E (.ref C) (some ea) H'
section
variable {P : Program} {w : World} {K : PySem.W.Frag} {mg : Str -> Option Value} {base : Heap} {N : List Str} {qual : Str} {scope : Scope} {f : Addr} {cd : Value} {A : Around} {outer : List Env} {s s1 : Shared} {H H1 : Hp} {E : XK} {pins : List (Addr × Obj)} {σ : L2.St}
theorem leave_x {e C : Addr} {vs : List Value} {h' : Heap} (I : Inv (cxOf (CX1 P w) P w K mg base N qual scope f cd A outer s H E) pins σ H1 s1) (hx : Heap.MadeExcOf s1.heap h' e (.ref C) vs) (hE : E (.ref C) (some e) H1) :
 (cxOf (CX1 P w) P w K mg base N qual scope f cd A outer s H E).xe (.ref e) { s1 with heap := h' } := by
  let X := cxOf (CX1 P w) P w K mg base N qual scope f cd A outer s H E
  have hst : X.stack = X.env :: outer := rfl; have hin : ∀ env ∈ X.stack, ∀ b, env.frame = some b -> b ∈ X.stack.filterMap (·.frame) := fun env he b hb => List.mem_filterMap.mpr ⟨env, he, hb⟩
  have hB : (PySem.W.hideAll s1.heap (frs X.stack)).StaysIn s1.heap := fun b o q => PySem.W.of_hideAll _ q
  refine wpAny_leaves_madeW (base := PySem.W.hideAll s1.heap (frs X.stack)) (h := s1.heap) I.ok.frames rfl hB (PySem.W.funFrames_hide I.stack hin) hx fun h'' t x1 x2 x3 x4 => ?_
  refine ⟨e, C, t, _, H1, rfl, I.os, I.bare, x1, fun h6 st up => ?_, ?_, ?_, hE⟩
  rotate_left
  · cases q : H1 e with
    | none => rfl
    | some o =>
      obtain ⟨ob, z⟩ := ObjOk.there (I.hok e o q); rw [hx.new] at z; cases z
  · cases q : s.heap.get? e with
    | none => rfl
    | some o =>
      obtain ⟨ob, z⟩ := I.base.there e o q (by intro z; cases z); rw [hx.new] at z; cases z
  have up2 : h'.UpToSlots h6 := x4.trans up; have inB : ∀ b o, s1.heap.get? b = some o -> b ∉ frs X.stack -> h6.get? b = some o := fun b o q n => st b o (PySem.W.hideAll_get _ q n)
  have low : ∀ b o, s.heap.get? b = some o -> b ∉ frs outer -> b ∉ frs X.stack := fun b o q n z => by
    rcases List.mem_filterMap.mp z with ⟨env, he, hf⟩
    rcases List.mem_cons.mp he with rfl | he
    · have e1 : b = s.heap.objs.size := (Option.some.inj hf).symm
      have z := Heap.lt_size q; rw [e1] at z; exact Nat.lt_irrefl _ z
    · exact n (List.mem_filterMap.mpr ⟨env, he, hf⟩)
  have fr : ∀ b o, s1.heap.get? b = some o -> (∀ vs, o.data ≠ .fields vs) -> ∃ sl, h6.get? b = some { o with slots := sl } := fun b o q n => up2 b o (hx.keeps b o q) n
  refine ⟨⟨fun b o q n nf nx => ?_, fun b o q n nf nx => ?_, I.base.free, fun b o q nx => ?_, I.base.tups, I.base.frzs, I.base.tbls⟩, fun a o q => ?_⟩
  · exact inB b o (I.base.keep b o q n nf nx) (low b o q nf)
  · obtain ⟨sl, q1⟩ := I.base.slot b o q n nf nx
    obtain ⟨_, o2, q2, nd⟩ := I.ok.funs.mem nf; have : o2 = o := by
      have := q2.symm.trans q; exact Option.some.inj this
    subst this; obtain ⟨sl2, q3⟩ := fr b _ q1 nd; exact ⟨sl2, q3⟩
  · obtain ⟨o', q1⟩ := I.base.there b o q nx
    by_cases nf : b ∈ frs outer
    · obtain ⟨_, o2, q2, nd⟩ := (I.stack).mem (show b ∈ frs X.stack from List.mem_filterMap.mpr (by
        obtain ⟨env, he, hf⟩ := List.mem_filterMap.mp nf
        exact ⟨env, List.mem_cons_of_mem _ he, hf⟩))
      obtain ⟨sl2, q3⟩ := fr b _ q2 nd; exact ⟨_, q3⟩
    · exact ⟨o', inB b o' q1 (low b o q nf)⟩
  · refine (I.hok a o q).stay (fun b u z y => inB b u y fun zz => ?_) (fun _ z => z) fun _ _ z => z
    have hn := I.stkFree b zz
    rcases z with rfl | z
    · rw [hn] at q; cases q
    · rw [hn] at z; cases z
end
abbrev RJ := List Sl -> (Str -> Prop) -> Prop
def liftJ (K : PySem.W.Frag) (H0 : Hp) (t : RJ) (σ : L2.St) (H : Hp) (Q : Str -> Hp -> Prop) : Prop := ∃ δ G Qd, Hs K H0 σ δ G H /\ t δ Qd /\ ∀ y H' G', Nx K H0 σ δ G H G' H' -> Qd y -> Q y H'
def PJ2 (X : Cx) (H0 : Hp) (es : List Expr) (t : RJ) : Prop := ∀ (pins : List (Addr × Obj)) (s : Shared) (σ : L2.St) (H : Hp) (acc : Str) (Q : Str -> Hp -> Prop), Inv X pins σ H s -> acc.length + 2000 * es.length <= sizeLine -> liftJ X.K H0 t σ H Q ->
  Joins (model X.prog X.w) X.A X.xe (evalEach es X.env) acc (fun out s1 => ∃ y H', out = acc ++ y /\ out.length <= sizeLine /\ Inv X pins σ H' s1 /\ Q y H') s
abbrev jNil (δ : List Sl) (Q : Str -> Prop) : Prop := Q Str.empty
abbrev jStr (c : Str) (t : RJ) (δ : List Sl) (Q : Str -> Prop) : Prop := t δ fun y => Q (c ++ y)
abbrev jInt (te : RE) (t : RJ) (δ : List Sl) (Q : Str -> Prop) : Prop := te δ fun d => ∃ n : Int, d = .int n /\ n.natAbs.log2 < 1920 /\ t δ fun y => Q (Str.ofString (toString n) ++ y)
section
variable {X : Cx} {H0 : Hp} {es : List Expr} {e : Expr} {te : RE} {tj : RJ} {c : Str} {pos : Pos} {j : Nat}
theorem joins_mono {M : Model} {A : Around} {E : Value -> Shared -> Prop} : ∀ (parts : List (Sem Value)) (acc : Str) {Q Q' : Str -> Shared -> Prop} {s : Shared}, Joins M A E parts acc Q s -> (∀ y s', Q y s' -> Q' y s') -> Joins M A E parts acc Q' s
  | [], _, _, _, _, h, k => k _ _ h
  | x :: rest, acc, _, _, _, h, k => wpAny_mono h (fun v s1 ⟨y, t, e, l, j⟩ => ⟨y, t, e, l, joins_mono rest _ j k⟩) fun _ _ z => z
theorem j_nil : PJ2 X H0 [] jNil := fun pins s σ H acc Q I hl ⟨δ, G, Qd, hs, ht, k⟩ => by
  exact ⟨Str.empty, H, (Str.append_empty acc).symm, by simpa using hl, I, k _ _ _ (Nx.refl hs) ht⟩
theorem j_str (h : PJ2 X H0 es tj) (hc : c.length <= 2000 := by decide) : PJ2 X H0 (.Constant (.str c) j pos :: es) (jStr c tj) := fun pins s σ H acc Q I hl ⟨δ, G, Qd, hs, ht, k⟩ => by
  have hl' : acc.length + 2000 * es.length + 2000 <= sizeLine := by simpa [Nat.mul_add, Nat.add_assoc] using hl
  refine Calls.Constant_str ⟨c, _, rfl, by rw [strLen_append]; omega, ?_⟩; refine joins_mono _ _ (h pins _ σ H (acc ++ c) (fun y => Q (c ++ y)) (I.tok (s.toks + 1)) (by rw [strLen_append]; omega) ⟨δ, G, _, hs, ht, fun y H' G' n q => k _ _ _ n q⟩) fun out s1 ⟨y, H', e, l, I', q⟩ => ⟨c ++ y, H', by rw [e, Str.append_assoc], l, I', q⟩
theorem j_int (he : PE2 X H0 e te) (h : PJ2 X H0 es tj) : PJ2 X H0 (.FormattedValue e (-1) none pos :: es) (jInt te tj) := fun pins s σ H acc Q I hl ⟨δ, G, Qd, hs, ht, k⟩ => by
  have hl' : acc.length + 2000 * es.length + 2000 <= sizeLine := by simpa [Nat.mul_add, Nat.add_assoc] using hl
  refine wpAny_FormattedValue_plain ?_; have hE : liftE X.K H0 te σ H (fun v H' => ∃ (n : Int) (G' : Hp), v = .int n /\ n.natAbs.log2 < 1920 /\ Nx X.K H0 σ δ G H G' H' /\ tj δ fun y => Qd (Str.ofString (toString n) ++ y)) :=
    ⟨δ, G, _, hs, ht, fun v H' G' d n r ⟨i, e, hi, q⟩ => by subst e; exact ⟨i, G', by simpa only [Rep] using r, hi, n, q⟩⟩
  refine thn (he pins s σ H _ I hE) fun u s1 ⟨v, H1, I1, rv, i, G', ev, hi, n, q⟩ => ?_
  subst ev; obtain ⟨t, rfl⟩ := rv; have len : (Str.ofString (toString i)).length <= 2000 := by
    have e := int_text_length_le (k := 1920) (by decide) hi; rw [PySem.ofString_length]; omega
  refine wpAny_formatField_int hi ⟨Str.ofString (toString i), _, rfl, by rw [strLen_append]; omega, ?_⟩; refine joins_mono _ _ (h pins _ σ H1 (acc ++ Str.ofString (toString i)) (fun y => Q (Str.ofString (toString i) ++ y)) (I1.tok _) (by rw [strLen_append]; omega) ⟨δ, G', _, n.hs, q, fun y H' G2 n2 q => k _ _ _ (n.trans n2) q⟩) fun out s1 ⟨y, H', e, l, I', q⟩ => ⟨Str.ofString (toString i) ++ y, H', by rw [e, Str.append_assoc], l, I', q⟩
abbrev rFstr (t : RJ) (δ : List Sl) (Q : D -> Prop) : Prop := t δ fun y => Q (.str y)
theorem e_fstr {e1 e2 : Expr} (h : PJ2 X H0 (e1 :: e2 :: es) tj) (hl : 2000 * (e1 :: e2 :: es).length <= sizeLine := by decide) : PE2 X H0 (.JoinedStr (e1 :: e2 :: es) pos) (rFstr tj) := fun pins s σ H Q I ⟨δ, G, Qd, hs, ht, k⟩ => by
  refine wpAny_JoinedStr (joins_mono _ _ (h pins s σ H Str.empty (fun y H' => ∃ G', Nx X.K H0 σ δ G H G' H' /\ Qd (.str y)) I (by rw [show Str.empty.length = 0 from rfl, Nat.zero_add]; exact hl) ⟨δ, G, _, hs, ht, fun y H' G' n q => ⟨G', n, q⟩⟩) fun out s1 ⟨y, H', e, l, I', G', n, q⟩ => ⟨l, ?_⟩); rw [Str.empty_append] at e; subst e; exact ⟨.str out, H', I'.tok _, ⟨_, rfl⟩, k _ _ _ _ n (by simp only [Rep]) q⟩
end
def Thr (X : Cx) (H0 : Hp) (C : Addr) : Prop := ∀ (pins : List (Addr × Obj)) (σ : L2.St) (δ : List Sl) (G H : Hp) (s : Shared) (e : Addr) (vs : List Value) (h' : Heap), Inv X pins σ H s -> Hs X.K H0 σ δ G H -> Heap.MadeExcOf s.heap h' e (.ref C) vs -> X.xe (.ref e) { s with heap := h' }
theorem thr_of {P : Program} {w : World} {K : PySem.W.Frag} {mg : Str -> Option Value} {base : Heap} {N : List Str} {qual : Str} {scope : Scope} {f : Addr} {cd : Value} {A : Around} {outer : List Env} {s : Shared} {H : Hp} {E : XK} {C : Addr}
 (hE : ∀ a H', Same H H' -> E (.ref C) (some a) H') : Thr (cxOf (CX1 P w) P w K mg base N qual scope f cd A outer s H E) H C :=
  fun pins σ δ G H1 s1 e vs h' I hs hx => leave_x I hx (hE _ _ (hs.base.trans hs.sub))
structure Err (K : PySem.W.Frag) (mg : Str -> Option Value) (base : Heap) (x : Str) (C : Addr) (bm : List Value) : Prop where
  ex : ∃ B newId initId, ExcBaseFacts B newId initId bm /\ OwnCls x C bm newId mg base
section
variable {X : Cx} {H0 : Hp} {x : Str} {C : Addr} {bm : List Value} {e : Expr} {es : List Expr} {tr : RA} {np cpos pos : Pos} {R : Prop}
abbrev rRaise (tr : RA) (R : Prop) (E : Ends2) (δ : List Sl) : Prop := tr δ fun ds => ds.length <= 9 /\ R
theorem s_raise (Er : Err X.K X.mg X.base x C bm) (hX : R -> Thr X H0 C) (ha : PA2 X H0 (e :: es) tr) (hc : X.calm = true) (hg : Gl X x := by rfl) (hdb : (x == ("__debug__" : Str)) = false := by decide)
 (he : starEach (e :: es) X.env = (false, eval e X.env) :: starEach es X.env := by rfl) (hpl : (backTo cpos (starEach (e :: es) X.env)).any (·.1) = false := by rfl) : PS2 X H0 (.Raise (some (.Call (.Name x np) (e :: es) [] cpos)) none pos) (rRaise tr R) := by
  intro pins s σ H D I ⟨δ, G, E, hs, ht, g⟩; obtain ⟨B, newId, initId, FB, O⟩ := Er.ex; have hA : liftA X.K H0 tr σ H (fun vs H' => ∃ G' ds, Nx X.K H0 σ δ G H G' H' /\ Reps X.K G' ds vs /\ ds.length <= 9 /\ R) := ⟨δ, G, _, hs, ht, fun vs H' G' ds n r q => ⟨G', ds, n, r, q⟩⟩; obtain ⟨tl, N, nm, q, bs, hdct, sn, sub, ab, col, dd, k0, k1, k2, k3, k5, mN, hC, hN, hni, T⟩ := O.obj; refine wpAny_Raise_call_subT (C := C) (nm := nm) (q := q) (N := N) (bs := bs) (bm := tl) (hdct := hdct) (sn := sn) (sub := sub) (ab := ab) (col := col) (dd := dd) (k0 := k0) (k1 := k1) (k2 := k2) (k3 := k3) (k5 := k5)
    FB (mN := mN) (T.hasType FB.hasBase) (I.ok.hd hc) hpl hni (ld_glob I hg O.bound ⟨rfl, ?_⟩ hdb)
  have hw := ha cpos pins s σ H _ I hA; rw [he] at hw ⊢; refine Calls.evalArgs_plain (wpAny_mono hw (fun us s1 ⟨vs, H1, I1, r, G', ds, n, rd, hl9, hR⟩ => ?_) fun _ _ y => y); have kp : ∀ b o, X.base.get? b = some o -> s1.heap.get? b = some o := I1.bk; exact ⟨rfl, by show us.length <= _; rw [<- r.length, <- rd.length]; exact Nat.le_trans hl9 (by decide), kp _ _ hC, hN.keeps kp, T.keeps kp, fun h' ea hm => hX hR pins σ δ G' H1 s1 ea _ h' I1 n.hs hm⟩
end
abbrev SpX := List D -> (Ret -> Prop) -> (Str -> Prop) -> Prop
def liftX (K : PySem.W.Frag) (mg : Str -> Option Value) (sp : SpX) : Sp := fun vs H Q E => ∃ ds Qd Xd, Reps K H ds vs /\ sp ds Qd Xd /\ (∀ v H' r, RetOk K H H' v r -> Qd r -> Q v H') /\ ∀ x C a H', Xd x -> mg x = some (.ref C) -> Same H H' -> E (.ref C) (some a) H'
section
variable {P : Program} {w : World} {K : PySem.W.Frag} {mg : Str -> Option Value} {base : Heap}
theorem fun_okX {x qual : Str} {st : Stmt} {f : Addr} {fd : FuncData} {N ps : List Str} {k : Nat} {sp : SpX} (F : Fun K x qual st f fd) (S : FnScope N ps (defScope st)) (len : ∀ ds Qd Xd, sp ds Qd Xd -> ds.length = ps.length)
 (hbody : ∀ (cdv : Value) (A : Around) (outer : List Env) (s : Shared) (H : Hp) (E : XK), Room k (A.deeper (envOfC qual (defScope st) s.heap.objs.size f cdv)) -> ∀ ds Qd (Xd : Str -> Prop), sp ds Qd Xd ->
 (∀ x C, mg x = some (.ref C) -> Xd x -> Thr (cxOf (CX1 P w) P w K mg base N qual (defScope st) f cdv A outer s H E) H C) ->
 ∃ t, PSs2 (cxOf (CX1 P w) P w K mg base N qual (defScope st) f cdv A outer s H E) H (defBody st) t /\ t { nx := fun _ => Qd (.val .non), rt := fun r _ => Qd r } (start2 N ds)) : FnOk P w K mg base (CX1 P w) (k + 1) f fd ps (liftX K mg sp) := by
  obtain ⟨oc, od, kV, doc, pm, an, cdv, ct, osl, rfl, lk, hcd⟩ := F.ex; refine fn_of lk hcd S (fun vs H Q E h => ?_) (fun A outer s H vs Q E hr h => ?_)
  · obtain ⟨ds, Qd, Xd, r, h1, _⟩ := h
    rw [<- r.length]; exact len ds Qd Xd h1
  · obtain ⟨ds, Qd, Xd, r, h1, h2, h3⟩ := h
    obtain ⟨t, ht, q⟩ := hbody cdv A outer s H E hr ds Qd Xd h1 fun x C hm xd => thr_of fun a H' sm => h3 x C a H' xd hm sm
    refine ⟨_, ht, start2 N ds, H, _, ?_, q, ⟨fun σ' H' δ' G' hs _ q => h2 _ H' (.val .non) ⟨hs.base.trans hs.sub, by simp only [Rep]⟩ q, fun v H' r' δ' ok q => h2 v H' r' ok.ok q, fun _ _ _ _ _ _ z => z.elim, fun _ _ _ _ _ _ z => z.elim⟩⟩; have e := Hs.start r (N.length - ds.length)
    show Hs K H (vs.map some ++ List.replicate (N.length - vs.length) none) _ H H
    rw [<- r.length]; exact e
end
structure FnX (P : Program) (w : World) (K : PySem.W.Frag) (mg : Str -> Option Value) (base : Heap) (k : Nat) (x : Str) (sp : SpX) : Prop where
  ex : ∃ (f : Addr) (fd : FuncData) (ps : List Str), FnOk P w K mg base (CX1 P w) k f fd ps (liftX K mg sp) /\ mg x = some (.ref f) /\ PySem.W.keepIn K (.ref f) = true /\ Binds K fd ps []
def Fly (X : Cx) (H0 : Hp) (pins : List (Addr × Obj)) (σ : L2.St) (δ : List Sl) (G H : Hp) (x : Str) (ea : Addr) (s' : Shared) : Prop := ∃ (C t : Addr) (B : Heap) (G2 H2 : Hp), X.mg x = some (.ref C) /\ Heap.FlyingW B X.stack ea (.ref C) (.ref t) s'.heap /\ (X.ex = [] -> X.s₀.heap.get? ea = none) /\
  ∀ h6, B.StaysIn h6 -> s'.heap.UpToSlots h6 -> Inv X pins σ H2 { s' with heap := h6 } /\ Nx X.K H0 σ δ G H G2 H2 /\ H2 ea = none
section
variable {X : Cx} {H0 : Hp} {k : Nat} {x : Str} {sp : SpX} {e : Expr} {es : List Expr} {tr : RA} {p pos : Pos}
theorem run_fnX {pins : List (Addr × Obj)} {σ : L2.St} {δ : List Sl} {G H : Hp} {s : Shared} {f : Addr} {fd : FuncData} {ps : List Str} {us : List Value} {vs : List V} {ds : List D} {Qd : Ret -> Prop} {Xd : Str -> Prop} {Q : Value -> Shared -> Prop} {E' : Value -> Shared -> Prop}
 (F : FnOk X.prog X.w X.K X.mg X.base (CX1 X.prog X.w) k f fd ps (liftX X.K X.mg sp)) (hr : Room k X.A) (hb : Binds X.K fd ps []) (hs : Hs X.K H0 σ δ G H) (I : Inv X pins σ H s) (r : Vals vs us) (rd : Reps X.K G ds vs) (h : sp ds Qd Xd)
 (q : ∀ v G1 r u s', Inv X pins σ (mix σ δ H G1) s' -> RelV v u -> (∀ i b, At σ δ i b -> G1 b = none) -> RetOk X.K G G1 v r -> Qd r -> Q u s')
 (qx : ∀ x ea s', Xd x -> Fly X H0 pins σ δ G H x ea s' -> E' (.ref ea) s') : wpAny (model X.prog X.w) X.A (call (.ref f) us) Q E' s := by
  have hh : liftX X.K X.mg sp vs G (fun v G1 => ∃ r, RetOk X.K G G1 v r /\ Qd r) (fun c a H' => ∃ x C, c = .ref C /\ X.mg x = some (.ref C) /\ Xd x /\ Same G H') := ⟨ds, Qd, Xd, rd, h, fun v H' r ok q => ⟨r, ok, q⟩, fun x C a H' xd hm sm => ⟨x, C, rfl, hm, xd, sm⟩⟩; have hl : us.length = ps.length := by rw [<- r.length]; exact F.len _ _ _ _ hh
  have hbt : BindsTo s fd ⟨us, []⟩ (ps.zip us) := by simpa using hb s us I.kIn (by simpa using hl)
  refine wpAny_call (codeAny_mono (F.run X.A X.stack s G ⟨us, []⟩ us vs _ _ hr (hs.env0 I) hbt r hh) fun r s' hq => ?_)
  cases r with
  | error e =>
    obtain ⟨ea, C, t, B, G1, rfl, ho, bare, fly, un, n1, n2, x, C', eC, hm, xd, sm⟩ := hq; cases eC; refine qx x ea s' xd ⟨C, t, B, G1, mix σ δ H G1, hm, fly, fun z => ?_, fun h6 st up => ?_⟩
    · cases q : X.s₀.heap.get? ea with
      | none => rfl
      | some o =>
        obtain ⟨ob, z⟩ := I.base.there ea o q (by rw [z]; intro y; cases y); rw [n2] at z; cases z
    obtain ⟨u1, ok1⟩ := un h6 st up
    have ce : CE X.stack X.prog X.w G s (fun v H' => v = .non /\ H' = G1) .none { s' with heap := h6 } := ⟨.non, G1, ho, bare, u1, ok1, rfl, rfl, rfl⟩; obtain ⟨v, G2, I1, rv, ⟨ev, rfl⟩, own1⟩ := hs.behind I ce; subst ev; obtain ⟨n, _⟩ := hs.behind_val (d := .non) (v := .non) own1 ⟨sm, by simp only [Rep]⟩; refine ⟨I1, n, ?_⟩; unfold mix
    split
    · rename_i z
      obtain ⟨i, a⟩ := z; obtain ⟨o, e, _⟩ := hs.soft a; obtain ⟨ob, z⟩ := ObjOk.there (I.hok ea o e); rw [n2] at z; cases z
    · exact n1
  | ok fl =>
    cases fl with
    | ret u =>
      obtain ⟨v, G1, I1, rv, ⟨r, ok, q1⟩, own1⟩ := hs.behind I hq; exact q v G1 r u s' I1 rv own1 ok q1
    | next => exact False.elim hq
    | brk => exact False.elim hq
    | cont => exact False.elim hq
end
abbrev marked (X : Cx) (e : Addr) : Cx := { X with A := X.A.mark (some (.ref e)), calm := false }
theorem Inv.mark {X : Cx} {pins : List (Addr × Obj)} {σ : L2.St} {H : Hp} {s : Shared} (I : Inv X pins σ H s) (e : Addr) : Inv (marked X e) pins σ H s :=
  ⟨⟨I.ok.mod, I.ok.kind, I.ok.glob, I.ok.blt, I.ok.above, I.ok.inj, I.ok.has, I.ok.cab, fun z => (by cases z), I.ok.frames, I.ok.stk, I.ok.exf, I.ok.bs, I.ok.bsz, I.ok.noex, I.ok.exfs, I.ok.funs, I.ok.frf⟩, I.os, I.bare, I.base, I.loc, I.cell, I.free, I.freeC, I.pin, I.hok, I.len⟩
def Mat (X : Cx) (x y : Str) : Prop := ∃ C', X.mg y = some (.ref C') /\ ∀ C, X.mg x = some (.ref C) -> ∀ (A : Around) (s5 : Shared) (ea : Addr) (ob : Obj) (Q : Bool -> Shared -> Prop) (E : Value -> Shared -> Prop), (∀ b o, X.base.get? b = some o -> s5.heap.get? b = some o) ->
  s5.heap.get? ea = some ob -> ob.cls = .ref C -> Q true s5 -> wpAny (model X.prog X.w) A (excMatches (.ref ea) (.ref C')) Q E s5
section
variable {X : Cx} {H0 : Hp} {pins : List (Addr × Obj)} {σ : L2.St} {δ : List Sl} {G H : Hp} {x y : Str} {ea : Addr} {s' : Shared} {b₀ : Stmt} {suite : List Stmt} {np hpos : Pos} {rest : List ExceptHandler} {Q : Flow -> Shared -> Prop}
end
section
variable {X : Cx} {H0 : Hp} {k : Nat} {f y : Str} {sp : SpX} {e : Expr} {es : List Expr} {tr : RA} {p np cpos epos hpos pos : Pos} {b₀ : Stmt} {suite : List Stmt} {tb : RS}
end
end M
namespace PySem.W
open PySem PySem.Spec PySem.Calls PyProof.Rows Builtin Builtin.ObjectAttr Builtin.Getset_descriptor
section
variable {prog : Program} {w : World} {A : Around} {E : Value -> Shared -> Prop} {s : Shared} {K : Frag} {x D : Addr} {name : Str}
theorem xin_find {M : Model} {h : Heap} {g a : Value} (X : K.In h) (ha : findIn K (.ref D) name = some (some a)) (hg : specialIn K a "__get__" = some (some g)) (ht : takesIn K a = some true) : Looks M h (find (.ref x) (.ref D) name) (.bind g a) := by
  have L1 := looks_findIn (M := M) X ha; have L2 : Looks M h (getOf (some a)) (some g) := looks_specialIn X hg; have L3 := looks_takesIn (M := M) X ht; exact L1.andThen (L2.andThen ((show Looks M h (dataDescriptor? (some a) (some g)) (some (g, a)) from L3.andThen .now).andThen (Looks.tag .now)))
theorem xin_class_get {tp : Value} {R : Result -> Shared -> Prop} (X : K.In s.heap) (T : ∀ M, Looks M s.heap (typeOf (.ref x)) (.ref D)) (hm : mroIn K D (.type "object") = some true)
 (h : R (.ok (.ret (.ref D))) s) : codeAny (model prog w) A (.call (.builtin "getset_descriptor.__get__") ⟨[.builtin "object.__class__", .ref x, tp], []⟩) R s := by
  obtain ⟨hh, g, dr, t, os⟩ := s; have L0 := T (model prog w); have L1 := looks_mroIn (M := model prog w) X hm; refine codeAny_call_builtin KF.slot_gs.plain KF.entry_gs (KF.slot_gs.check _ _ _ _ _ _ _ _ KF.type_class (KF.args_gs _ _ _) ?_); unfold Builtin.«getset_descriptor.__get__» descrGet; rw [dga_obj]; refine wpAny_bind (wpAny_pure ?_); unfold descrGetter descrCheckInstance descrNameAndClass isInstance; simp only [KF.owner_class]
  repeat lk
  refine ⟨Code.quiet_builtin _ (by decide +kernel), codeAny_builtin KF.entry_class ?_⟩; unfold Builtin.«object.__class__» shownTypeOf
  repeat lk
  exact h
theorem xin_class2 {B : String} (FG : Slot B "__getattribute__" "BaseException.__getattribute__") {Q : Option Value -> Shared -> Prop} (X : K.In s.heap) (T : ∀ M, Looks M s.heap (typeOf (.ref x)) (.ref D)) (hga : findIn K (.ref D) "__getattribute__" = some (some (.builtin "BaseException.__getattribute__"))) (hgt : findIn K (.ref D) "__getattr__" = some none) (ha : findIn K (.ref D) "__class__" = some (some (.builtin "object.__class__")))
 (hn : specialIn K (.builtin "object.__class__") "__get__" = some (some (.builtin "getset_descriptor.__get__"))) (htk : takesIn K (.builtin "object.__class__") = some true) (hm : mroIn K D (.type "object") = some true) (hmb : mroIn K D (.type "BaseException") = some true)
 (h : Q (some (.ref D)) { s with toks := s.toks + 1 }) : wpAny (model prog w) A (getAttr? (.ref x) "__class__") Q E s := by
  obtain ⟨hh, g, d, t, os⟩ := s; have L0 := T (model prog w); have L1 := looks_findIn (M := model prog w) X hga; have L2 := looks_findIn (M := model prog w) X hgt; have L3 := xin_find (M := model prog w) (x := x) X ha hn htk; have hx2 : (Value.builtin "BaseException.__getattribute__" == Value.builtin "object.__getattribute__") = false := by decide +kernel
  have hx1 : (onTheHeap (Value.ref D) && Value.builtin "BaseException.__getattribute__" == Value.builtin "object.__getattribute__") = false := by rw [hx2]; rfl
  unfold getAttr? getAttrBy? getAttrBy; refine wpAny_bind (wpAny_mkText (wpAny_bind (wpAny_attempt (wpAny_holding (wpAny_bind (L0.at (wpAny_bind (L1.at ?_)))))))); dsimp only; rw [if_neg (by rw [hx1]; exact Bool.false_ne_true)]; unfold getAttrByItsOwn; refine wpAny_bind (show wpAny _ _ (typeLookup (.ref D) "__getattr__") _ _ _ from L2.at ?_); refine wpAny_bind (wpAny_attempt (wpAny_holding ?_))
  show wpAny _ _ (boundAndCalled (.builtin "BaseException.__getattribute__") (.ref x) (.str "__class__" t)) _ _ _
  unfold boundAndCalled; have f3 := FG.bind (.ref x); have L5 := looks_mroIn (M := model prog w) X hmb; have L6 := looks_mroIn (M := model prog w) X hm; have hk : builtinKind "BaseException.__getattribute__" = some .slot := by decide +kernel
  have hsplit : splitId "BaseException.__getattribute__" = some ("BaseException", "__getattribute__") := by decide +kernel
  have har := PySem.F.args_bexc_ga (.ref x) (.str "__class__" t); have body : ∀ {A : Around} {E : Value -> Shared -> Prop} {R : Fin -> Shared -> Prop} {tk : Nat}, R (.done (.ret (.ref D))) ⟨hh, g, d, tk, os⟩ -> wpAny (model prog w) A (Builtin.«object.__getattribute__» ⟨[.ref x, .str "__class__" t], []⟩) R E ⟨hh, g, d, tk, os⟩ := by
    intro A E R tk hq; unfold Builtin.«object.__getattribute__»
    repeat (any_goals (first | assumption | (with_reducible refine L0.at ?_) | (with_reducible refine L3.at ?_) | wp_step))
    refine xin_class_get (s := ⟨hh, g, d, tk, os⟩) X T hm ?_
    repeat (any_goals (first | assumption | wp_step))
  have chk : ∀ {A : Around} {E : Value -> Shared -> Prop} {R : Unit -> Shared -> Prop} {tk : Nat}, R () ⟨hh, g, d, tk, os⟩ -> wpAny (model prog w) A (checkBuiltinCall "BaseException.__getattribute__" ⟨[.ref x, .str "__class__" t], []⟩) R E ⟨hh, g, d, tk, os⟩ := by
    intro A E R tk hq; simp only [checkBuiltinCall, hk, hsplit]; refine wpAny_bind ?_; unfold isInstance
    repeat (first | (with_reducible refine L0.at ?_) | (with_reducible refine L5.at ?_) | wp_step)
    exact hq
  repeat (any_goals (first | assumption | wp_step))
  refine codeAny_call_builtin FG.plain PySem.F.entry_bexc_ga (chk (body ?_)); exact handed_on rfl (wpAny_pure h)
theorem kitx_exc {B : String} (FG : Slot B "__getattribute__" "BaseException.__getattribute__") (hc : (clsIn K D).isSome = true) (hga : findIn K (.ref D) "__getattribute__" = some (some (.builtin "BaseException.__getattribute__"))) (hgt : findIn K (.ref D) "__getattr__" = some none) (ha : findIn K (.ref D) "__class__" = some (some (.builtin "object.__class__")))
 (hn : specialIn K (.builtin "object.__class__") "__get__" = some (some (.builtin "getset_descriptor.__get__"))) (htk : takesIn K (.builtin "object.__class__") = some true) (hm : mroIn K D (.type "object") = some true) (hmb : mroIn K D (.type "BaseException") = some true) :
 KitX K (.ref x) (.ref D) (fun h => ∃ o, h.get? x = some o /\ o.cls = .ref D) where
  ty := fun _ _ _ ⟨o, h1, h2⟩ => h2 ▸ (Looks.ld h1).andThen .now
  it := fun _ _ X _ => by
    obtain ⟨cdD, hcD⟩ := Option.isSome_iff_exists.mp hc; unfold clsIn at hcD
    split at hcD
    · rename_i c' d' cd' sl' ho
      intro A' Q' E' s' k q; unfold isType loadHead; exact wpAny_bind (wpAny_loadPart (k _ _ (X _ _ ho)) (wpAny_pure q))
    · cases hcD
  ne := fun h tp dd its n sl X htp => by
    obtain ⟨cdD, hcD⟩ := Option.isSome_iff_exists.mp hc; refine Bool.eq_false_iff.mpr fun q => ?_
    have e : D = tp := Value.ref.inj (beq_iff_eq.mp q); subst e; unfold clsIn at hcD
    split at hcD
    · rename_i c' d' cd' sl' ho
      have z := (X _ _ ho).symm.trans htp; cases z
    · cases hcD
  ca := fun X ⟨o, h1, h2⟩ k => xin_class2 FG X (fun M => h2 ▸ (Looks.ld h1).andThen .now) hga hgt ha hn htk hm hmb k
end
end PySem.W
namespace M
open PySem PySem.Spec PyProof.Rows L2
section
variable {Mo : Model} {A : Around} {E : Value -> Shared -> Prop}
variable {nm q nm' q' : Str} {C N C' N' : Addr} {bs bm bs' bm' : List Value} {hdct hdct' : Bool} {sn sn' : List Str} {sub sub' : List Value} {ab ab' : Bool} {col col' : Option Bool} {dd dd' : Option Addr} {k0 k1 k2 k3 k5 j0 j1 j2 j3 j5 : Option Value} {newId newId' : String}
theorem excMatches_up {h : Heap} {g : Array GenState} {d : PySem.Drawn} {t : Nat} {os : OsState} {e : Addr} {oe : Obj} {Q : Bool -> Shared -> Prop}
 (hC : h.get? C = some (excClassObj nm q C N bs bm hdct sn sub ab col dd k0 k1 k2 k3 k5 newId)) (hC' : h.get? C' = some (excClassObj nm' q' C' N' bs' bm' hdct' sn' sub' ab' col' dd' j0 j1 j2 j3 j5 newId'))
 (he : h.get? e = some oe) (hcls : oe.cls = .ref C) (hbase : bm'.contains (.type "BaseException") = true) (hcC : (Value.ref C :: bm).contains (.ref C') = true)
 (hq : Q true ⟨h, g, d, t, os⟩) : wpAny Mo A (excMatches (.ref e) (.ref C')) Q E ⟨h, g, d, t, os⟩ := by
  have hcB : (Value.ref C' :: bm').contains (.type "BaseException") = true := by rw [List.contains_cons, hbase, Bool.or_true]
  have f := tc_notTuple; unfold excMatches
  repeat (first | (with_reducible refine wpAny_loadPart_at he ?_; rw [hcls]) | with_reducible refine wpAny_loadPart_at hC' ?_ | with_reducible refine wpAny_loadPart_at hC ?_ | (with_reducible refine wpAny_isSubtype_exc hC' ?_; rw [hcB]) | (with_reducible refine wpAny_isSubtype_exc hC ?_; rw [hcC]) | wp_step)
  exact hq
end
theorem Mat.up {X : Cx} {x y : Str} {C C' : Addr} {bm bm' : List Value} (kin : X.K.In X.base) (Er : Err X.K X.mg X.base x C bm) (Er' : Err X.K X.mg X.base y C' bm') (hm : PySem.W.mroIn X.K C (.ref C') = some true) : Mat X x y := by
  obtain ⟨B, newId, initId, FB, O⟩ := Er.ex; obtain ⟨B', newId', initId', FB', O'⟩ := Er'.ex; refine ⟨C', O'.bound, fun C2 hm2 A s5 ea ob Q E kp ho hc q => ?_⟩; have : C2 = C := by
    have := hm2.symm.trans O.bound; cases this; rfl
  subst this; obtain ⟨tl, N, nm, qn, bs, hdct, sn, sub, ab, col, dd, k0, k1, k2, k3, k5, mN, hC, hN, hni, T⟩ := O.obj; obtain ⟨tl', N', nm', qn', bs', hdct', sn', sub', ab', col', dd', j0, j1, j2, j3, j5, mN', hC', hN', hni', T'⟩ := O'.obj; have hin : (Value.ref C2 :: tl).contains (.ref C') = true := by
    unfold PySem.W.mroIn at hm; obtain ⟨cd, a, b⟩ := Option.bind_eq_some_iff.mp hm; unfold PySem.W.clsIn at a
    split at a
    · rename_i c' d' cd' sl' hl
      have z := (kin _ _ hl).symm.trans hC; cases a; cases z
      split at b
      · cases b
      · exact Option.some.inj b
    · cases a
  obtain ⟨h5, g, d, t, os⟩ := s5; exact excMatches_up (kp _ _ hC) (kp _ _ hC') ho hc (T'.hasType FB'.hasBase) hin q
theorem Hs.unset {K : PySem.W.Frag} {H0 : Hp} {σ : L2.St} {δ : List Sl} {G H : Hp} (h : Hs K H0 σ δ G H) {i : Nat} {d : D} (e : δ[i]? = some (.fr d)) : Hs K H0 (σ.set i none) (δ.set i .un) G H := by
  have hi : i < δ.length := (List.getElem?_eq_some_iff.mp e).1; have na : ∀ p, ¬ At σ δ i p := fun p ⟨l', e1, e2, _⟩ => by rw [e] at e1; cases e1; exact e2
  have na' : ∀ p, ¬ At (σ.set i none) (δ.set i .un) i p := fun p ⟨l', e1, e2, _⟩ => by rw [List.getElem?_set_self hi] at e1; cases e1; exact e2
  have as : ∀ {j : Nat} {p : Addr}, j ≠ i -> (At (σ.set i none) (δ.set i .un) j p ↔ At σ δ j p) := fun {j p} hj => by
    unfold At; rw [List.getElem?_set_ne (Ne.symm hj), List.getElem?_set_ne (Ne.symm hj)]
  refine ⟨by rw [List.length_set, List.length_set]; exact h.len, h.base, fun b => ?_, fun j d' q => ?_, fun j d' q => ?_, fun j q' es q => ?_, fun j k b a1 a2 => ?_⟩
  · rcases h.ex b with ⟨z1, z2⟩ | ⟨z1, j, z2⟩
    · refine .inl ⟨z1, fun j a => ?_⟩
      by_cases hj : j = i
      · subst hj; exact na' b a
      · exact z2 j ((as hj).mp a)
    · have hj : j ≠ i := fun z => by subst z; exact na b z2
      exact .inr ⟨z1, j, (as hj).mpr z2⟩
  · have hj : j ≠ i := fun z => by subst z; rw [List.getElem?_set_self hi] at q; cases q
    rw [List.getElem?_set_ne (Ne.symm hj)] at q ⊢; exact h.fr j d' q
  · have hj : j ≠ i := fun z => by subst z; rw [List.getElem?_set_self hi] at q; cases q
    rw [List.getElem?_set_ne (Ne.symm hj)] at q ⊢; exact h.ow j d' q
  · have hj : j ≠ i := fun z => by subst z; rw [List.getElem?_set_self hi] at q; cases q
    rw [List.getElem?_set_ne (Ne.symm hj)] at q ⊢; exact h.lk j q' es q
  · have hj : j ≠ i := fun z => by subst z; exact na' b a1
    have hk : k ≠ i := fun z => by subst z; exact na' b a2
    exact h.ne j k b ((as hj).mp a1) ((as hk).mp a2)
section
variable {X : Cx} {pins : List (Addr × Obj)} {σ : L2.St} {H : Hp} {s : Shared}
theorem unbind_ok {Mo : Model} {A : Around} {E : Value -> Shared -> Prop} {i : Nat} {x : Str} {v : V} {Q : Unit -> Shared -> Prop} (I : Inv X pins σ H s) (hN : X.N.Nodup) (hi : X.N[i]? = some x) (hk : X.env.scope.names.lookup x = some .local) (hv : σ[i]? = some (some v))
 (h : ∀ s', Inv X pins (σ.set i none) H s' -> Q () s') : wpAny Mo A (unbindName X.env x) Q E s := by
  obtain ⟨m, hn, hl⟩ := id I.loc; have hcls : (X.env.scope.kind == .class || (X.env.scope.kind == .module && X.env.locals != X.env.globals)) = false := by rw [I.ok.kind]; rfl
  have hiσ : i < σ.length := by rw [I.len]; exact (List.getElem?_eq_some_iff.mp hi).1
  have cne := I.cne; obtain ⟨u, _, q⟩ := hl i x v hi hv (.inl hk); have hmx : m x = some u := by
    rcases q with ⟨_, e⟩ | ⟨k, _⟩
    · exact e
    · rcases k with k | k
      · have : X.env.kindOf x = some .local := hk
        rw [this] at k; cases k
      · have : X.env.kindOf x = some .local := hk
        rw [this] at k; cases k
  refine wpAny_unbindName_local hk hn hmx hcls fun h' u' hn' hs => ?_
  obtain ⟨oL, _, _, hoL, _⟩ := id hn; have tracked : HOk X.prog X.w H h' := fun b ob e => by
    refine (I.hok b ob e).stay (fun c w' hc q => (hs.2 c ?_).trans q) (fun _ q => q) fun _ _ q => q
    rintro rfl
    rcases hc with rfl | hc
    · rw [I.free] at e; cases e
    · rw [I.free] at hc; cases hc
  refine h _ ⟨I.ok, I.os, I.bare, ⟨fun b o e n hb hx => ?_, fun b o e n hb hx => ?_, I.base.free, fun b o e hx => ?_, I.base.tups, I.base.frzs, I.base.tbls⟩, ⟨_, hn', fun j y v' e1 e2 e3 => ?_⟩, fun y c e => ?_, I.free, I.freeC, fun p hp => ?_, tracked, by simpa using I.len⟩
  · exact (hs.2 b (Nat.ne_of_lt (Nat.lt_of_lt_of_le (Heap.lt_size e) I.ok.above))).trans (I.base.keep b o e n hb hx)
  · obtain ⟨sl, e1⟩ := I.base.slot b o e n hb hx
    exact ⟨sl, (hs.2 b (Nat.ne_of_lt (Nat.lt_of_lt_of_le (Heap.lt_size e) I.ok.above))).trans e1⟩
  · obtain ⟨o', e1⟩ := I.base.there b o e hx
    exact ⟨o', (hs.2 b (Nat.ne_of_lt (Nat.lt_of_lt_of_le (Heap.lt_size e) I.ok.above))).trans e1⟩
  · have hj : j ≠ i := fun z => by subst z; rw [List.getElem?_set_self hiσ] at e2; cases e2
    rw [List.getElem?_set_ne (Ne.symm hj)] at e2; obtain ⟨u', r', q⟩ := hl j y v' e1 e2 e3; refine ⟨u', r', ?_⟩
    rcases q with ⟨k, e⟩ | ⟨k, c, e, z⟩
    · refine .inl ⟨k, ?_⟩
      have : y ≠ x := fun e => hj (nodup_ix hN e1 (e ▸ hi))
      simp [this, e]
    · exact .inr ⟨k, c, e, z.sameBut hs (cne y c e)⟩
  · obtain ⟨w', z⟩ := I.cell y c e
    exact ⟨w', z.sameBut hs (cne y c e)⟩
  · obtain ⟨e, n, ne, nf, d⟩ := I.pin p hp
    exact ⟨(hs.2 p.1 ne).trans e, n, ne, nf, d⟩
end
abbrev markP (X : Cx) (e : Addr) (ob : Obj) : Cx := { X with A := X.A.mark (some (.ref e)), calm := false, pn := (e, ob) :: X.pn, xe := fun _ _ => False }
theorem inv_markP {X : Cx} {pins : List (Addr × Obj)} {σ : L2.St} {H : Hp} {s : Shared} (I : Inv X pins σ H s) {e : Addr} {ob : Obj} (h1 : s.heap.get? e = some ob) (h2 : H e = none) (h3 : e ≠ X.env.locals) (h4 : e ∉ X.fs) (h5 : ∀ v, ob.data ≠ .cell v) : Inv (markP X e ob) pins σ H s :=
  ⟨⟨I.ok.mod, I.ok.kind, I.ok.glob, I.ok.blt, I.ok.above, I.ok.inj, I.ok.has, I.ok.cab, fun z => (by cases z), I.ok.frames, I.ok.stk, I.ok.exf, I.ok.bs, I.ok.bsz, I.ok.noex, I.ok.exfs, I.ok.funs, I.ok.frf⟩, I.os, I.bare, I.base, I.loc, I.cell, I.free, I.freeC,
    fun p hp => (List.mem_cons.mp hp).elim (fun z => by subst z; exact ⟨h1, h2, h3, h4, h5⟩) (I.pin p), I.hok, I.len⟩
theorem inv_unmarkP {X : Cx} {pins : List (Addr × Obj)} {σ : L2.St} {H : Hp} {s : Shared} {e : Addr} {ob : Obj} (ok : X.Ok) (I : Inv (markP X e ob) pins σ H s) : Inv X pins σ H s :=
  ⟨ok, I.os, I.bare, I.base, I.loc, I.cell, I.free, I.freeC, fun p hp => I.pin p (List.mem_cons_of_mem _ hp), I.hok, I.len⟩
section
variable {X : Cx} {H0 : Hp} {k : Nat} {f y c n : Str} {sp : SpX} {e : Expr} {es : List Expr} {tr : RA} {p np cpos epos hpos pos : Pos} {b₀ : Stmt} {suite : List Stmt} {tb : Addr -> RS} {i : Nat}
end
structure ErrK (K : PySem.W.Frag) (C : Addr) : Prop where
  c : PySem.W.hasDictIn K C = true
  ga : PySem.W.findIn K (.ref C) "__getattribute__" = some (some (.builtin "BaseException.__getattribute__"))
  gt : PySem.W.findIn K (.ref C) "__getattr__" = some none
  a : PySem.W.findIn K (.ref C) "__class__" = some (some (.builtin "object.__class__"))
  n : PySem.W.specialIn K (.builtin "object.__class__") "__get__" = some (some (.builtin "getset_descriptor.__get__"))
  t : PySem.W.takesIn K (.builtin "object.__class__") = some true
  m : PySem.W.mroIn K C (.type "object") = some true
  mb : PySem.W.mroIn K C (.type "BaseException") = some true
theorem ErrK.cs {K : PySem.W.Frag} {C : Addr} (k : ErrK K C) : (PySem.W.clsIn K C).isSome = true := by
  obtain ⟨cd, hc, _⟩ := PySem.W.any_some k.c; rw [hc]; rfl
section
variable {X : Cx} {H0 : Hp} {ea C : Addr} {ob : Obj} {e : Expr} {te : RE} {c : Str} {T : String} {C' : Addr} {b : Bool} {p p2 pos : Pos}
theorem call_isiE {vc : V} {cv : Value} (hp : (ea, ob) ∈ X.pn) (hc : ob.cls = .ref C) (k : ErrK X.K C) (hk : PySem.W.kitOne X.K (.ref C) cv = some b) (hv : ∀ u, RelV vc u -> u = cv) :
 CallR X (.builtin "isinstance") (fun xs H Q => xs = [.ref ea, vc] /\ Q (.bl b) H) := by
  intro pins s σ H xs us Q I r h; obtain ⟨rfl, q⟩ := h
  cases r with
  | cons r1 r =>
    cases r with
    | cons r2 r =>
      cases r with
      | nil =>
        cases (show _ = Value.ref ea from r1); cases hv _ r2; exact PySem.W.kia_one (PySem.W.kitx_exc PySem.F.excAttr_ValueError.ga k.cs k.ga k.gt k.a k.n k.t k.m k.mb) I.kIn ⟨ob, (I.pin _ (List.mem_append_left _ hp)).1, hc⟩ hk (fun z => nomatch z) fun tk => ⟨.bl b, H, I.tok _, rfl, q⟩
def rIsiE (te : RE) (ea : Addr) (b : Bool) (δ : List Sl) (Q : D -> Prop) : Prop := te δ fun d => d = .adr ea /\ Q (.bl b)
theorem e_isiO (hp : (ea, ob) ∈ X.pn) (hc : ob.cls = .ref C) (k : ErrK X.K C) (hmc : X.mg c = some (.ref C')) (hk : PySem.W.kitOne X.K (.ref C) (.ref C') = some b) (hm : X.mg "isinstance" = none) (ha : PE2 X H0 e te) (hg : Gl X "isinstance" := by rfl) (hg2 : Gl X c := by rfl) (hdb : (c == ("__debug__" : Str)) = false := by decide)
 (he : starEach (e :: [.Name c p2]) X.env = (false, eval e X.env) :: starEach [.Name c p2] X.env := by rfl) (he2 : starEach [.Name c p2] X.env = (false, eval (.Name c p2) X.env) :: starEach [] X.env := by rfl)
 (hpl : (backTo pos (starEach [.Name c p2] X.env)).any (·.1) = false := by rfl) : PE2 X H0 (.Call (.Name "isinstance" p) [e, .Name c p2] [] pos) (rIsiE te ea b) :=
  PE.weak (pe_callB (call_isiE (vc := .ref C') hp hc k hk fun u z => z) hg hm rfl (pa_cons ha (pa_cons (te := tC (.ref C')) (fun pins s σ H Q I h => ld_glob I hg2 hmc ⟨.ref C', H, I, rfl, h⟩ hdb) pa_nil he2) he) (by decide) (by decide) he hpl) fun σ H Q ⟨δ, G, Qd, hs, ht, kk⟩ =>
    ⟨δ, G, _, hs, ht, fun v H1 G1 d n1 r1 q1 => by
      obtain ⟨rfl, q1⟩ := q1; have : v = .ref ea := by simpa only [Rep] using r1
      subst this
      exact ⟨rfl, kk _ H1 G1 _ n1 (by simp only [Rep]) q1⟩⟩
theorem e_isiB (hp : (ea, ob) ∈ X.pn) (hc : ob.cls = .ref C) (k : ErrK X.K C) (hmc : X.mg c = none) (hk : PySem.W.kitOne X.K (.ref C) (.type T) = some b) (hm : X.mg "isinstance" = none) (ha : PE2 X H0 e te) (hv : bootBuiltins c = some (.type T) := by rfl) (hg : Gl X "isinstance" := by rfl) (hg2 : Gl X c := by rfl) (hn : c ≠ "__name__" := by decide) (hdb : (c == ("__debug__" : Str)) = false := by decide)
 (he : starEach (e :: [.Name c p2]) X.env = (false, eval e X.env) :: starEach [.Name c p2] X.env := by rfl) (he2 : starEach [.Name c p2] X.env = (false, eval (.Name c p2) X.env) :: starEach [] X.env := by rfl)
 (hpl : (backTo pos (starEach [.Name c p2] X.env)).any (·.1) = false := by rfl) : PE2 X H0 (.Call (.Name "isinstance" p) [e, .Name c p2] [] pos) (rIsiE te ea b) :=
  PE.weak (pe_callB (call_isiE (vc := .ty T) hp hc k hk fun u z => z) hg hm rfl (pa_cons ha (pa_cons (pe_bltn hg2 hmc hv (v := .ty T) rfl hn hdb) pa_nil he2) he) (by decide) (by decide) he hpl) fun σ H Q ⟨δ, G, Qd, hs, ht, kk⟩ =>
    ⟨δ, G, _, hs, ht, fun v H1 G1 d n1 r1 q1 => by
      obtain ⟨rfl, q1⟩ := q1; have : v = .ref ea := by simpa only [Rep] using r1
      subst this
      exact ⟨rfl, kk _ H1 G1 _ n1 (by simp only [Rep]) q1⟩⟩
end
theorem err_of {K : PySem.W.Frag} {mg : Str -> Option Value} {base : Heap} {x : Str} {C : Addr} {bm : List Value} {B newId initId : String} (X : K.In base) (G : base.Ns mainGlobals mg) (FB : ExcBaseFacts B newId initId bm)
 (e : PySem.W.nsIn K mainGlobals x = some (some (.ref C))) (q : PySem.W.excIn K C bm newId = true) : Err K mg base x C bm := by
  refine ⟨B, newId, initId, FB, PySem.W.mg_of X G e, ?_⟩; unfold PySem.W.excIn at q
  split at q
  · rename_i dd cd sl ho
    split at q
    · rename_i C' bm' k0 k1 k2 k3 n k5 hm hs
      simp only [Bool.and_eq_true, beq_iff_eq, Bool.not_eq_true'] at q; obtain ⟨⟨⟨⟨⟨rfl, rfl⟩, hdel⟩, ht⟩, hok⟩, hni⟩ := q; obtain ⟨nm, bs, mro, ns, qn, hd, sn, sub, ab, col, del⟩ := cd; dsimp only at hm hdel hok hni; subst hm hdel; have hsl : sl = #[k0, k1, k2, k3, some (.builtin n), k5] := by
        obtain ⟨l⟩ := sl; simp only at hs; rw [hs]
      subst hsl; exact ⟨bm', ns, nm, qn, bs, hd, sn, sub, ab, col, dd, k0, k1, k2, k3, k5, _, X _ _ ho, .of_isNs (PySem.W.isNs_of_in X hok), PySem.W.nsMap_none_of_in X hok hni, PySem.W.tail_of_in X ht⟩
    · cases q
  · cases q
theorem mkBX {P : Program} {w : World} {K : PySem.W.Frag} {mg : Str -> Option Value} {base : Heap} {i j : Nat} {n : Str} {sp : SpX} {f : Addr} {fd : FuncData} {ps : List Str} (g : FnOk P w K mg base (CX1 P w) j f fd ps (liftX K mg sp)) (m : mg n = some (.ref f)) (k : PySem.W.keepIn K (.ref f) = true) (b : Binds K fd ps []) (h : j <= i) : FnX P w K mg base i n sp := ⟨f, fd, ps, g.mono h, m, k, b⟩
def Pass (X : Cx) (H0 : Hp) (x : Str) : Prop := ∀ (pins : List (Addr × Obj)) (σ : L2.St) (δ : List Sl) (G H : Hp) (ea : Addr) (s' : Shared), Fly X H0 pins σ δ G H x ea s' -> X.xe (.ref ea) s'
section
variable {P : Program} {w : World} {K : PySem.W.Frag} {mg : Str -> Option Value} {base : Heap} {N : List Str} {qual : Str} {scope : Scope} {f : Addr} {cd : Value} {A : Around} {outer : List Env} {s : Shared} {H : Hp} {E : XK} {x : Str}
theorem pass_of (hE : ∀ C a H', mg x = some (.ref C) -> Same H H' -> E (.ref C) (some a) H') : Pass (cxOf (CX1 P w) P w K mg base N qual scope f cd A outer s H E) H x := by
  intro pins σ δ G H1 ea s' ⟨C, t, B, G2, H2, hm, fly, s0, inv⟩; have up0 : s'.heap.UpToSlots s'.heap := .refl _; obtain ⟨I, n, hn⟩ := inv s'.heap fly.1 up0; refine wpAny_leaves_onW (base := B) I.ok.frames rfl fly fun h' fl' up => ?_
  refine ⟨ea, C, t, B, H2, rfl, I.os, I.bare, fl', fun h6 st up2 => ?_, hn, s0 rfl, hE C ea H2 hm (n.hs.base.trans n.hs.sub)⟩; obtain ⟨I6, _, _⟩ := inv h6 st (up.trans up2); exact ⟨I6.base, I6.hok⟩
end
section
variable {X : Cx} {H0 : Hp} {k : Nat} {f : Str} {sp : SpX} {e : Expr} {es : List Expr} {tr : RA} {p cpos : Pos} {R : Str -> Prop}
def rCallX (sp : SpX) (tr : RA) (R : Str -> Prop) (δ : List Sl) (Q : D -> Prop) : Prop := tr δ fun ds => sp ds (fun r => ∃ d, r = .val d /\ Q d) R
theorem e_callX (F : FnX X.prog X.w X.K X.mg X.base k f sp) (hr : Room k X.A) (hP : ∀ x, R x -> Pass X H0 x) (ha : PA2 X H0 (e :: es) tr) (hg : Gl X f := by rfl) (hdb : (f == ("__debug__" : Str)) = false := by decide)
 (he : starEach (e :: es) X.env = (false, eval e X.env) :: starEach es X.env := by rfl) (hpl : (backTo cpos (starEach es X.env)).any (·.1) = false := by rfl) : PE2 X H0 (.Call (.Name f p) (e :: es) [] cpos) (rCallX sp tr R) := by
  obtain ⟨fa, fd, ps, F, hm, hk, hbi⟩ := F.ex; intro pins s σ H Q I ⟨δ, G, Qd, hs, ht, g⟩; refine wpAny_Call_Name_kw (ld_glob I hg hm ?_ hdb); have hA : liftA X.K H0 tr σ H (fun vs H' => ∃ G' ds, Nx X.K H0 σ δ G H G' H' /\ Reps X.K G' ds vs /\ sp ds (fun r => ∃ d, r = .val d /\ Qd d) R) := ⟨δ, G, _, hs, ht, fun vs H' G' ds n r q => ⟨G', ds, n, r, q⟩⟩; have hw := ha cpos pins s σ H _ I hA; refine PySem.W.callWith_K (h₀ := X.base) I.ok.mod.kin hk (wpAny_mono hw (fun us s1 ⟨vs, H1, I1, r, G', ds, n, rd, q⟩ => ⟨I1.kIn, ?_⟩) fun _ _ z => z) he hpl; refine run_fnX (X := X) F hr hbi n.hs I1 r rd q (fun v G1 r u s' I2 rv own1 ok q2 => ?_) fun x ea s' xd fl => hP x xd _ _ _ _ _ _ _ fl
  obtain ⟨d, rfl, q2⟩ := q2; obtain ⟨n2, r2⟩ := n.hs.behind_val own1 ok; exact ⟨v, _, I2, rv, g _ _ _ _ (n.trans n2) r2 q2⟩
end
def GTab (P : Program) (w : World) (K : PySem.W.Frag) (mg : Str -> Option Value) (g : Str) (tab : List (Str × Addr)) : Prop :=
  ∃ (a : Addr) (es : Array DictEntry) (n : Nat), mg g = some (.ref a) /\ K.lookup a = some ⟨.type "dict", none, .dict es n, #[]⟩ /\ KeysOf (mixKind P w) es /\ Pairs (mixKind P w) es.toList (tab.map fun p => (.inr p.1, .ref p.2)) /\ (tab.map (·.1)).Nodup
theorem tab_val : ∀ (tab : List (Str × Addr)) (x : Str) (p : Addr), tab.lookup x = some p -> valueAt (tab.map fun p => ((.inr p.1 : Key), Value.ref p.2)) (.inr x) = some (.ref p)
  | [], x, p, h => by cases h
  | (y, q) :: tab, x, p, h => by
    rw [List.lookup_cons] at h
    by_cases e : x = y
    · subst e
      rw [beq_self_eq_true] at h; cases h; simp [valueAt]
    · rw [beq_eq_false_iff_ne.mpr e] at h
      have := tab_val tab x p h; have ne : ¬ y = x := fun z => e z.symm
      simp only [valueAt, List.map_cons, List.find?_cons] at this ⊢; rw [decide_eq_false (fun z => ne (Sum.inr.inj z))]; exact this
section
variable {X : Cx} {H0 : Hp} {g : Str} {tab : List (Str × Addr)} {e a : Expr} {te ta : RE} {np pos pos2 : Pos}
def rTab (tab : List (Str × Addr)) (te : RE) (δ : List Sl) (Q : D -> Prop) : Prop := te δ fun d => ∃ x p, d = .str x /\ tab.lookup x = some p /\ Q (.adr p)
theorem e_gtab (T : GTab X.prog X.w X.K X.mg g tab) (he : PE2 X H0 e te) (hs : NoSl e := by intro _ _; rfl) (hg : Gl X g := by rfl) (hdb : (g == ("__debug__" : Str)) = false := by decide) : PE2 X H0 (.Subscript (.Name g np) e pos) (rTab tab te) := by
  obtain ⟨a, es, n, hm, hk, ko, pr, nd⟩ := T; intro pins s σ H Q I ⟨δ, G, Qd, hs0, ht, k⟩; refine subD_of PySem.F.slot_dict_getitem.lookup hs (ld_glob I hg hm ?_ hdb); have hE : liftE X.K H0 te σ H (fun v H' => ∃ x p G', v = .str x /\ tab.lookup x = some p /\ Nx X.K H0 σ δ G H G' H' /\ Qd (.adr p)) :=
    ⟨δ, G, _, hs0, ht, fun v H' G' d n r ⟨x, p, e, hl, q⟩ => by subst e; exact ⟨x, p, G', by simpa only [Rep] using r, hl, n, q⟩⟩
  refine thn (he pins s σ H _ I hE) fun u s1 ⟨v, H1, I1, rv, x, p, G', ev, hl, n1, q⟩ => ?_
  subst ev; obtain ⟨t, rfl⟩ := rv
  have dd : s1.heap.DictOf (mixKind X.prog X.w) a (tab.map fun p => (.inr p.1, .ref p.2)) := ⟨_, es, n, I1.kIn _ _ hk, ⟨rfl, rfl, rfl⟩, rfl, ko, pr, by
    rw [List.map_map]; unfold List.Nodup at nd ⊢; rw [List.pairwise_map] at nd ⊢
    exact nd.imp fun h e => h (Sum.inr.inj e)⟩
  refine ⟨dd.mapOf.typeIs, ?_⟩; exact wpAny_getItem_of (k := .inr x) (mixKind_str X.prog X.w x t) dd.mapOf (tab_val tab x p hl) ⟨.ref p, H1, I1.tok _, rfl, k _ _ _ _ n1 (by simp only [Rep]) q⟩
def GTup (K : PySem.W.Frag) (p : Addr) (xs : List Str) : Prop := ∃ (o : Obj) (its : Array Value) (n : Nat), K.lookup p = some o /\ o.cls = .type "tuple" /\ o.data = .seq its n /\ its.size <= sizeLine /\ Vals (xs.map V.str) its.toList
def dInT (K : PySem.W.Frag) (neg : Bool) (x y : D) (Q : D -> Prop) : Prop := ∃ h p xs, x = .str h /\ y = .adr p /\ GTup K p xs /\ Q (.bl (neg != xs.any fun z => z == h))
theorem inV_str (h : Str) : ∀ xs : List Str, inV (.str h) (xs.map V.str) = xs.any fun z => z == h
  | [] => rfl
  | x :: xs => by
    have := inV_str h xs; unfold inV at this ⊢; rw [List.map_cons, List.any_cons, List.any_cons, this]; rfl
theorem all_flat : ∀ xs : List Str, (xs.map V.str).all flatV = true
  | [] => rfl
  | x :: xs => by rw [List.map_cons, List.all_cons, all_flat xs]; rfl
theorem lf_inT {K : PySem.W.Frag} {neg : Bool} : Lf2 K (rIn K neg) (dInT K neg) := fun H0 σ δ G H x y dx dy Qd Q hs rx ry h k => by
  obtain ⟨z, p, xs, rfl, rfl, hT, q⟩ := h; have rx : x = .str z := rx; have ry : y = .ref p := ry; subst rx ry; refine ⟨p, xs.map V.str, rfl, .inr (.inr hT), rfl, all_flat xs, ?_⟩; refine k _ H G (.bl (neg != xs.any fun w => w == z)) (Nx.refl hs) ?_ q; rw [inV_str]; simp only [Rep]
  cases neg <;> cases (xs.any fun w => w == z) <;> rfl
end
abbrev dEnt (w : World) (x : Str) (t : Nat) (p : Addr) : DictEntry := ⟨PyData.keyHash w.params x, .str x t, .ref p⟩
theorem keys_of {P : Program} {w : World} : ∀ (tab : List (Str × Addr)) (ts : List Nat), ts.length = tab.length -> KeysOf (mixKind P w) ((tab.zip ts).map fun q => dEnt w q.1.1 q.2 q.1.2).toArray /\ Pairs (mixKind P w) ((tab.zip ts).map fun q => dEnt w q.1.1 q.2 q.1.2) (tab.map fun p => (.inr p.1, .ref p.2))
  | [], [], _ => ⟨fun e he => by simp at he, .nil⟩
  | (x, p) :: tab, t :: ts, h => by
    obtain ⟨h1, h2⟩ := keys_of (P := P) (w := w) tab ts (by simpa using h); refine ⟨fun e he => ?_, .cons (mixKind_str P w x t) rfl h2⟩; have he : e = dEnt w x t p \/ e ∈ (tab.zip ts).map fun q => dEnt w q.1.1 q.2 q.1.2 := by simpa using he
    rcases he with rfl | he
    · exact ⟨.inr x, mixKind_str P w x t, rfl⟩
    · exact h1 e (by simpa using he)
section
variable {X : Cx} {pins : List (Addr × Obj)} {σ : L2.St} {H : Hp} {s : Shared} {a : Addr} {kws : List (Key × V)} {ob : Obj}
end
section
variable {X : Cx} {tg : Expr}
end
section
variable {X : Cx} {H0 : Hp} {tg : Expr} {g : RG} {body : List Stmt} {tb : RS} {pos p : Pos} {x : Str}
end
section
variable {X : Cx} {H0 : Hp} {nT : Nat} {g : RGp} {e : Expr} {pos p2 : Pos}
variable {target iter elt : Expr} {ifs : List Expr} {scope : Scope} {N' : List Str} {te tel : RE} {tc : RT}
end
section
variable {X : Cx} {H0 : Hp} {a b e o : Expr} {es : List Expr} {ta tb te to : RE} {tr : RA} {tj : RJ} {pos p apos cpos p2 : Pos}
def dCatS (x y : D) (Q : D -> Prop) : Prop := match x, y with
  | .str i, .str j => i.length + j.length <= sizeLine /\ Q (.str (i ++ j))
  | _, _ => False
theorem lf_catS {K : PySem.W.Frag} : Lf2 K (fun x y H Q => ∃ i j, x = .str i /\ y = .str j /\ i.length + j.length <= sizeLine /\ Q (.str (i ++ j)) H) dCatS := fun H0 σ δ G H x y dx dy Qd Q hs rx ry h k => by
  unfold dCatS at h
  split at h
  · rename_i i j
    obtain rfl : x = .str i := rx; obtain rfl : y = .str j := ry; exact ⟨i, j, rfl, rfl, h.1, k _ H G _ (Nx.refl hs) (by simp only [Rep]) h.2⟩
  · exact h.elim
theorem e_catS (ha : PB2 X H0 a ta) (hb : PB2 X H0 b tb) : PE2 X H0 (.BinOp a .Add b pos) (rOp dCatS ta tb) := e_op op_add_str lf_catS ha hb
theorem call_str1 : CallR X (.type "str") (fun xs H Q => (∃ i, xs = [.int i] /\ i.natAbs.log2 < 1920 /\ Q (.str (toString i)) H) \/ ∃ x, xs = [.str x] /\ Q (.str x) H) := by
  intro pins s σ H xs us Q I r h
  rcases h with h | ⟨x, rfl, q⟩
  · exact call_str_int pins s σ H xs us Q I r h
  · obtain ⟨u, rfl, t, rfl⟩ := vals1 r
    exact PySem.P.str_of_str ⟨.str x, H, I, ⟨_, rfl⟩, q⟩
def dStr (ds : List D) (Q : D -> Prop) : Prop := match ds with
  | [.int i] => i.natAbs.log2 < 1920 /\ Q (.str (Str.ofString (toString i)))
  | [.str x] => Q (.str x)
  | _ => False
theorem lf_str {K : PySem.W.Frag} : LfC K (fun xs H Q => (∃ i, xs = [.int i] /\ i.natAbs.log2 < 1920 /\ Q (.str (toString i)) H) \/ ∃ x, xs = [.str x] /\ Q (.str x) H) dStr := fun H0 σ δ G H vs ds Qd Q hs r h k => by
  unfold dStr at h
  split at h
  · rename_i i
    obtain ⟨v, rr, rfl, h1, h4⟩ := r; obtain rfl : rr = [] := h4; obtain rfl : v = .int i := h1; exact .inl ⟨i, rfl, h.1, k _ H G _ (Nx.refl hs) (by simp only [Rep]) h.2⟩
  · rename_i x
    obtain ⟨v, rr, rfl, h1, h4⟩ := r; obtain rfl : rr = [] := h4; obtain rfl : v = .str x := h1; exact .inr ⟨x, rfl, k _ H G _ (Nx.refl hs) (by simp only [Rep]) h⟩
  · exact h.elim
theorem e_strOf (hm : X.mg "str" = none) (ha : PAB2 X H0 (e :: es) tr) (hg : Gl X "str" := by rfl)
 (he : starEach (e :: es) X.env = (false, eval e X.env) :: starEach es X.env := by rfl) (hpl : (backTo pos (starEach es X.env)).any (·.1) = false := by rfl) : PE2 X H0 (.Call (.Name "str" p) (e :: es) [] pos) (rCB dStr tr) :=
  e_callTy call_str1 lf_str hm rfl ha hg (by decide) (by decide) he hpl
theorem vals_strs : ∀ {xs : List Str} {us : List Value}, Vals (xs.map V.str) us -> ∃ l : List (Str × Tok), us = strValues l /\ l.map (·.1) = xs
  | [], us, h => by cases h; exact ⟨[], rfl, rfl⟩
  | x :: xs, us, h => by
    cases h with
    | cons r t =>
      obtain ⟨tk, rfl⟩ := r; obtain ⟨l, rfl, e⟩ := vals_strs t; exact ⟨(x, tk) :: l, rfl, by simp [e]⟩
theorem reps_strs {K : PySem.W.Frag} {H : Hp} : ∀ {xs : List Str} {vs : List V}, Reps K H (xs.map D.str) vs -> vs = xs.map V.str
  | [], vs, h => by simpa only [Reps, List.map_nil] using h
  | x :: xs, vs, h => by
    simp only [List.map_cons, Reps] at h; obtain ⟨v, r, rfl, h1, h2⟩ := h; rw [reps_strs h2]; simp only [Rep] at h1; rw [h1]; rfl
def rJoin (sep : Str) (te : RE) (δ : List Sl) (Q : D -> Prop) : Prop := te δ fun d => ∃ xs : List Str, d = .lst (xs.map D.str) /\ JoinOk sep xs = true /\ Q (.str (Txt.join sep xs))
theorem e_join {sep : Str} {j : Nat} (he : PB2 X H0 e te) (m : M1 X (.Constant (.str sep) j p) "join" apos e cpos := by exact ⟨rfl, rfl, rfl, rfl⟩) : PE2 X H0 (.Call (.Attribute (.Constant (.str sep) j p) "join" apos) [e] [] cpos) (rJoin sep te) := by
  intro pins s σ H Q I ⟨δ, G, Qd, hs, ht, k⟩; refine wpAny_Call_method m.base m.few m.line PySem.F.plainAttrs_str PySem.F.slot_str_join PySem.F.type_str_join (Calls.Constant_str ⟨typeIs_str _ _ _, (fun _ e => nomatch e), ?_⟩); rw [m.trees]; have hB : liftB X.K H0 te σ H (fun v H' => ∃ G' xs, Nx X.K H0 σ δ G H G' H' /\ RepB X.K G' H' (.lst (xs.map D.str)) v /\ JoinOk sep xs = true /\ Qd (.str (Txt.join sep xs))) :=
    ⟨δ, G, _, hs, ht, fun v H' G' d n r ⟨xs, e, ok, q⟩ => by subst e; exact ⟨G', xs, n, r, ok, q⟩⟩
  refine Calls.callWith_builtin rfl (Calls.evalArgs_plain (Calls.spliced_cons (thn (he pins _ σ H _ (I.tok _) hB) fun iv s2 ⟨y, H2, I2, ry, G', xs, n, rb, ok, q⟩ => Calls.spliced_nil ?_))); obtain ⟨a, vs, rfl, h2, h3⟩ := rb; obtain rfl := reps_strs h3; cases ry; obtain ⟨its, r, pl, hz⟩ := I2.list h2; obtain ⟨l, rfl, e⟩ := vals_strs r; exact SC.join pl.isList e ok fun t' kk => ⟨.str _, H2, I2.tok _, ⟨_, rfl⟩, k _ _ _ _ n (by simp only [Rep]) q⟩
abbrev jStrE (te : RE) (t : RJ) (δ : List Sl) (Q : Str -> Prop) : Prop := te δ fun d => ∃ x : Str, d = .str x /\ x.length <= 2000 /\ t δ fun y => Q (x ++ y)
theorem j_strE (he : PE2 X H0 e te) (h : PJ2 X H0 es tj) : PJ2 X H0 (.FormattedValue e (-1) none pos :: es) (jStrE te tj) := fun pins s σ H acc Q I hl ⟨δ, G, Qd, hs, ht, k⟩ => by
  have hl' : acc.length + 2000 * es.length + 2000 <= sizeLine := by simpa [Nat.mul_add, Nat.add_assoc] using hl
  refine wpAny_FormattedValue_plain ?_; have hE : liftE X.K H0 te σ H (fun v H' => ∃ (x : Str) (G' : Hp), v = .str x /\ x.length <= 2000 /\ Nx X.K H0 σ δ G H G' H' /\ tj δ fun y => Qd (x ++ y)) :=
    ⟨δ, G, _, hs, ht, fun v H' G' d n r ⟨i, e, hi, q⟩ => by subst e; exact ⟨i, G', by simpa only [Rep] using r, hi, n, q⟩⟩
  refine thn (he pins s σ H _ I hE) fun u s1 ⟨v, H1, I1, rv, x, G', ev, hi, n, q⟩ => ?_
  subst ev; obtain ⟨t, rfl⟩ := rv
  have fin : ∀ (t2 : Tok) (tk : Nat), ∃ (y : Str) (t' : Tok), Value.str x t2 = .str y t' /\ (acc ++ y).length <= sizeLine /\ Joins (model X.prog X.w) X.A X.xe (evalEach es X.env) (acc ++ y) (fun out s1 => ∃ y H', out = acc ++ y /\ out.length <= sizeLine /\ Inv X pins σ H' s1 /\ Q y H') { s1 with toks := tk } := fun t2 tk =>
    ⟨x, t2, rfl, by rw [strLen_append]; omega, joins_mono _ _ (h pins _ σ H1 (acc ++ x) (fun y => Q (x ++ y)) (I1.tok _) (by rw [strLen_append]; omega) ⟨δ, G', _, n.hs, q, fun y H' G2 n2 q => k _ _ _ (n.trans n2) q⟩) fun out s1 ⟨y, H', e, l, I', q⟩ => ⟨x ++ y, H', by rw [e, Str.append_assoc], l, I', q⟩⟩
  exact wpAny_formatField_str (fin _ _) (fin _ _) (by omega)
end
section
variable {X : Cx} {H0 : Hp} {e : Expr} {te : RE} {lo hi : Option Expr} {tl th : RO} {pos p2 : Pos}
end
section
variable {prog : Program} {w : World} {A : Around} {R : Result -> Shared -> Prop} {s : Shared}
variable {elt t1 i1 t2 i2 : Expr} {scope : Scope} {pos : Pos} {it acc : Value} {env : Env}
end
section
variable {Y : Cx} {pins : List (Addr × Obj)} {σ : L2.St} {H : Hp} {s : Shared} {fp : List Addr} {elt t1 i1 t2 i2 : Expr} {scope : Scope} {pos : Pos} {g : TG} {tel : TE} {J : It} {it D : Addr} {tn : Nat -> Heap -> Prop} {QN : L2.St -> Hp -> Prop}
end
section
variable {X : Cx} {pins : List (Addr × Obj)} {σ : L2.St} {H : Hp} {s : Shared} {scope : Scope} {N' : List Str} {cl : List (Str × Addr)} {fp : List Addr} {elt t1 i1 t2 i2 : Expr} {pos : Pos} {g1 g2 : TG} {wi : TI} {tel : TE} {nT : Nat} {J : It} {it D : Addr} {tn : Nat -> Heap -> Prop}
end
section
variable {X : Cx} {H0 : Hp} {nT : Nat} {g1 g2 : RGp} {te te2 tel : RE} {pos : Pos} {elt t1 i1 t2 i2 : Expr} {scope : Scope} {N' : List Str}
end
section
variable {X : Cx} {H0 : Hp} {e a : Expr} {es : List Expr} {tr : RA} {te : RE} {pos p : Pos}
def rInQ (K : PySem.W.Frag) : R2 := fun x y H Q => ∃ d p ds ys, plainD 50 d = true /\ ds.all (plainD 50) = true /\ Rep K H d x /\ y = .ref p /\ SqT K H p ys /\ Reps K H ds ys /\ Q (.bl (inD d ds)) H
theorem op_inQ (hu : X.A.units + 64 < cLine) : OpR X (compareOp .In) (rInQ X.K) := by
  intro pins s σ H x y v u Q I rx ry h; obtain ⟨d, p, ds, ys, pd, pds, rd, rfl, hq, rds, q⟩ := h; cases ry; obtain ⟨its, r, pl, hz⟩ := I.tuple hq; refine SeqAt.in_tupleAt (inE X.K H d ds) pl (fun w hw => ?_) ⟨.bl _, H, I, rfl, ?_⟩
  · obtain ⟨d', hd', v', r', ru'⟩ := reps_mem rds r w (by simpa using hw)
    rw [inE_at I pds hd' r' ru']; rw [List.all_eq_true] at pds; exact (both_at I 50 X.A.in1 d' d v' x w v (by have : X.A.in1.units <= X.A.units + 1 := (by first | exact Nat.le_refl _ | simp [Around.in1]); omega) (pds d' hd') pd r' rd ru' rx).2
  · rw [show its.toArray.any (inE X.K H d ds) = its.any (inE X.K H d ds) by simp, any_inE I pds (fun _ z => z) rds r]
    exact q
def dInQ (x y : D) (Q : D -> Prop) : Prop := match y with
  | .tup ys => plainD 50 x = true /\ ys.all (plainD 50) = true /\ Q (.bl (inD x ys))
  | _ => False
theorem lf_inQ {K : PySem.W.Frag} : Lf2 K (rInQ K) dInQ := fun H0 σ δ G H x y dx dy Qd Q hs rx ry h k => by
  cases dy with
  | tup ys =>
    have r := ry.all hs.sub; simp only [Rep] at r; obtain ⟨a, vs, rfl, h2, h3⟩ := r; exact ⟨dx, a, ys, vs, h.1, h.2.1, rx.all hs.sub, rfl, SqT.of h2, h3, k _ H G _ (Nx.refl hs) (by simp only [Rep]) h.2.2⟩
  | _ => exact h.elim
end
section
variable {X : Cx} {scope : Scope} {N' : List Str} {elt t1 i1 t2 i2 : Expr} {pos : Pos} {g1 g2 : TG} {wi : TI} {tel : TE} {nT : Nat}
end
section
variable {X : Cx} {H0 : Hp} {nT : Nat} {g1 g2 : RGp} {te te2 tel : RE} {pos : Pos} {elt t1 i1 t2 i2 : Expr} {scope : Scope} {N' : List Str}
end
section
variable {X : Cx} {H0 : Hp} {e : Expr} {es : List Expr} {tr : RA} {pos p : Pos}
end
section
variable {X : Cx} {H0 : Hp} {e value : Expr} {te tv : RE} {pos pos' cpos apos p : Pos} {x : Str}
end
section
variable {X : Cx} {H0 : Hp} {nT : Nat} {pos : Pos} {g : RGp} {target elt : Expr} {ifs : List Expr} {scope : Scope} {N' : List Str} {tel : RE} {tc : RT}
end
section
variable {X : Cx} {H0 : Hp} {o e : Expr} {es : List Expr} {te ta : RE} {tr : RA} {pos p apos cpos : Pos}
theorem mt_isdigit : MtR X "str.isdigit" (fun x vs H Q => ∃ i, x = .str i /\ vs = [] /\ Q (.bl (Txt.isdigit i)) H) := by
  intro pins s σ H x xs v us Q I rx rv h; obtain ⟨i, rfl, rfl, q⟩ := h; obtain ⟨t, rfl⟩ := rx; cases rv; exact SC.isdigit ⟨.bl _, H, I, rfl, q⟩
theorem mt_starts : MtR X "str.startswith" (fun x vs H Q => ∃ i j, x = .str i /\ vs = [.str j] /\ Q (.bl (Txt.startswith i j)) H) := by
  intro pins s σ H x xs v us Q I rx rv h; obtain ⟨i, j, rfl, rfl, q⟩ := h; obtain ⟨t, rfl⟩ := rx; obtain ⟨u, rfl, t', rfl⟩ := vals1 rv; exact SC.startswith ⟨.bl _, H, I, rfl, q⟩
theorem mt_rempre : MtR X "str.removeprefix" (fun x vs H Q => ∃ i j, x = .str i /\ vs = [.str j] /\ i.length <= sizeLine /\ Q (.str (Txt.removeprefix i j)) H) := by
  intro pins s σ H x xs v us Q I rx rv h; obtain ⟨i, j, rfl, rfl, hz, q⟩ := h; obtain ⟨t, rfl⟩ := rx; obtain ⟨u, rfl, t', rfl⟩ := vals1 rv; exact SC.removeprefix (fun t' k => ⟨.str _, H, I.tok k, ⟨_, rfl⟩, q⟩) hz
theorem strs_vals : ∀ l : List (Str × Tok), Vals ((l.map (·.1)).map V.str) (strValues l)
  | [] => .nil
  | (x, t) :: l => .cons ⟨t, rfl⟩ (strs_vals l)
theorem mt_split : MtR X "str.split" (fun x vs H Q => ∃ i j, x = .str i /\ vs = [.str j] /\ (j.length == 0) = false /\ i.length <= 16384 /\ ∀ l, H l = none -> Q (.ref l) (upd H l (.lst ((Txt.split i j).map V.str)))) := by
  intro pins s σ H x xs v us Q I rx rv h; obtain ⟨i, j, rfl, rfl, hy, hz, q⟩ := h; obtain ⟨t, rfl⟩ := rx; obtain ⟨u, rfl, t', rfl⟩ := vals1 rv; have hz1 : i.length <= sizeLine := Nat.le_trans hz (by decide); have hn : (Builtin.Str.partsBetween i (Builtin.Str.occurrences i j 0 i.length (i.length + 1)) j.length).length <= sizeLine := by
    rw [length_partsBetween]; have := StrLaws.occ_length_le i j 0 i.length (i.length + 1); exact Nat.le_trans (show _ <= 16386 by omega) (by decide)
  have fin : ∀ (l : List (Str × Tok)) (k : Nat), l.map (·.1) = Txt.split i j -> l.length <= sizeLine -> EP X pins σ Q (.ref s.heap.objs.size) { s with heap := s.heap.push { cls := .type "list", data := .seq (strValues l).toArray }, toks := k } := fun l k e hl => by
    refine ⟨.ref s.heap.objs.size, _, I.laid (t' := k) (fun b o e => Heap.get?_push_of_some _ e) (Nat.le_refl _) (show ObjOk X.prog X.w _ _ _ (.lst ((Txt.split i j).map V.str)) from ?_), rfl, q _ (I.hok.fresh (Nat.le_refl _))⟩; rw [<- e]; exact ⟨by rw [List.length_map, List.length_map]; exact hl, strValues l, 0, strs_vals l, Heap.get?_push_size _ rfl⟩
  cases h1 : (decide (i.length < j.length) || decide (Builtin.Str.strKind i < Builtin.Str.strKind j)) with
  | true => exact call_meets F.slot_str_split (typeIs_str _ _ _) F.entry_str_split (F.args_str_split_2 _ _) (meets_str_split_cannot_occur i j t t' h1) (fin [(i, t)] s.toks (if_pos h1).symm (by show 1 <= sizeLine; decide))
  | false =>
    cases hf : (Builtin.Str.occurrences i j 0 i.length (i.length + 1)).isEmpty with
    | true => exact call_meets F.slot_str_split (typeIs_str _ _ _) F.entry_str_split (F.args_str_split_2 _ _) (meets_str_split_not_found i j t t' h1 hy hf) (fin [(i, t)] s.toks ((if_neg (ne_true_of_eq_false h1)).trans (if_pos hf)).symm (by show 1 <= sizeLine; decide))
    | false =>
      refine call_meets F.slot_str_split (typeIs_str _ _ _) F.entry_str_split (F.args_str_split_2 _ _) (meets_str_split_sep i j t t' h1 hy hf hz1 hn) ?_
      show EP X pins σ Q _ { s with toks := _, heap := s.heap.push { cls := .type "list", data := .seq (strsFrom s.toks (Builtin.Str.partsBetween i (Builtin.Str.occurrences i j 0 i.length (i.length + 1)) j.length)).toArray } }
      rw [strsFrom_eq]; refine fin (numbered s.toks _) _ ((numbered_texts _ _).trans ((if_neg (ne_true_of_eq_false h1)).trans (if_neg (ne_true_of_eq_false hf))).symm) ?_; have := congrArg List.length (numbered_texts s.toks (Builtin.Str.partsBetween i (Builtin.Str.occurrences i j 0 i.length (i.length + 1)) j.length)); rw [List.length_map] at this; rw [this]; exact hn
def rSm0 (f : Str -> D) (te : RE) (δ : List Sl) (Q : D -> Prop) : Prop := te δ fun d => ∃ x : Str, d = .str x /\ Q (f x)
def rSm1 (f : Str -> Str -> D) (C : Str -> Str -> Prop) (te ta : RE) (δ : List Sl) (Q : D -> Prop) : Prop := te δ fun d => ∃ x : Str, d = .str x /\ ta δ fun a => ∃ y : Str, a = .str y /\ C x y /\ Q (f x y)
theorem e_isdigit (ho : PE2 X H0 o te) (hbase : attributeBase o "isdigit" X.env (eval o X.env) = eval o X.env := by rfl) (hline : (apos.endLine == cpos.line) = true := by rfl) :
 PE2 X H0 (.Call (.Attribute o "isdigit" apos) [] [] cpos) (rSm0 (fun x => .bl (Txt.isdigit x)) te) :=
  PE.weak (pe_bm0 PySem.F.plainAttrs_str PySem.F.slot_str_isdigit PySem.F.type_str_isdigit mt_isdigit ho hbase hline) fun σ H Q ⟨δ, G, Qd, hs, ht, k⟩ => ⟨δ, G, _, hs, ht, fun v H1 G1 d n1 r1 q1 => by
    obtain ⟨x, rfl, q⟩ := q1; have r1 : v = .str x := r1; subst r1
    exact ⟨rfl, x, rfl, rfl, k _ H1 G1 _ n1 (by simp only [Rep]) q⟩⟩
abbrev Sm1 (X : Cx) (o e : Expr) (m : Str) (apos cpos : Pos) : Prop := attributeBase o m X.env (eval o X.env) = eval o X.env /\ ((backTo cpos (starEach [e] X.env)).all (fun x => !x.1) && (backToKw cpos (keywordEach [] X.env)).all (fun x => x.1.isSome)
      && decide ([e].length + ([] : List Keyword).length + (if ([] : List Keyword).isEmpty then 0 else 1) < 30)) = true /\ (apos.endLine == cpos.line) = true /\ starEach [e] X.env = (false, eval e X.env) :: starEach [] X.env
theorem e_sm1 {m : Str} {id : String} {f : Str -> Str -> D} {g : Str -> Str -> V} {C : Str -> Str -> Prop} (slot : Slot "str" m id) (hty : typeOf (.builtin id) = pure (.type "method_descriptor")) (hg : ∀ K G x y, Rep K G (f x y) (g x y))
 (hm : MtR X id (fun x vs H Q => ∃ i j, x = .str i /\ vs = [.str j] /\ C i j /\ Q (g i j) H)) (ho : PE2 X H0 o te) (ha : PE2 X H0 e ta) (sm : Sm1 X o e m apos cpos) :
 PE2 X H0 (.Call (.Attribute o m apos) [e] [] cpos) (rSm1 f C te ta) :=
  PE.weak (pe_bm PySem.F.plainAttrs_str slot hty hm ho (pa_cons ha pa_nil sm.2.2.2) sm.1 sm.2.1 sm.2.2.1 sm.2.2.2 rfl) fun σ H Q ⟨δ, G, Qd, hs, ht, k⟩ => ⟨δ, G, _, hs, ht, fun v H1 G1 d n1 r1 q1 => by
    obtain ⟨x, rfl, q1⟩ := q1; have r1 : v = .str x := r1; subst r1; refine ⟨rfl, δ, G1, _, n1.hs, q1, fun v2 H2 G2 d2 n2 r2 q2 => ?_⟩; obtain ⟨y, rfl, hC, q2⟩ := q2; have r2 : v2 = .str y := r2; subst r2
    exact ⟨x, y, rfl, rfl, hC, k _ H2 G2 _ (n1.trans n2) (hg _ _ _ _) q2⟩⟩
theorem e_starts (ho : PE2 X H0 o te) (ha : PE2 X H0 e ta) (sm : Sm1 X o e "startswith" apos cpos := by exact ⟨rfl, rfl, rfl, rfl⟩) : PE2 X H0 (.Call (.Attribute o "startswith" apos) [e] [] cpos) (rSm1 (fun x y => .bl (Txt.startswith x y)) (fun _ _ => True) te ta) :=
  e_sm1 (g := fun x y => .bl (Txt.startswith x y)) PySem.F.slot_str_startswith PySem.F.type_str_startswith (fun _ _ _ _ => by simp only [Rep]) (fun pins s σ H x xs v us Q I rx rv ⟨i, j, e1, e2, _, q⟩ => mt_starts pins s σ H x xs v us Q I rx rv ⟨i, j, e1, e2, q⟩) ho ha sm
theorem e_rempre (ho : PE2 X H0 o te) (ha : PE2 X H0 e ta) (sm : Sm1 X o e "removeprefix" apos cpos := by exact ⟨rfl, rfl, rfl, rfl⟩) : PE2 X H0 (.Call (.Attribute o "removeprefix" apos) [e] [] cpos) (rSm1 (fun x y => .str (Txt.removeprefix x y)) (fun x _ => x.length <= sizeLine) te ta) :=
  e_sm1 (g := fun x y => .str (Txt.removeprefix x y)) PySem.F.slot_str_removeprefix PySem.F.type_str_removeprefix (fun _ _ _ _ => by simp only [Rep]) mt_rempre ho ha sm
theorem reps_of_strs {K : PySem.W.Frag} {G : Hp} : ∀ xs : List Str, Reps K G (xs.map D.str) (xs.map V.str)
  | [] => Reps.nil
  | x :: xs => by rw [List.map_cons, List.map_cons]; exact Reps.cons (by simp only [Rep]) (reps_of_strs xs)
theorem n_split (ho : PE2 X H0 o te) (ha : PE2 X H0 e ta) (sm : Sm1 X o e "split" apos cpos := by exact ⟨rfl, rfl, rfl, rfl⟩) : PN2 X H0 (.Call (.Attribute o "split" apos) [e] [] cpos) (rSm1 (fun x y => .lst ((Txt.split x y).map D.str)) (fun x y => (y.length == 0) = false /\ x.length <= 16384) te ta) :=
  PE.weak (pe_bm PySem.F.plainAttrs_str PySem.F.slot_str_split PySem.F.type_str_split mt_split ho (pa_cons ha pa_nil sm.2.2.2) sm.1 sm.2.1 sm.2.2.1 sm.2.2.2 rfl) fun σ H Q ⟨δ, G, Qd, hs, ht, k⟩ => ⟨δ, G, _, hs, ht, fun v H1 G1 d n1 r1 q1 => by
    obtain ⟨x, rfl, q1⟩ := q1; have r1 : v = .str x := r1; subst r1; refine ⟨rfl, δ, G1, _, n1.hs, q1, fun v2 H2 G2 d2 n2 r2 q2 => ?_⟩; obtain ⟨y, rfl, hC, q2⟩ := q2; have r2 : v2 = .str y := r2; subst r2; refine ⟨x, y, rfl, rfl, hC.1, hC.2, fun l hl => ?_⟩
    exact k _ _ G2 (.lst ((Txt.split x y).map D.str)) (n2.hs.fresh hl ⟨_, upd_same, reps_of_strs _⟩) (n1.g.trans n2.g) ((n1.h.trans n2.h).trans (upd_mono hl)) q2⟩
def dLenS (ds : List D) (Q : D -> Prop) : Prop := ∃ x : Str, ds = [.str x] /\ x.length <= sizeLine /\ Q (.int x.length)
theorem lf_lenS {K : PySem.W.Frag} : LfC K (fun xs H Q => ∃ z, xs = [.str z] /\ z.length <= sizeLine /\ Q (.int z.length) H) dLenS := fun H0 σ δ G H vs ds Qd Q hs r h k => by
  obtain ⟨x, rfl, hz, q⟩ := h; obtain ⟨v, rr, rfl, h1, h4⟩ := r; obtain rfl : rr = [] := h4; obtain rfl : v = .str x := h1; exact ⟨x, rfl, hz, k _ H G _ (Nx.refl hs) (by simp only [Rep]) q⟩
theorem e_lenS (hm : X.mg "len" = none) (ha : PAB2 X H0 (e :: es) tr) (hg : Gl X "len" := by rfl)
 (he : starEach (e :: es) X.env = (false, eval e X.env) :: starEach es X.env := by rfl) (hpl : (backTo pos (starEach es X.env)).any (·.1) = false := by rfl) : PE2 X H0 (.Call (.Name "len" p) (e :: es) [] pos) (rCB dLenS tr) :=
  e_callB call_len_str lf_lenS hm PySem.boot_len ha hg (by decide) (by decide) he hpl
theorem call_intS : CallR X (.type "int") (fun xs H Q => ∃ z n, xs = [.str z] /\ intText? z = some n /\ z.length <= 640 /\ Q (.int n) H) := by
  intro pins s σ H xs us Q I r h; obtain ⟨z, n, rfl, hn, hl, q⟩ := h; obtain ⟨u, rfl, t, rfl⟩ := vals1 r; exact PySem.W.KIN.call_text hn hl ⟨.int n, H, I.tok _, ⟨_, rfl⟩, q⟩
def dIntS (ds : List D) (Q : D -> Prop) : Prop := ∃ (x : Str) (n : Int), ds = [.str x] /\ intText? x = some n /\ x.length <= 640 /\ Q (.int n)
theorem lf_intS {K : PySem.W.Frag} : LfC K (fun xs H Q => ∃ z n, xs = [.str z] /\ intText? z = some n /\ z.length <= 640 /\ Q (.int n) H) dIntS := fun H0 σ δ G H vs ds Qd Q hs r h k => by
  obtain ⟨x, n, rfl, hn, hl, q⟩ := h; obtain ⟨v, rr, rfl, h1, h4⟩ := r; obtain rfl : rr = [] := h4; obtain rfl : v = .str x := h1; exact ⟨x, n, rfl, hn, hl, k _ H G _ (Nx.refl hs) (by simp only [Rep]) q⟩
theorem e_intS (hm : X.mg "int" = none) (ha : PAB2 X H0 (e :: es) tr) (hg : Gl X "int" := by rfl)
 (he : starEach (e :: es) X.env = (false, eval e X.env) :: starEach es X.env := by rfl) (hpl : (backTo pos (starEach es X.env)).any (·.1) = false := by rfl) : PE2 X H0 (.Call (.Name "int" p) (e :: es) [] pos) (rCB dIntS tr) :=
  e_callTy call_intS lf_intS hm rfl ha hg (by decide) (by decide) he hpl
def dTupOf (ds : List D) (Q : D -> Prop) : Prop := ∃ xs : List D, ds = [.lst xs] /\ Q (.tup xs)
theorem lf_tupOf {K : PySem.W.Frag} : LfC K (fun xs H Q => ∃ p ys, xs = [.ref p] /\ ((SqL K H p ys /\ ∀ l, H l = none -> Q (.ref l) (upd H l (.tup ys))) \/ (SqT K H p ys /\ Q (.ref p) H))) dTupOf := fun H0 σ δ G H vs ds Qd Q hs r h k => by
  obtain ⟨xs, rfl, q⟩ := h; obtain ⟨v, rr, rfl, ⟨a, ws, rfl, h2, h3⟩, h4⟩ := r; obtain rfl : rr = [] := h4; refine ⟨a, ws, rfl, .inl ⟨h2, fun l hl => ?_⟩⟩; obtain ⟨n2, s2⟩ := hs.laid (o := .tup ws) hl; exact k _ _ _ (.tup xs) ⟨n2, s2, upd_mono hl⟩ (by simp only [Rep]; exact ⟨l, ws, rfl, upd_same, Reps.mono s2 _ _ h3⟩) q
theorem e_tupOf (hm : X.mg "tuple" = none) (ha : PAB2 X H0 (e :: es) tr) (hg : Gl X "tuple" := by rfl)
 (he : starEach (e :: es) X.env = (false, eval e X.env) :: starEach es X.env := by rfl) (hpl : (backTo pos (starEach es X.env)).any (·.1) = false := by rfl) : PE2 X H0 (.Call (.Name "tuple" p) (e :: es) [] pos) (rCB dTupOf tr) :=
  e_callTy call_tuple_of lf_tupOf hm rfl ha hg (by decide) (by decide) he hpl
def dCatT (x y : D) (Q : D -> Prop) : Prop := ∃ xs ys : List D, x = .tup xs /\ y = .tup ys /\ xs ≠ [] /\ ys ≠ [] /\ xs.length + ys.length <= sizeLine /\ Q (.tup (xs ++ ys))
theorem lf_catT {K : PySem.W.Frag} : Lf2 K (rCatT K) dCatT := fun H0 σ δ G H x y dx dy Qd Q hs rx ry h k => by
  obtain ⟨xs, ys, rfl, rfl, hne, hne2, hz, q⟩ := h; obtain ⟨a, vs, rfl, h2, h3⟩ := rx; obtain ⟨b, ws, rfl, h4, h5⟩ := ry; have l1 := h3.length; have l2 := h5.length; refine ⟨a, b, vs, ws, rfl, rfl, SqT.of h2, SqT.of h4, ?_, by omega, fun e => ?_, fun _ p hp => ?_⟩
  · intro e
    rw [e] at l1; exact hne (List.length_eq_zero_iff.mp (by simpa using l1))
  · subst e
    exact absurd (List.length_eq_zero_iff.mp (by simpa using l2)) hne2
  · obtain ⟨n2, s2⟩ := hs.laid (o := .tup (vs ++ ws)) hp
    exact k _ _ _ (.tup (xs ++ ys)) ⟨n2, s2, upd_mono hp⟩ (by simp only [Rep]; exact ⟨p, _, rfl, upd_same, Reps.append (Reps.mono s2 _ _ h3) (Reps.mono s2 _ _ h5)⟩) q
theorem e_catT {a b : Expr} {ta tb : RE} (ha : PB2 X H0 a ta) (hb : PB2 X H0 b tb) : PE2 X H0 (.BinOp a .Add b pos) (rOp dCatT ta tb) := e_op op_catT lf_catT ha hb
end
structure Stp (prog : Program) (w : World) (i l : Addr) (n : Nat) (isV : Nat -> Value -> Prop) (St : Nat -> Heap -> Prop) (Sq : Heap -> Prop) : Prop where
  item : ∀ {A : Around} {E : Value -> Shared -> Prop} {s : Shared} {Q : Value -> Shared -> Prop} {k : Nat}, k < n -> St k s.heap -> Sq s.heap -> (∀ v h' t', isV k v -> St (k + 1) h' -> Heap.SameBut i s.heap h' -> Q v { s with heap := h', toks := t' }) -> wpAny (model prog w) A (Builtin.SmallTypes.nextOf (.ref i)) Q E s
  fin : ∀ {A : Around} {E : Value -> Shared -> Prop} {s : Shared} {Q : Value -> Shared -> Prop} {k : Nat}, A.handled = none -> n <= k -> St k s.heap -> Sq s.heap -> (∀ h' e, Heap.ExtBut i s.heap h' -> (∃ o, h'.get? e = some o /\ o.cls = .type "StopIteration") -> E (.ref e) { s with heap := h' }) -> wpAny (model prog w) A (Builtin.SmallTypes.nextOf (.ref i)) Q E s
  kst : ∀ {k : Nat} {h h' : Heap}, St k h -> (∀ o, h.get? i = some o -> h'.get? i = some o) -> St k h'
  ksq : ∀ {h h' : Heap}, Sq h -> (∀ o, h.get? l = some o -> h'.get? l = some o) -> Sq h'
  obj : ∀ {k : Nat} {h : Heap}, St k h -> ∃ o, h.get? i = some o /\ ∃ vs, o.data = .fields vs
theorem stp_list {prog : Program} {w : World} {i l : Addr} {xs : Array Value} : Stp prog w i l xs.size (fun k v => xs[k]? = some v) (fun k h => h.IsListIter i l k) (fun h => h.IsList l xs) where
  item := fun hk st sq q => wpAny_nextOf_list_item st sq (Array.getElem?_eq_getElem hk) fun h' a b => q _ h' _ (Array.getElem?_eq_getElem hk) a b
  fin := fun hh hk st sq q => wpAny_nextOf_list_end hh st sq (Array.getElem?_eq_none hk) q
  kst := fun st e => st.at e
  ksq := fun ⟨o, ho, r⟩ e => ⟨o, e _ ho, r⟩
  obj := fun ⟨o, ho, _, hd⟩ => ⟨o, ho, _, hd⟩
theorem nx_tup {prog : Program} {w : World} {A : Around} {E : Value -> Shared -> Prop} {s : Shared} {i l : Addr} {k : Nat} {xs : Array Value} {Q : Value -> Shared -> Prop} (st : IsTupIter s.heap i l k) (sq : IsTup s.heap l xs)
 (h1 : ∀ x h', xs[k]? = some x -> IsTupIter h' i l (k + 1) -> Heap.SameBut i s.heap h' -> Q x { s with heap := h' })
 (h2 : xs[k]? = none -> A.handled = none /\ ∀ h' e, Heap.ExtBut i s.heap h' -> (∃ o, h'.get? e = some o /\ o.cls = .type "StopIteration") -> E (.ref e) { s with heap := h' }) : wpAny (model prog w) A (Builtin.SmallTypes.nextOf (.ref i)) Q E s := by
  obtain ⟨io, hio, ic, idt⟩ := id st; obtain ⟨lo, hlo, _, ln, ldt⟩ := sq; unfold Builtin.SmallTypes.nextOf; refine wpAny_bind (wpAny_callSpecial?_slot (name := Str.ofString "__next__") st.typeIs slot_tupleiter_next (wpAny_call_entry slot_tupleiter_next st.typeIs entry_tupleiter_next ?go (args_tupleiter_next _)))
  case go =>
  show wpAny _ _ (field (.ref i) 0 >>= _) _ _ _
  refine wpAny_bind (wpAny_field hio idt (x := .ref l) rfl ?_)
  show wpAny _ _ (ite _ _ _) _ _ _
  rw [if_neg (show ¬ ((Value.ref l == Value.none) = true) from fun z => Bool.false_ne_true z)]
  show wpAny _ _ (field (.ref i) 1 >>= _) _ _ _
  refine wpAny_bind (wpAny_field hio idt (x := .int k 0) rfl ?_); refine wpAny_bind (m := seqItems? (.ref l)) (wpAny_seqItems hlo ldt ?_)
  cases hx : xs[k]? with
  | some x =>
    simp only [Int.toNat_natCast, hx]; refine wpAny_bind (wpAny_setField hio idt (by simp) (wpAny_pure ⟨x, rfl, wpAny_pure (h1 x _ hx ⟨_, Heap.get?_update_self _ hio (Obj.isFreed_of_fields (Obj.data_mapFields idt _)), (Obj.cls_mapFields ..).trans ic, ?_⟩ (Heap.SameBut.update ..))⟩)); rw [Obj.data_mapFields idt]; simp [rawInt]
  | none =>
    obtain ⟨hh, hE⟩ := h2 hx; simp only [Int.toNat_natCast, hx]; refine wpAny_bind (wpAny_rule (wpAny_bind (wpAny_setField hio idt (by simp) ?_))); refine wpAny_bind (m := newExc (.type "StopIteration") []) ?_; simp only [newExc, newTuple]; refine wpAny_bind (wpAny_newObj_type ?_ (by size_fits)); refine wpAny_bind (m := firstArgMember _ _) (wpAny_of_eq (a := Value.none) (by first | rfl | (simp only [firstArgMember]; rfl)) (wpAny_newObj_type ?_ (by size_fits))); simp only [raiseNew]; refine wpAny_bind (wpAny_handled ?_)
    first | rw [hh] | rw [show A.in1.handled = none from hh]
    exact wpAny_bind (wpAny_pure (wpAny_throw (hE _ _ (((Heap.SameBut.update ..).extBut.push _).push _) ⟨_, Heap.get?_push_size _ rfl, rfl⟩)))
theorem stp_tup {prog : Program} {w : World} {i l : Addr} {xs : Array Value} : Stp prog w i l xs.size (fun k v => xs[k]? = some v) (fun k h => IsTupIter h i l k) (fun h => IsTup h l xs) where
  item := fun hk st sq q => nx_tup st sq (fun x h' e a b => q x h' _ e a b) fun e => by rw [Array.getElem?_eq_getElem hk] at e; cases e
  fin := fun hh hk st sq q => nx_tup st sq (fun x h' e _ _ => by rw [Array.getElem?_eq_none hk] at e; cases e) fun _ => ⟨hh, q⟩
  kst := fun ⟨o, ho, r⟩ e => ⟨o, e _ ho, r⟩
  ksq := fun ⟨o, ho, r⟩ e => ⟨o, e _ ho, r⟩
  obj := fun ⟨o, ho, _, hd⟩ => ⟨o, ho, _, hd⟩
structure ZApart (z TI TO i1 i2 l1 l2 : Addr) : Prop where
  ti : TI ≠ z /\ TI ≠ TO /\ TI ≠ i1 /\ TI ≠ i2
  to : TO ≠ z /\ TO ≠ i1 /\ TO ≠ i2
  it : i1 ≠ z /\ i2 ≠ z /\ i1 ≠ i2
  la : l1 ≠ z /\ l1 ≠ TO /\ l1 ≠ i1 /\ l1 ≠ i2
  lb : l2 ≠ z /\ l2 ≠ TO /\ l2 ≠ i1 /\ l2 ≠ i2
section
variable {prog : Program} {w : World} {A : Around} {s : Shared} {z TI TO i1 i2 l1 l2 : Addr} {n1 n2 k1 k2 : Nat} {is1 is2 : Nat -> Value -> Prop} {St1 St2 : Nat -> Heap -> Prop} {Sq1 Sq2 : Heap -> Prop} {a b : Value}
theorem zs_next {Q : Option Value -> Shared -> Prop} {E : Value -> Shared -> Prop} (D : ZApart z TI TO i1 i2 l1 l2) (S1 : Stp prog w i1 l1 n1 is1 St1 Sq1) (S2 : Stp prog w i2 l2 n2 is2 St2 Sq2)
 (hz : IsZip s.heap z TI TO .none) (hTI : IsPair s.heap TI (.ref i1) (.ref i2)) (hTO : IsPair s.heap TO a b) (t1 : St1 k1 s.heap) (t2 : St2 k2 s.heap) (q1 : Sq1 s.heap) (q2 : Sq2 s.heap)
 (h1 : k1 < n1 -> k2 < n2 -> ∀ x y h' t', is1 k1 x -> is2 k2 y -> IsZip h' z TI TO (rawInt s.heap.objs.size) -> IsPair h' TO x y -> St1 (k1 + 1) h' -> St2 (k2 + 1) h' -> IsPair h' s.heap.objs.size x y -> h'.objs.size = s.heap.objs.size + 1 ->
 (∀ c o, c ≠ z -> c ≠ TO -> c ≠ i1 -> c ≠ i2 -> s.heap.get? c = some o -> h'.get? c = some o) -> Q (some (.ref s.heap.objs.size)) { s with heap := h', toks := t' })
 (h2 : n1 <= k1 \/ n2 <= k2 -> A.handled = none /\ ∀ h' t', (∀ c o, c ≠ z -> c ≠ TO -> c ≠ i1 -> c ≠ i2 -> s.heap.get? c = some o -> h'.get? c = some o) -> Q none { s with heap := h', toks := t' }) : wpAny (model prog w) A (pyNext (.ref z)) Q E s := by
  have hT : s.TypeIs (.ref z) "zip" := ⟨_, hz, rfl⟩; obtain ⟨d1, d2, d3, d4⟩ := D.ti; obtain ⟨o1, o2, o3⟩ := D.to; obtain ⟨j1, j2, j3⟩ := D.it; obtain ⟨a1, a2, a3, a4⟩ := D.la; obtain ⟨b1, b2, b3, b4⟩ := D.lb; unfold pyNext; refine wpAny_bind (wpAny_attempt (wpAny_callSpecial?_slot (name := Str.ofString "__next__") hT F.slot_zip_next (wpAny_call_entry F.slot_zip_next hT F.entry_zip_next ?go (F.args_zip_next_1 _))))
  case go =>
  refine wpAny_bind (m := field (.ref z) 2) (wpAny_field hz rfl (x := .bool false) rfl ?_); refine wpAny_bind (m := field (.ref z) 3) (wpAny_field hz rfl (x := .ref TI) rfl ?_); refine wpAny_bind (wpAny_seqItems hTI rfl ?_); refine wpAny_bind (m := Builtin.SmallTypes.ownedTupleIsFree (.ref z)) ?_; unfold Builtin.SmallTypes.ownedTupleIsFree; refine wpAny_bind (wpAny_field hz rfl (x := .none) rfl (wpAny_pure ?_)); simp only [if_true]; refine wpAny_bind (wpAny_rule ?_); refine wpAny_bind (wpAny_field hz rfl (x := .ref TO) rfl ?_); refine wpAny_bind (wpAny_setField_rec hz (by simp) fun g1 z1 s1 => ?_); replace z1 : IsZip g1 z TI TO .ellipsis := z1; refine wpAny_bind ?_; simp only [List.zipIdx_cons, List.zipIdx_nil, List.forIn_cons, List.forIn_nil]
  have ends : ∀ {h4 : Heap} {e : Addr} {t' : Nat}, (∀ c o, c ≠ z -> c ≠ TO -> c ≠ i1 -> c ≠ i2 -> s.heap.get? c = some o -> h4.get? c = some o) -> IsZip h4 z TI TO .ellipsis -> (∃ o, h4.get? e = some o /\ o.cls = .type "StopIteration") -> (∀ h' t', (∀ c o, c ≠ z -> c ≠ TO -> c ≠ i1 -> c ≠ i2 -> s.heap.get? c = some o -> h'.get? c = some o) -> Q none { s with heap := h', toks := t' }) ->
      ∀ (h5 : Heap), Heap.SameBut z h4 h5 -> (∀ c o, c ≠ z -> c ≠ TO -> c ≠ i1 -> c ≠ i2 -> s.heap.get? c = some o -> h5.get? c = some o) /\ ∃ o, h5.get? e = some o /\ o.cls = .type "StopIteration" := fun {h4 e t'} kp zz ⟨oe, he, hc⟩ hq h5 sb => by
    have hez : e ≠ z := fun x => by subst x; rw [zz] at he; cases he; simp at hc
    exact ⟨fun c o c1 c2 c3 c4 x => sb.extBut _ _ c1 (kp c o c1 c2 c3 c4 x), oe, sb.extBut _ _ hez he, hc⟩
  refine wpAny_bind (wpAny_bind (wpAny_onRaise ?_)); refine wpAny_bind (m := Builtin.SmallTypes.nextOf (.ref i1)) ?_
  rcases Nat.lt_or_ge k1 n1 with lt1 | ge1
  rotate_left
  · obtain ⟨hh, hq⟩ := h2 (.inl ge1)
    refine S1.fin hh ge1 (S1.kst t1 fun o e => s1.extBut _ _ j1 e) (S1.ksq q1 fun o e => s1.extBut _ _ a1 e) fun g2 e s2 he => ?_
    have zz : IsZip g2 z TI TO .ellipsis := s2 _ _ j1.symm z1; refine wpAny_setField_rec zz (by simp) fun g3 _ s3 => ?_
    obtain ⟨kp, o, ho, hc⟩ := ends (e := e) (t' := 0) (fun c o c1 c2 c3 c4 x => s2 _ _ c3 (s1.extBut _ _ c1 x)) zz he hq g3 s3; refine wpAny_bind (wpAny_isInstance (T := "StopIteration") (b := true) ⟨o, ho, hc⟩ isSubtype_stop ?_); exact wpAny_pure (hq _ _ kp)
  refine S1.item lt1 (S1.kst t1 fun o e => s1.extBut _ _ j1 e) (S1.ksq q1 fun o e => s1.extBut _ _ a1 e) fun x g2 tk2 isx st1 s2 => wpAny_pure ?_
  have p2 : IsPair g2 TO a b := s2.extBut _ _ o2 (s1.extBut _ _ o1 hTO); refine wpAny_bind (wpAny_seqItems p2 rfl ?_); refine wpAny_bind (wpAny_updateSeq_pair p2 fun g3 p3 s3 => ?_); replace p3 : IsPair g3 TO x b := p3; refine wpAny_bind (wpAny_letGo (wpAny_pure ?_)); refine wpAny_bind (wpAny_bind (wpAny_onRaise ?_)); refine wpAny_bind (m := Builtin.SmallTypes.nextOf (.ref i2)) ?_; have up3 : ∀ c o, c ≠ z -> c ≠ TO -> c ≠ i1 -> s.heap.get? c = some o -> g3.get? c = some o := fun c o c1 c2 c3 e => s3.extBut _ _ c2 (s2.extBut _ _ c3 (s1.extBut _ _ c1 e))
  have t3 : St2 k2 g3 := S2.kst t2 fun o e => up3 _ o j2 o3.symm j3.symm e
  have q3 : Sq2 g3 := S2.ksq q2 fun o e => up3 _ o b1 b2 b3 e
  have z3 : IsZip g3 z TI TO .ellipsis := s3.extBut _ _ o1.symm (s2.extBut _ _ j1.symm z1)
  rcases Nat.lt_or_ge k2 n2 with lt2 | ge2
  rotate_left
  · obtain ⟨hh, hq⟩ := h2 (.inr ge2)
    refine S2.fin hh ge2 t3 q3 fun g4 e s4 he => ?_
    have zz : IsZip g4 z TI TO .ellipsis := s4 _ _ j2.symm z3; refine wpAny_setField_rec zz (by simp) fun g5 _ s5 => ?_
    obtain ⟨kp, o, ho, hc⟩ := ends (e := e) (t' := 0) (fun c o c1 c2 c3 c4 x => s4 _ _ c4 (up3 c o c1 c2 c3 x)) zz he hq g5 s5; refine wpAny_bind (wpAny_isInstance (T := "StopIteration") (b := true) ⟨o, ho, hc⟩ isSubtype_stop ?_); exact wpAny_pure (hq _ _ kp)
  refine S2.item lt2 t3 q3 fun y g4 tk4 isy st2 s4 => wpAny_pure ?_
  have p4 : IsPair g4 TO x b := s4.extBut _ _ o3 p3; refine wpAny_bind (wpAny_seqItems p4 rfl ?_); refine wpAny_bind (wpAny_updateSeq_pair p4 fun g5 p5 s5 => ?_); replace p5 : IsPair g5 TO x y := p5; refine wpAny_bind (wpAny_letGo (wpAny_pure (wpAny_pure ?_))); refine wpAny_bind (wpAny_seqItems p5 rfl ?_); refine wpAny_bind (wpAny_newTuple ?_); have sz : g5.objs.size = s.heap.objs.size := by rw [s5.1, s4.1, s3.1, s2.1, s1.1]
  have z5 : IsZip g5 z TI TO .ellipsis := s5.extBut _ _ o1.symm (s4.extBut _ _ j2.symm z3); have up5 : ∀ c o, c ≠ z -> c ≠ TO -> c ≠ i1 -> c ≠ i2 -> s.heap.get? c = some o -> g5.get? c = some o := fun c o c1 c2 c3 c4 e => s5.extBut _ _ c2 (s4.extBut _ _ c4 (up3 c o c1 c2 c3 e))
  have u1 : St1 (k1 + 1) g5 := S1.kst st1 fun o e => s5.extBut _ _ o2.symm (s4.extBut _ _ j3 (s3.extBut _ _ o2.symm e))
  have u2 : St2 (k2 + 1) g5 := S2.kst st2 fun o e => s5.extBut _ _ o3.symm e
  have ltz : z < g5.objs.size := Heap.lt_size z5; refine wpAny_bind (m := Builtin.SmallTypes.ownedTupleHandOut (.ref z) (.ref g5.objs.size)) ?_; unfold Builtin.SmallTypes.ownedTupleHandOut; have z6 : IsZip (g5.push { cls := .type "tuple", data := .seq #[x, y] }) z TI TO .ellipsis := Heap.get?_push_of_some _ z5; refine wpAny_bind (wpAny_setField_rec z6 (by simp) fun g7 z7 s7 => ?_); replace z7 : IsZip g7 z TI TO (rawInt g5.objs.size) := z7; refine wpAny_setField_rec z7 (by simp) fun g8 z8 s8 => ?_
  replace z8 : IsZip g8 z TI TO (rawInt g5.objs.size) := z8; have up : ∀ c o, c ≠ z -> g5.get? c = some o -> g8.get? c = some o := fun c o c1 e => s8.extBut _ _ c1 (s7.extBut _ _ c1 (Heap.get?_push_of_some _ e))
  have p8 : IsPair g8 g5.objs.size x y := s8.extBut _ _ (Nat.ne_of_gt ltz) (s7.extBut _ _ (Nat.ne_of_gt ltz) (Heap.get?_push_size _ rfl)); have sz8 : g8.objs.size = g5.objs.size + 1 := by rw [s8.1, s7.1, Heap.size_push]
  rw [sz] at z8 p8 sz8; refine wpAny_pure ⟨_, rfl, wpAny_pure ?_⟩
  show Q (some (.ref g5.objs.size)) _
  rw [sz]; exact h1 lt1 lt2 x y g8 _ isx isy z8 (up _ _ o1 p5) (S1.kst u1 fun o e => up _ o j1 e) (S2.kst u2 fun o e => up _ o j2 e) p8 sz8 fun c o c1 c2 c3 c4 e => up c o c1 (up5 c o c1 c2 c3 c4 e)
end
theorem zs_apart {I l1 l2 : Nat} (h1 : l1 < I) (h2 : l2 < I) : ZApart (I + 4) (I + 2) (I + 3) I (I + 1) l1 l2 := by
  constructor <;> refine ⟨?_, ?_⟩ <;> (try refine ⟨?_, ?_⟩) <;> (try refine ⟨?_, ?_⟩) <;> (first | (exact Nat.ne_of_lt (by omega)) | (exact Nat.ne_of_gt (by omega)))
def Itzt (K : PySem.W.Frag) (a b : Addr) : It :=
  ⟨fun i H => ∃ xs x ys y, SqL K H a xs /\ xs[i]? = some x /\ SqT K H b ys /\ ys[i]? = some y,
   fun i H x H' => ∃ p u v, H p = none /\ x = .ref p /\ (∀ xs, SqL K H a xs -> xs[i]? = some u) /\ (∀ xs, SqT K H b xs -> xs[i]? = some v) /\ H' = upd H p (.tup [u, v]),
   fun i H => ∃ xs ys, SqL K H a xs /\ SqT K H b ys /\ (xs.length <= i \/ ys.length <= i)⟩
theorem turn_zipT {P : Program} {w : World} {K : PySem.W.Frag} {ts : List Expr} {k : Nat} {tp : Pos} (z TI TO i1 i2 a b : Addr) (D : ZApart z TI TO i1 i2 a b) :
 Turn P w K (.Tuple ts k tp) (Itzt K a b) [z, TI, TO, i1, i2] z (fun i h => IsZip h z TI TO .none /\ IsPair h TI (.ref i1) (.ref i2) /\ (∃ u v, IsPair h TO u v) /\ h.IsListIter i1 a i /\ IsTupIter h i2 b i) where
  mem := by simp
  obj := fun i h st c hc => by
    obtain ⟨h1, h2, ⟨u, v, h3⟩, ⟨o4, h4, c4, d4⟩, ⟨o5, h5, c5, d5⟩⟩ := st; simp only [List.mem_cons, List.not_mem_nil, or_false] at hc
    rcases hc with q | q | q | q | q <;> subst q
    · exact ⟨_, h1, fun v z => by cases z⟩
    · exact ⟨_, h2, fun v z => by cases z⟩
    · exact ⟨_, h3, fun v z => by cases z⟩
    · exact ⟨_, h4, fun v z => by rw [d4] at z; cases z⟩
    · exact ⟨_, h5, fun v z => by rw [d5] at z; cases z⟩
  keep := fun i h h' st k => by
    obtain ⟨h1, h2, ⟨u, v, h3⟩, h4, ⟨o5, h5, r5⟩⟩ := st; exact ⟨k _ (by simp) _ h1, k _ (by simp) _ h2, ⟨u, v, k _ (by simp) _ h3⟩, h4.at fun o q => k i1 (by simp) o q, ⟨o5, k i2 (by simp) o5 h5, r5⟩⟩
  item := by
    intro X hP hw hK hc i pins s σ H E I hf st hg; subst hP hw hK; obtain ⟨xs, x, ys, y, hq, hx, hq2, hy⟩ := hg; obtain ⟨its, rv, p, hz⟩ := I.list hq; obtain ⟨its2, rv2, p2, hz2⟩ := I.tuple hq2; obtain ⟨u, hu, ru⟩ := rv.get hx; obtain ⟨u2, hu2, ru2⟩ := rv2.get hy; obtain ⟨h1, h2, ⟨oa, ob, h3⟩, h4, h5⟩ := st; have lt1 : i < its.toArray.size := by have := (List.getElem?_eq_some_iff.mp hu).1; simpa using this
    have lt2 : i < its2.toArray.size := by have := (List.getElem?_eq_some_iff.mp hu2).1; simpa using this
    have fr : H s.heap.objs.size = none := I.hok.fresh (Nat.le_refl _); refine zs_next D (stp_list (xs := its.toArray)) (stp_tup (xs := its2.toArray)) h1 h2 h3 h4 h5 p.isList p2 (fun _ _ v1 v2 h' t' e1 e2 a1 a2 a3 a4 a5 a6 hk => ⟨_, rfl, ?_⟩) (fun z => by omega); obtain rfl : u = v1 := by
      have e1 : its[i]? = some v1 := by simpa using e1
      rw [hu] at e1; exact Option.some.inj e1
    obtain rfl : u2 = v2 := by
      have e2 : its2[i]? = some v2 := by simpa using e2
      rw [hu2] at e2; exact Option.some.inj e2
    have lt : ∀ {c o}, s.heap.get? c = some o -> c ≠ s.heap.objs.size := fun e => Nat.ne_of_lt (Heap.lt_size e)
    refine wpAny_letOwnedTupleGo_zip a1 fun h6 he6 hs6 => ?_
    replace hs6 : Heap.SameBut z h' h6 := hs6; have kk : ∀ c o, c ∉ [z, TI, TO, i1, i2] -> s.heap.get? c = some o -> h6.get? c = some o := fun c o hc q => by
      simp only [List.mem_cons, List.not_mem_nil, or_false, not_or] at hc; exact (hs6.2 c hc.1).trans (hk c o hc.1 hc.2.2.1 hc.2.2.2.1 hc.2.2.2.2 q)
    have hT6 : h6.get? s.heap.objs.size = some { cls := .type "tuple", data := .seq #[u, u2] } := (hs6.2 _ (lt h1).symm).trans a5; refine ⟨.ref s.heap.objs.size, upd H s.heap.objs.size (.tup [x, y]), ?_, rfl, ⟨_, x, y, fr, rfl, (fun zs hy => by rw [I.list_inj hy hq]; exact hx), (fun zs hz => by rw [I.tuple_inj hz hq2]; exact hy), rfl⟩, ?_, fun c hc => ?_⟩
    · exact turned_tup (t' := t') I hf kk (by show 2 <= sizeLine; decide) (.cons ru (.cons ru2 .nil)) hT6
    · obtain ⟨o5, e5, r5⟩ := a4
      refine ⟨he6, (hs6.2 _ D.ti.1).trans (hk _ _ D.ti.1 D.ti.2.1 D.ti.2.2.1 D.ti.2.2.2 h2), ⟨_, _, (hs6.2 _ D.to.1).trans a2⟩, a3.at fun o q => (hs6.2 _ D.it.1).trans q, ⟨o5, (hs6.2 _ D.it.2.1).trans e5, r5⟩⟩
    · have hb' : c ≠ s.heap.objs.size := by
        obtain ⟨o4, h4, _⟩ := h4; obtain ⟨o5, h5, _⟩ := h5; simp only [List.mem_cons, List.not_mem_nil, or_false] at hc
        rcases hc with q | q | q | q | q <;> subst q
        · exact lt h1
        · exact lt h2
        · exact lt h3
        · exact lt h4
        · exact lt h5
      rw [upd_ne hb']; exact (hf c hc).1
  done := by
    intro X hP hw hK hc i pins s σ H E I hf st hg; subst hP hw hK; obtain ⟨xs, ys, hq, hq2, hx⟩ := hg; obtain ⟨its, rv, p, hz⟩ := I.list hq; obtain ⟨its2, rv2, p2, hz2⟩ := I.tuple hq2; obtain ⟨h1, h2, ⟨oa, ob, h3⟩, h4, h5⟩ := st; have hl := rv.length; have hl2 := rv2.length; refine zs_next D (stp_list (xs := its.toArray)) (stp_tup (xs := its2.toArray)) h1 h2 h3 h4 h5 p.isList p2 (fun l1 l2 => by simp at l1 l2; omega) (fun _ => ⟨I.ok.hd hc, fun h' t' eb => ⟨rfl, ?_⟩⟩); exact turned_all (t' := t') I hf fun c o hc q => by
      simp only [List.mem_cons, List.not_mem_nil, or_false, not_or] at hc; exact eb c o hc.1 hc.2.2.1 hc.2.2.2.1 hc.2.2.2.2 q
  self := fun _ _ _ _ _ st h => wpAny_pyIter_zip st.1 h
abbrev zA (g : Heap) (a : Addr) : Heap := g.push { data := .fields #[.ref a, .int 0 0], cls := .type "list_iterator" }
abbrev zB (g : Heap) (a b : Addr) : Heap := (zA g a).push { data := .fields #[.ref b, .int 0 0], cls := .type "tuple_iterator" }
abbrev zC (g : Heap) (a b : Addr) : Heap := (zB g a b).push { data := .seq #[.ref g.objs.size, .ref (zA g a).objs.size], cls := .type "tuple" }
abbrev zD (g : Heap) (a b : Addr) : Heap := (zC g a b).push { data := .seq #[.none, .none], cls := .type "tuple" }
abbrev zE (g : Heap) (a b : Addr) : Heap := (zD g a b).push { data := .fields #[.none, .bool false, .bool false, .ref (zB g a b).objs.size, .ref (zC g a b).objs.size], cls := .type "zip" }
theorem meets_zT (l1 l2 : Addr) (xs ys : Array Value) : Meets (Builtin.«zip.__new__» ⟨[.type "zip", .ref l1, .ref l2], []⟩) (fun _ R s => s.heap.IsList l1 xs /\ IsTup s.heap l2 ys /\ R (.ok (.ret (.ref (zD s.heap l1 l2).objs.size))) { s with heap := zE s.heap l1 l2 }) :=
  .of_wp fun prog w A R s h => by
    obtain ⟨hp, g, d, tk, os⟩ := s; obtain ⟨hl1, hl2, h⟩ := h; have hsub := PySem.sub_zip; have hL1 : Heap.IsList (Shared.heap ⟨hp, g, d, tk, os⟩) l1 xs := hl1; have hL2 : IsTup (Shared.heap ⟨hp.push { cls := .type "list_iterator", data := .fields #[.ref l1, .int 0 0] }, g, d, tk, os⟩) l2 ys := by
      obtain ⟨o, e, r⟩ := hl2; exact ⟨o, Heap.get?_push_of_some _ e, r⟩
    wp_walk using wpAny_pyIter_list hL1, iter_tuple hL2
    exact ⟨_, rfl, h⟩
theorem call_zT {prog : Program} {w : World} {A : Around} {E : Value -> Shared -> Prop} {s : Shared} {a b : Addr} {xs ys : Array Value} {Q : Value -> Shared -> Prop} (ha : s.heap.IsList a xs) (hb : IsTup s.heap b ys)
 (h : ∀ h', IsZip h' (s.heap.objs.size + 4) (s.heap.objs.size + 2) (s.heap.objs.size + 3) .none -> IsPair h' (s.heap.objs.size + 2) (.ref s.heap.objs.size) (.ref (s.heap.objs.size + 1)) -> IsPair h' (s.heap.objs.size + 3) .none .none ->
 h'.IsListIter s.heap.objs.size a 0 -> IsTupIter h' (s.heap.objs.size + 1) b 0 -> (∀ c o, s.heap.get? c = some o -> h'.get? c = some o) -> Q (.ref (s.heap.objs.size + 4)) { s with heap := h' }) : wpAny (model prog w) A (call (.type "zip") [.ref a, .ref b]) Q E s := by
  refine callType_new PySem.F.called_zip (by decide) (PySem.F.typeCall_zip_2 _ _) (PySem.F.newCall_zip_2 _ _) (fun obj => PySem.F.args_object_init_3 obj _ _) PySem.F.entry_zip_new (meets_zT a b xs ys) ⟨ha, hb, ?_⟩; have n1 : (zA s.heap a).objs.size = s.heap.objs.size + 1 := Heap.size_push ..; have n2 : (zB s.heap a b).objs.size = s.heap.objs.size + 2 := by rw [Heap.size_push, n1]
  have n3 : (zC s.heap a b).objs.size = s.heap.objs.size + 3 := by rw [Heap.size_push, n2]
  have n4 : (zD s.heap a b).objs.size = s.heap.objs.size + 4 := by rw [Heap.size_push, n3]
  have up1 : ∀ {g : Heap} {o : Obj} {c : Addr} {u : Obj}, g.get? c = some u -> (g.push o).get? c = some u := fun e => Heap.get?_push_of_some _ e
  have g5 : (zE s.heap a b).get? (zD s.heap a b).objs.size = some _ := Heap.get?_push_size _ rfl; have g4 : (zE s.heap a b).get? (zC s.heap a b).objs.size = some _ := up1 (Heap.get?_push_size _ rfl); have g3 : (zE s.heap a b).get? (zB s.heap a b).objs.size = some _ := up1 (up1 (Heap.get?_push_size _ rfl)); have g2 : (zE s.heap a b).get? (zA s.heap a).objs.size = some _ := up1 (up1 (up1 (Heap.get?_push_size _ rfl))); have g1 : (zE s.heap a b).get? s.heap.objs.size = some _ := up1 (up1 (up1 (up1 (Heap.get?_push_size _ rfl))))
  show _ /\ _
  rw [n2, n3, n4] at g5; rw [n1, n2] at g3; rw [n3] at g4; rw [n1] at g2; rw [n4]; exact ⟨⟨_, g5, rfl⟩, h _ g5 g3 g4 ⟨_, g1, rfl, rfl⟩ ⟨_, g2, rfl, rfl⟩ fun c o x => up1 (up1 (up1 (up1 (up1 x))))⟩
section
variable {X : Cx} {H0 : Hp}
def iZipT (K : PySem.W.Frag) (ta : TA) : TI := fun σ H R => ta σ H fun vs H1 => ∃ a b, vs = [.ref a, .ref b] /\ (∃ xs, SqL K H1 a xs) /\ (∃ xs, SqT K H1 b xs) /\ R (Itzt K a b) H1
theorem pi_zipT {ts : List Expr} {k : Nat} {tp : Pos} {a b : Expr} {ta : TA} {p pos : Pos} (hg : Gl X "zip") (hm : X.mg "zip" = none) (ha : PA X [a, b] ta) (hs : starEach [a, b] X.env = (false, eval a X.env) :: starEach [b] X.env := by rfl) (hpl : (backTo pos (starEach [b] X.env)).any (·.1) = false := by rfl) :
 PI X (.Tuple ts k tp) (.Call (.Name "zip" p) [a, b] [] pos) (iZipT X.K ta) := by
  intro pins s σ H R I h; refine wpAny_Call_Name_kw (ld_blt I hg hm (u := .type "zip") rfl ?_); refine PyProof.Rows.callWith_type1 (thn (ha pos pins s σ H _ I h) fun us s1 ⟨vs, H1, I1, r1, q1⟩ => ?_) hs hpl; obtain ⟨l, l2, e, ⟨xs, hq⟩, ⟨ys, hq2⟩, q⟩ := q1; subst e; obtain ⟨u, us', rfl, ru, r2⟩ := vals2 r1; cases ru; cases r2; obtain ⟨its, rv, pl, hz⟩ := I1.list hq; obtain ⟨its2, rv2, pl2, hz2⟩ := I1.tuple hq2; have g1 : l < s1.heap.objs.size := by obtain ⟨o, e, _⟩ := pl.isList; exact Heap.lt_size e
  have g2 : l2 < s1.heap.objs.size := by obtain ⟨o, e, _⟩ := pl2; exact Heap.lt_size e
  refine call_zT pl.isList pl2 fun h' z1 z2 z3 z4 z5 hk => ?_
  refine wpAny_pyIter_zip z1 ?_
  have I2 : L2.Inv X pins σ H1 { s1 with heap := h' } := I1.kept (t' := s1.toks) hk; refine ⟨s1.heap.objs.size + 4, [s1.heap.objs.size + 4, s1.heap.objs.size + 2, s1.heap.objs.size + 3, s1.heap.objs.size, s1.heap.objs.size + 1], _, _, H1, rfl, I2, turn_zipT _ _ _ _ _ l l2 (zs_apart g1 g2), ⟨z1, z2, ⟨_, _, z3⟩, z4, z5⟩, fun c hc => ?_, q⟩; have hb' : s1.heap.objs.size <= c := by
    simp only [List.mem_cons, List.not_mem_nil, or_false] at hc
    rcases hc with q | q | q | q | q <;> subst q <;> first | exact Nat.le_refl _ | exact Nat.le_add_right _ _
  exact I1.fpOk hb' (I1.hok.fresh hb')
def TupD (K : PySem.W.Frag) (d : D) (ys : List D) : Prop := d = .tup ys \/ ∃ p zs, d = .adr p /\ GTup K p zs /\ ys = zs.map D.str
theorem TupD.sq {K : PySem.W.Frag} {G : Hp} {d : D} {v : V} {ys : List D} (h : TupD K d ys) (r : Rep K G d v) : ∃ a vs, v = .ref a /\ SqT K G a vs /\ Reps K G ys vs := by
  rcases h with rfl | ⟨p, zs, rfl, hT, rfl⟩
  · simp only [Rep] at r
    obtain ⟨a, vs, rfl, h2, h3⟩ := r; exact ⟨a, vs, rfl, SqT.of h2, h3⟩
  · have r : v = .ref p := r
    exact ⟨p, _, r, .inr hT, reps_of_strs zs⟩
def rForZT (K : PySem.W.Frag) (tr : RA) (g : RG) (tb : RS) (E : Ends2) (δ : List Sl) : Prop := tr δ fun ds => ∃ xs d ys, ds = [.lst xs, d] /\ TupD K d ys /\ loop g tb E (zipD xs ys) δ
variable {ts : List Expr} {k : Nat} {tp p pos pos2 : Pos} {a b : Expr} {tr : RA} {g : RG} {tb : RS} {body : List Stmt}
theorem s_forZT (hp : PassesOwn (model X.prog X.w) X.A X.env X.xe) (hc : X.calm = true) (hgl : Gl X "zip") (hm : X.mg "zip" = none) (ha : PA2 X H0 [a, b] tr) (hg : PG2 X H0 (.Tuple ts k tp) g) (hb : PSs2 X H0 body tb) (hst : starEach [a, b] X.env = (false, eval a X.env) :: starEach [b] X.env := by rfl)
 (hpl : (backTo pos2 (starEach [b] X.env)).any (·.1) = false := by rfl)
 (hs : ∀ x, foldedSetIterable (.Call (.Name "zip" p) [a, b] [] pos2) X.env x = pure x := by intro _; rfl) : PS2 X H0 (.For (.Tuple ts k tp) (.Call (.Name "zip" p) [a, b] [] pos2) body [] pos) (rForZT X.K tr g tb) :=
  PS.weak (ps_for hp hc (pi_zipT hgl hm ha hst hpl) hg hb hs) fun D σ H ⟨δ, G, E, hs, ht, go⟩ => ⟨δ, G, _, hs, ht, fun vs H1 G1 ds n1 r1 q1 => by
    obtain ⟨xs, dt, ys, rfl, hT, q2⟩ := q1; simp only [Reps] at r1; obtain ⟨v, r, rfl, hv1, v2, r2, rfl, hv2, rfl⟩ := r1; simp only [Rep] at hv1; obtain ⟨l, ws, rfl, h2, h3⟩ := hv1; obtain ⟨l2, ws2, rfl, h22, h32⟩ := hT.sq hv2; refine ⟨l, l2, rfl, ⟨ws, n1.hs.sub.seq h2⟩, ⟨ws2, seqT n1.hs.sub h22⟩, fun i m σ' H' => m = ws.length - i /\ i <= ws.length /\ i <= ws2.length /\ ∃ δ' G', Hs X.K H0 σ' δ' G' H' /\ Same G1 G' /\ loop g tb E ((zipD xs ys).drop i) δ', ⟨ws.length, by simp, Nat.zero_le _, Nat.zero_le _, δ, G1, n1.hs, Same.refl _, q2⟩, ?_⟩; rintro i m σ' H' ⟨rfl, hi, hi2, δ', G', h', s', q'⟩; have sq : SqL X.K H' l ws := h'.sub.seq (s'.seq h2); have sq2 : SqT X.K H' l2 ws2 := seqT h'.sub (seqT s' h22)
    by_cases hlt : i < ws.length /\ i < ws2.length
    · obtain ⟨hlt, hlt2⟩ := hlt
      have hx : ws[i]? = some ws[i] := by simp [hlt]
      have hx2 : ws2[i]? = some ws2[i] := by simp [hlt2]
      obtain ⟨d, ed, rd⟩ := h3.getV hx; obtain ⟨d2, ed2, rd2⟩ := h32.getV hx2; rw [zipD_drop i xs ys d d2 ed ed2] at q'; refine .inr ⟨⟨ws, ws[i], ws2, ws2[i], sq, hx, sq2, hx2⟩, fun σ2 H2 => ∃ δ' G', Hs X.K H0 σ2 δ' G' H2 /\ Same G1 G' /\ loop g tb E ((zipD xs ys).drop (i + 1)) δ', fun σ2 H2 z => ⟨ws.length - (i + 1), by omega, rfl, hlt, hlt2, z⟩, fun x H2 ⟨p, y, y2, hp, ex, hy, hy2, eh⟩ => ?_⟩; subst ex eh; have ey : ws[i] = y := by
        have := hy ws sq; rw [hx] at this; exact Option.some.inj this
      have ey2 : ws2[i] = y2 := by
        have := hy2 ws2 sq2; rw [hx2] at this; exact Option.some.inj this
      obtain ⟨h4, s4⟩ := h'.laid (o := .tup [y, y2]) hp; refine ⟨δ', _, .tup [d, d2], _, h4, ?_, q', fun σ2 H2 δ2 G2 h2' s2 q2 => ⟨δ2, G2, _, h2', q2, ⟨fun σ3 H3 δ3 G3 h3' s3 ⟨δ4, f4, q3⟩ => ⟨δ4, G3, h3'.forget f4, ((s'.trans s4).trans s2).trans s3, q3⟩, go.rt, fun σ3 H3 δ3 G3 h3' s3 q3 => go.nx σ3 H3 δ3 G3 h3' ((((n1.g.trans s').trans s4).trans s2).trans s3) q3, fun σ3 H3 δ3 G3 h3' s3 ⟨δ4, f4, q3⟩ => ⟨δ4, G3, h3'.forget f4, ((s'.trans s4).trans s2).trans s3, q3⟩⟩⟩⟩; simp only [Rep]; refine ⟨p, _, rfl, upd_same, Reps.cons ?_ (Reps.cons ?_ Reps.nil)⟩
      · subst ey
        exact Rep.mono (s'.trans s4) _ _ rd
      · subst ey2
        exact Rep.mono (s'.trans s4) _ _ rd2
    · have e : ws.length <= i \/ ws2.length <= i := by omega
      refine .inl ⟨⟨ws, ws2, sq, sq2, e⟩, go.nx σ' H' δ' G' h' (n1.g.trans s') ?_⟩; rw [zipD_end i xs ys (by rw [h3.length, h32.length]; exact e)] at q'
      exact q'⟩
end
theorem star_items {prog : Program} {w : World} {A : Around} {E : Value -> Shared -> Prop} {s : Shared} {l : Addr} {x : Value} {r : List Value} {Q : List Value -> Shared -> Prop} (hh : A.handled = none) (hl : s.heap.IsList l (x :: r).toArray) (hz : r.length <= 16384)
 (h : ∀ (D : Addr) (h' : Heap) (tk : Nat), D = h'.objs.size -> (∀ b o, s.heap.get? b = some o -> h'.get? b = some o) -> Q [x, .ref D] { s with heap := h'.push { cls := .type "list", data := .seq r.toArray }, toks := tk }) : wpAny (model prog w) A (unpackItems (.ref l) 2 (some 1)) Q E s := by
  have ne : l ≠ s.heap.objs.size := by obtain ⟨o, ho, _⟩ := hl; exact Nat.ne_of_lt (Heap.lt_size ho)
  unfold unpackItems; refine wpAny_bind ?_; unfold notIterableAtAll; refine wpAny_bind (wpAny_specialOf hl.typeIs slot_list_iter.lookup (wpAny_pure ?_)); simp only [Bool.false_eq_true, if_false]; refine wpAny_bind (wpAny_holding (wpAny_pyIter_list hl ?_)); refine wpAny_bind (wpAny_holding (PySem.W.kun_draw ne 1 0 _ _ ⟨_, Heap.get?_push_size _ rfl, rfl, rfl⟩ (hl.push _) (by simp) fun g1 it1 s1 => ?_)); have l1 : g1.IsList l (x :: r).toArray := (hl.push _).extBut s1.extBut ne; rw [Nat.zero_add] at it1; obtain ⟨oi, hoi, _⟩ := id it1; obtain ⟨ol, hol, _⟩ := id l1
  show wpAny _ _ (if ([x] : List Value).length < 1 then _ else _) _ _ _
  rw [if_neg (show ¬ (([x] : List Value).length < 1) from Nat.lt_irrefl 1)]
  refine wpAny_bind (wpAny_holding (PySem.W.kun_collect (s := { s with heap := g1 }) (T := "list_iterator") (.inr (.inr (.inl rfl))) (Walks.list (A := A.in1) hh s.heap.objs.size l ne (x :: r).toArray) (fun j u st => st.1.typeIs) (k := 1) (by simp) ⟨it1, l1⟩ (Heap.lt_size hoi) (Heap.lt_size hol) (fun g2 tk hk => ?_) (by rw [sizeLine_eq]; simp; omega)))
  show wpAny _ _ (if r.length < 2 - 1 - 1 then _ else _) _ _ _
  rw [if_neg (by omega)]
  show wpAny _ _ (newList (r.take (r.length - 0)) >>= fun d => pure ([x] ++ [d] ++ r.drop (r.length - 0))) _ _ _
  rw [Nat.sub_zero, List.take_length, List.drop_length]; have ext : ∀ b o, s.heap.get? b = some o -> g2.get? b = some o := fun b o e => hk b o (Nat.ne_of_lt (Heap.lt_size e)) (s1.extBut b o (Nat.ne_of_lt (Heap.lt_size e)) (Heap.get?_push_of_some _ e))
  refine wpAny_bind (wpAny_newList (wpAny_pure ?_) (by rw [sizeLine_eq]; omega)); exact h _ g2 tk rfl ext
section
variable {X : Cx} {H0 : Hp} {pos : Pos} {e : Expr} {te : RE}
def gStarT (K : PySem.W.Frag) (t : TGs) : TG := fun v σ H Q => ∃ a x r, v = .ref a /\ SqL K H a (x :: r) /\ r.length <= 16384 /\ ∀ D, H D = none -> t [x, .ref D] σ (upd H D (.lst r)) Q
theorem pg_star {es : List Expr} {k : Nat} {t : TGs} (hc : X.calm = true) (h : PGs X es t) (hn : (assignEach es X.env).length = 2 := by rfl) (hst : (assignEach es X.env).findIdx? (·.1) = some 1 := by rfl) : PG X (.Tuple es k pos) (gStarT X.K t) := by
  intro pins s σ H v u Q I r hw; obtain ⟨a, x, xs, e1, hq, hl, hw⟩ := hw; subst e1; cases r; obtain ⟨its, rv, ht, hz⟩ := I.list hq
  cases rv with
  | @cons _ ux _ us rx rs =>
  rw [assign_Tuple]; refine wpAny_bind (wpAny_standAt ?_); unfold unpack; rw [hn, hst]; have el := rs.length; refine wpAny_bind (wpAny_holding (star_items (I.ok.hd hc) ht.isList (by omega) fun D h' tk eD ext => ?_)); subst eD
  have I1 : L2.Inv X pins σ H { s with heap := h', toks := tk } := I.kept (t' := tk) ext; have fr : H h'.objs.size = none := I1.hok.fresh (Nat.le_refl _)
  have I2 : L2.Inv X pins σ (upd H h'.objs.size (.lst xs)) { s with heap := h'.push { cls := .type "list", data := .seq us.toArray }, toks := tk } :=
    I1.laid (t' := tk) (fun b o e => Heap.get?_push_of_some _ e) (Nat.le_refl _) (show ObjOk X.prog X.w _ _ _ (.lst xs) from ⟨by rw [List.length_cons] at hz; omega, us, 0, rs, Heap.get?_push_size _ rfl⟩)
  exact h pins _ σ _ [x, .ref h'.objs.size] _ Q I2 (.cons rx (.cons rfl .nil)) (hw _ fr)
def gStar2 (gs : RGs) (d : D) (δ : List Sl) (Q : List Sl -> Prop) : Prop := ∃ x r, d = .lst (x :: r) /\ r.length <= 16384 /\ gs [x, .lst r] δ Q
theorem g_star {k : Nat} {es : List Expr} {gs : RGs} (hc : X.calm = true) (h : PGs2 X H0 es gs) (hn : (assignEach es X.env).length = 2 := by rfl) (hst : (assignEach es X.env).findIdx? (·.1) = some 1 := by rfl) : PG2 X H0 (.Tuple es k pos) (gStar2 gs) :=
  PG.weak (pg_star hc h hn hst) fun v σ H Q ⟨δ, G, d, Qd, hs, r, h, k⟩ => by
    obtain ⟨x, xs, rfl, hl, q⟩ := h; simp only [Rep] at r; obtain ⟨a, vs, rfl, h2, h3⟩ := r; simp only [Reps] at h3; obtain ⟨v0, vr, rfl, hx, hr⟩ := h3; refine ⟨a, v0, vr, rfl, hs.sub.seq h2, by rw [<- hr.length]; exact hl, fun D hD => ?_⟩; obtain ⟨n2, s2⟩ := hs.laid (o := .lst vr) hD; exact ⟨δ, _, [x, .lst xs], Qd, n2, Reps.cons (Rep.mono s2 _ _ hx) (Reps.cons (by simp only [Rep]; exact ⟨D, vr, rfl, SqL.of upd_same, Reps.mono s2 _ _ hr⟩) Reps.nil), q, fun σ2 H2 δ2 G2 h4 s4 q4 => k σ2 H2 δ2 G2 h4 (s2.trans s4) q4⟩
theorem gs_consS {es : List Expr} {g : RG} {gs : RGs} {p : Pos} (h1 : PG2 X H0 e g) (h2 : PGs2 X H0 es gs) (hs : (assignEach (.Starred e p :: es) X.env).map (·.2) = assign e X.env :: (assignEach es X.env).map (·.2) := by rfl) : PGs2 X H0 (.Starred e p :: es) (gCons2 g gs) := by
  intro pins s σ H vs us Q I r ⟨δ, G, ds, Qd, hs0, rr, h, k⟩
  cases ds with
  | nil => exact h.elim
  | cons d ds =>
    simp only [Reps] at rr; obtain ⟨v, vr, rfl, r1, r2⟩ := rr
    cases r with
    | cons ra rb =>
      rw [hs]; refine assignInOrder_cons (thn (h1 pins s σ H v _ (fun σ1 H1 => ∃ δ1 G1, Hs X.K H0 σ1 δ1 G1 H1 /\ Same G G1 /\ gs ds δ1 Qd) I ra ⟨δ, G, d, _, hs0, r1, h, fun σ1 H1 δ1 G1 h1 s1 q1 => ⟨δ1, G1, h1, s1, q1⟩⟩) fun _ s1 ⟨σ1, H1, I1, δ1, G1, hh, s1', q1⟩ => ?_); exact h2 pins s1 σ1 H1 _ _ Q I1 rb ⟨δ1, G1, ds, Qd, hh, Reps.mono s1' _ _ r2, q1, fun σ2 H2 δ2 G2 h2 s2 q2 => k σ2 H2 δ2 G2 h2 (s1'.trans s2) q2⟩
theorem e_gint {g : Str} {n : Int} {t : Tok} (hm : X.mg g = some (.int n t)) (hg : Gl X g := by rfl) (hdb : (g == ("__debug__" : Str)) = false := by decide) : PE2 X H0 (.Name g pos) (rC (.int n)) := fun pins s σ H Q I ⟨δ, G, Qd, hs, ht, k⟩ =>
  ld_glob I hg hm ⟨.int n, H, I, ⟨t, rfl⟩, k _ H G _ (Nx.refl hs) (by simp only [Rep]) ht⟩ hdb
theorem e_gref {g : Str} {p : Addr} (hm : X.mg g = some (.ref p)) (hg : Gl X g := by rfl) (hdb : (g == ("__debug__" : Str)) = false := by decide) : PE2 X H0 (.Name g pos) (rC (.adr p)) := fun pins s σ H Q I ⟨δ, G, Qd, hs, ht, k⟩ =>
  ld_glob I hg hm ⟨.ref p, H, I, rfl, k _ H G _ (Nx.refl hs) (by simp only [Rep]) ht⟩ hdb
structure GDic (P : Program) (w : World) (K : PySem.W.Frag) (mg : Str -> Option Value) (g : Str) (tab : List (Str × Addr)) : Prop where
  tab : GTab P w K mg g tab
  not : ∀ a, mg g = some (.ref a) -> (a == sysModules) = false
theorem tab_some : ∀ (tab : List (Str × Addr)) (x : Str), (valueAt (tab.map fun p => ((.inr p.1 : Key), Value.ref p.2)) (.inr x)).isSome = (tab.lookup x).isSome
  | [], x => rfl
  | (y, q) :: tab, x => by
    rw [List.lookup_cons]
    by_cases e : x = y
    · subst e
      rw [beq_self_eq_true]; simp [valueAt]
    · rw [beq_eq_false_iff_ne.mpr e]
      have := tab_some tab x; have ne : ¬ y = x := fun z => e z.symm
      simp only [valueAt, List.map_cons, List.find?_cons] at this ⊢; rw [decide_eq_false (fun z => ne (Sum.inr.inj z))]; exact this
def rGIn (neg : Bool) (tab : List (Str × Addr)) (te : RE) (δ : List Sl) (Q : D -> Prop) : Prop := te δ fun d => ∃ x : Str, d = .str x /\ Q (.bl (neg != (tab.lookup x).isSome))
def tGIn (neg : Bool) (tab : List (Str × Addr)) (t : TE) : TE := fun σ H Q => t σ H fun y H1 => ∃ x : Str, y = .str x /\ Q (.bl (neg != (tab.lookup x).isSome)) H1
theorem gdic_at {P : Program} {w : World} {K : PySem.W.Frag} {mg : Str -> Option Value} {g : Str} {tab : List (Str × Addr)} (T : GDic P w K mg g tab) : ∃ a, mg g = some (.ref a) /\ (a == sysModules) = false /\ ∀ h : Heap, K.In h -> h.DictOf (mixKind P w) a (tab.map fun p => (.inr p.1, .ref p.2)) := by
  obtain ⟨⟨a, es, n, hm, hk, ko, pr, nd⟩, hns⟩ := T; refine ⟨a, hm, hns a hm, fun h hin => ⟨_, es, n, hin _ _ hk, ⟨rfl, rfl, rfl⟩, rfl, ko, pr, ?_⟩⟩; rw [List.map_map]; unfold List.Nodup at nd ⊢; rw [List.pairwise_map] at nd ⊢; exact nd.imp fun h e => h (Sum.inr.inj e)
theorem pc_gnotin {g : Str} {i : Expr} {ty : TE} {tab : List (Str × Addr)} {p : Pos} (T : GDic X.prog X.w X.K X.mg g tab) (hi : PE X i ty) (hg : Gl X g := by rfl) (hdb : (g == ("__debug__" : Str)) = false := by decide) : PC X .NotIn i (.Name g p) (tGIn true tab ty) := by
  obtain ⟨a, hm, hns, hd⟩ := gdic_at T; intro pins s σ H Q I h; refine thn (hi pins s σ H _ I h) fun iv s1 ⟨y, H1, I1, ry, x, ex, q1⟩ => ?_
  subst ex; obtain ⟨t, rfl⟩ := ry; refine ld_glob I1 hg hm ?_ hdb; refine wpAny_notIn_of (mixKind_str X.prog X.w x t) hns (hd _ I1.kIn).mapOf ⟨.bl (!(tab.lookup x).isSome), H1, I1.tok _, ?_, ?_⟩
  · rw [<- tab_some tab x]; rfl
  · have e : (!(tab.lookup x).isSome) = (true != (tab.lookup x).isSome) := by cases (tab.lookup x).isSome <;> rfl
    rw [e]; exact q1
theorem lift_gin {neg : Bool} {tab : List (Str × Addr)} : ∀ σ H Q, liftE X.K H0 (rGIn neg tab te) σ H Q -> tGIn neg tab (liftE X.K H0 te) σ H Q := fun σ H Q ⟨δ, G, Qd, hs, ht, k⟩ => ⟨δ, G, _, hs, ht, fun v H1 G1 d n1 r1 q1 => by
  obtain ⟨x, rfl, q⟩ := q1; have r1 : v = .str x := r1
  exact ⟨x, r1, k _ H1 G1 _ n1 (by simp only [Rep]) q⟩⟩
theorem t_gnotin {g : Str} {tab : List (Str × Addr)} {p : Pos} (T : GDic X.prog X.w X.K X.mg g tab) (he : PE2 X H0 e te) (hg : Gl X g := by rfl) (hdb : (g == ("__debug__" : Str)) = false := by decide) : PT2 X H0 (.Compare e [.NotIn] [.Name g p] pos) (rTest (rGIn true tab te)) :=
  PT.weak (pt_cmp (pc_gnotin T he hg hdb) rfl) (lift_test lift_gin)
def dLenT (K : PySem.W.Frag) (ds : List D) (Q : D -> Prop) : Prop := ∃ d ys, ds = [d] /\ (d = .lst ys \/ TupD K d ys) /\ Q (.int ys.length)
theorem lf_lenT {K : PySem.W.Frag} : LfC K (fun xs H Q => ∃ p ys, xs = [.ref p] /\ (SqL K H p ys \/ SqT K H p ys) /\ Q (.int ys.length) H) (dLenT K) := fun H0 σ δ G H vs ds Qd Q hs r h k => by
  obtain ⟨d, ys, rfl, hd, q⟩ := h; obtain ⟨v, rr, rfl, h1, h4⟩ := r; obtain rfl : rr = [] := h4; have fin : ∀ {p : Addr} {ws : List V}, (SqL K H p ws \/ SqT K H p ws) -> ys.length = ws.length -> v = .ref p -> ∃ p ys, [v] = [V.ref p] /\ (SqL K H p ys \/ SqT K H p ys) /\ Q (.int ys.length) H := fun {p ws} hq hl hv => by
    subst hv; exact ⟨p, ws, rfl, hq, by rw [<- hl]; exact k _ H G _ (Nx.refl hs) (by simp only [Rep]) q⟩
  rcases hd with rfl | rfl | ⟨p, zs, rfl, hT, rfl⟩
  · obtain ⟨a, ws, e, h2, h3⟩ := h1
    exact fin (.inl h2) h3.length e
  · obtain ⟨a, ws, e, h2, h3⟩ := h1
    exact fin (.inr (SqT.of h2)) h3.length e
  · have h1 : v = .ref p := h1
    exact fin (ws := zs.map V.str) (.inr (.inr hT)) (by simp) h1
theorem e_lenT {es : List Expr} {tr : RA} {p : Pos} (hm : X.mg "len" = none) (ha : PAB2 X H0 (e :: es) tr) (hg : Gl X "len" := by rfl)
 (he : starEach (e :: es) X.env = (false, eval e X.env) :: starEach es X.env := by rfl) (hpl : (backTo pos (starEach es X.env)).any (·.1) = false := by rfl) : PE2 X H0 (.Call (.Name "len" p) (e :: es) [] pos) (rCB (dLenT X.K) tr) :=
  e_callB call_len_seq lf_lenT hm PySem.boot_len ha hg (by decide) (by decide) he hpl
end
def cutS (x : Str) (lo hi : Option Int) : Str := ⟨((x.cps.toList.drop (HT.sIx x.length 0 lo)).take (HT.sIx x.length x.length hi - HT.sIx x.length 0 lo)).toArray⟩
def clipI (o : Option Int) (n d : Nat) : Int := match o with
  | none => (d : Int)
  | some i => max 0 (min (if i < 0 then i + (n : Int) else i) (n : Int))
theorem clip_is (o : Option Int) (n d : Nat) (h : d <= n) : clipI o n d = ((HT.sIx n d o : Nat) : Int) := by
  cases o with
  | none => rfl
  | some i =>
    simp only [HT.sIx, clipI]
    by_cases h : i < 0
    · simp only [h, if_true]; omega
    · simp only [h, if_false]; omega
theorem picks_is (lo hi : Option Int) (n : Nat) : Builtin.Str.strSliceIndices lo hi 1 n = (List.range (HT.sIx n n hi - HT.sIx n 0 lo)).map (HT.sIx n 0 lo + ·) := by
  have e3 : Builtin.Str.strSliceIndices lo hi 1 n = sliceRange (clipI lo n 0) (clipI hi n n) 1 := by
    cases lo <;> cases hi <;> rfl
  rw [e3, clip_is lo n 0 (Nat.zero_le _), clip_is hi n n (Nat.le_refl _), sliceRange_one]
section
variable {X : Cx} {H0 : Hp} {a b e o : Expr} {es : List Expr} {ta tb te : RE} {tr : RA} {lo hi : Option Expr} {tl th : RO} {pos p p2 apos cpos : Pos}
def rSlSV : V -> Option Int -> Option Int -> Hp -> VK -> Prop := fun x lo hi H Q => ∃ i : Str, x = .str i /\ i.length <= sizeLine /\ Q (.str (cutS i lo hi)) H
theorem sl_text : SlR X rSlSV := by
  intro pins s σ H x v vl vu lo hi sl Q I rx hs pl pu h; obtain ⟨i, rfl, hz, q⟩ := h; obtain ⟨t, rfl⟩ := rx; refine ⟨"str", _, PySem.F.slot_str_getitem.lookup, typeIs_str _ _ _, ?_⟩; have part : ∀ {v : Value} {o : Option Int}, IsPart v o -> ∃ p : Option (Int × Tok), v = partValue p /\ p.map (·.1) = o := fun h => by
    cases h with
    | none => exact ⟨none, rfl, rfl⟩
    | int i t => exact ⟨some (i, t), rfl, rfl⟩
  obtain ⟨pl', rfl, el⟩ := part pl; obtain ⟨pu', rfl, eu⟩ := part pu; have hp : slicePicked i pl' pu' none = (List.range (HT.sIx i.length i.length hi - HT.sIx i.length 0 lo)).map (HT.sIx i.length 0 lo + ·) := by
    unfold slicePicked; rw [el, eu]; exact picks_is lo hi i.length
  refine wpAny_getItem_str_slice (l := pl') (u := pu') (st := none) hs rfl ?_; have e1 : (⟨((slicePicked i pl' pu' none).filterMap (i.cps[·]?)).toArray⟩ : Str) = cutS i lo hi := by
    rw [hp, pick_run]; rfl
  have hcl : (cutS i lo hi).length <= i.length := by
    show ((i.cps.toList.drop _).take _).toArray.size <= i.length
    rw [List.size_toArray, List.length_take, List.length_drop]; simp [Str.length]; omega
  unfold sliceMade
  split
  · rename_i hc
    have hl : (slicePicked i pl' pu' none).length = i.length := by
      rw [Bool.and_eq_true] at hc; exact eq_of_beq hc.2
    have ew : cutS i lo hi = i := by
      rw [hp, List.length_map, List.length_range] at hl; have h1 := HT.sIx_le i.length i.length (Nat.le_refl _) hi; have h2 : HT.sIx i.length 0 lo = 0 := by
        rcases Nat.eq_zero_or_pos i.length with z | z
        · have := HT.sIx_le i.length 0 (Nat.zero_le _) lo; omega
        · omega
      have h3 : HT.sIx i.length i.length hi = i.length := by omega
      unfold cutS; rw [h2, h3, List.drop_zero, Nat.sub_zero, List.take_of_length_le (by simp [Str.length])]
    rw [ew] at q; exact ⟨.str i, H, I, ⟨_, rfl⟩, q⟩
  · rw [e1]
    exact ⟨Nat.le_trans hcl hz, ⟨.str _, H, I.tok _, ⟨_, rfl⟩, q⟩⟩
def rSlS (te : RE) (tl th : RO) (δ : List Sl) (Q : D -> Prop) : Prop := te δ fun d => tl δ fun l => th δ fun u => ∃ x : Str, d = .str x /\ x.length <= sizeLine /\ Q (.str (cutS x l u))
theorem e_slS (he : PB2 X H0 e te) (hl : PO2 X H0 lo tl) (hu : PO2 X H0 hi th) : PE2 X H0 (.Subscript e (.Slice lo hi none p2) pos) (rSlS te tl th) :=
  PE.weak (pe_slice sl_text he hl hu) fun σ H Q ⟨δ, G, Qd, hs, ht, k⟩ => ⟨δ, G, _, hs, ht, fun v H1 G1 d n1 r1 q1 => ⟨δ, G1, _, n1.hs, q1, fun l H2 G2 n2 q2 => ⟨δ, G2, _, n2.hs, q2, fun u H3 G3 n3 q3 => by
    obtain ⟨x, rfl, h2, q⟩ := q3; have r1 : v = .str x := r1
    exact ⟨x, r1, h2, k _ H3 G3 _ ((n1.trans n2).trans n3) (by simp only [Rep]) q⟩⟩⟩⟩
def dIxS (x y : D) (Q : D -> Prop) : Prop := ∃ (z : Str) (i : Int) (c : Nat), x = .str z /\ y = .int i /\ z.length <= sizeLine /\ atI z.cps.toList i = some c /\ Q (.str ⟨#[c]⟩)
theorem lf_ixS {K : PySem.W.Frag} : Lf2 K rIxS dIxS := fun H0 σ δ G H x y dx dy Qd Q hs rx ry h k => by
  obtain ⟨z, i, c, rfl, rfl, hz, he, q⟩ := h; have rx : x = .str z := rx; have ry : y = .int i := ry; exact ⟨z, i, c, rx, ry, hz, he, k _ H G _ (Nx.refl hs) (by simp only [Rep]) q⟩
theorem e_ixS (ha : PB2 X H0 a ta) (hb : PB2 X H0 b tb) (hp : PlainIx b := by intro _ _; rfl) : PE2 X H0 (.Subscript a b pos) (rOp dIxS ta tb) := PE.weak (pe_ix ix_str ha hb hp) (lift_op lf_ixS)
def dNinS (x y : D) (Q : D -> Prop) : Prop := ∃ i j : Str, x = .str i /\ y = .str j /\ Q (.bl (!(!(Builtin.Str.occurrences j i 0 j.length 1).isEmpty)))
theorem lf_ninS {K : PySem.W.Frag} : Lf2 K (fun x y H Q => ∃ i j, x = .str i /\ y = .str j /\ Q (.bl (!(!(Builtin.Str.occurrences j i 0 j.length 1).isEmpty))) H) dNinS := fun H0 σ δ G H x y dx dy Qd Q hs rx ry h k => by
  obtain ⟨i, j, rfl, rfl, q⟩ := h; have rx : x = .str i := rx; have ry : y = .str j := ry; exact ⟨i, j, rx, ry, k _ H G _ (Nx.refl hs) (by simp only [Rep]) q⟩
abbrev jRep (te : RE) (t : RJ) (δ : List Sl) (Q : Str -> Prop) : Prop := te δ fun d => ∃ x : Str, d = .str x /\ (reprText x).length <= 2000 /\ t δ fun y => Q (reprText x ++ y)
theorem j_rep {tj : RJ} (he : PE2 X H0 e te) (h : PJ2 X H0 es tj) : PJ2 X H0 (.FormattedValue e 114 none pos :: es) (jRep te tj) := fun pins s σ H acc Q I hl ⟨δ, G, Qd, hs, ht, k⟩ => by
  have hl' : acc.length + 2000 * es.length + 2000 <= sizeLine := by simpa [Nat.mul_add, Nat.add_assoc] using hl
  refine wpAny_FormattedValue_repr ?_; have hE : liftE X.K H0 te σ H (fun v H' => ∃ (x : Str) (G' : Hp), v = .str x /\ (reprText x).length <= 2000 /\ Nx X.K H0 σ δ G H G' H' /\ tj δ fun y => Qd (reprText x ++ y)) :=
    ⟨δ, G, _, hs, ht, fun v H' G' d n r ⟨i, e, hi, q⟩ => by subst e; exact ⟨i, G', by simpa only [Rep] using r, hi, n, q⟩⟩
  refine thn (he pins s σ H _ I hE) fun u s1 ⟨v, H1, I1, rv, x, G', ev, hi, n, q⟩ => ?_
  subst ev; obtain ⟨t, rfl⟩ := rv; refine wpAny_pyReprObj_str ?_ (Nat.le_trans hi (by decide))
  have fin : ∀ (t2 : Tok) (tk : Nat), ∃ (y : Str) (t' : Tok), Value.str (reprText x) t2 = .str y t' /\ (acc ++ y).length <= sizeLine /\ Joins (model X.prog X.w) X.A X.xe (evalEach es X.env) (acc ++ y) (fun out s1 => ∃ y H', out = acc ++ y /\ out.length <= sizeLine /\ Inv X pins σ H' s1 /\ Q y H') { s1 with toks := tk } := fun t2 tk =>
    ⟨reprText x, t2, rfl, by rw [strLen_append]; omega, joins_mono _ _ (h pins _ σ H1 (acc ++ reprText x) (fun y => Q (reprText x ++ y)) (I1.tok _) (by rw [strLen_append]; omega) ⟨δ, G', _, n.hs, q, fun y H' G2 n2 q => k _ _ _ (n.trans n2) q⟩) fun out s1 ⟨y, H', e, l, I', q⟩ => ⟨reprText x ++ y, H', by rw [e, Str.append_assoc], l, I', q⟩⟩
  exact wpAny_formatField_str (fin _ _) (fin _ _) (by omega)
end
def Its (x : Str) : It := ⟨fun i _ => i < x.length, fun i H v H' => H' = H /\ ∃ c, x.cps[i]? = some c /\ v = .str ⟨#[c]⟩, fun i _ => x.length <= i⟩
theorem turn_str {P : Program} {w : World} {K : PySem.W.Frag} {tg : Expr} {x : Str} {t : Tok} (it : Addr) : Turn P w K tg (Its x) [it] it (fun i h => h.IsStrIter it "str_ascii_iterator" x t i) where
  mem := by simp
  obj := fun i h st b hb => by
    have e : b = it := by simpa using hb
    subst e; obtain ⟨o, e, c, d⟩ := st; exact ⟨o, e, fun v z => by rw [d] at z; cases z⟩
  keep := fun i h h' ⟨o, e, r⟩ k => ⟨o, k it (by simp) o e, r⟩
  item := by
    intro X hP hw hK hc i pins s σ H E I hf st hg; subst hP hw hK; have hg : i < x.cps.size := hg; obtain ⟨f0, f1, f2, f3, f4, f5⟩ := hf it (by simp); refine wpAny_pyNext_ascii_item st (Array.getElem?_eq_getElem hg) fun h' st' sb => ?_
    have I1 : L2.Inv X pins σ H { s with heap := h', toks := s.toks + 1 } := I.turned (t' := s.toks + 1) (fun b o hb e => (sb.2 b hb).trans e) f0 f1 f3 f4 f5; obtain ⟨o, e, c, d⟩ := id st'
    exact ⟨_, rfl, go_of (s := { s with heap := h', toks := s.toks + 1 }) e c d (by decide) ⟨.str ⟨#[x.cps[i]]⟩, H, I1, ⟨_, rfl⟩, ⟨rfl, _, Array.getElem?_eq_getElem hg, rfl⟩, st', fun b hb => (hf b hb).1⟩⟩
  done := by
    intro X hP hw hK hc i pins s σ H E I hf st hg; subst hP hw hK; have hg : x.cps.size <= i := hg; obtain ⟨f0, f1, f2, f3, f4, f5⟩ := hf it (by simp); exact wpAny_pyNext_ascii_end (I.ok.hd hc) st (Array.getElem?_eq_none hg) fun h' eb => ⟨rfl, I.turned (t' := s.toks) (fun b o hb e => eb b o hb e) f0 f1 f3 f4 f5⟩
  self := fun _ _ _ _ _ st h => wpAny_pyIter_striter_ascii st h
section
variable {X : Cx} {H0 : Hp} {tg iter e o : Expr} {te ta : RE} {g : RG} {tb : RS} {body : List Stmt} {pos apos cpos : Pos}
def iStr (tl : TE) : TI := fun σ H R => tl σ H fun x H1 => ∃ z : Str, x = .str z /\ z.cps.all (· < 128) = true /\ R (Its z) H1
theorem pi_str {l : Expr} {tl : TE} (hl : PE X l tl) : PI X tg l (iStr tl) := by
  intro pins s σ H R I h; refine thn (hl pins s σ H _ I h) fun v s1 ⟨x, H1, I1, r1, q1⟩ => ?_
  obtain ⟨z, rfl, ha, q⟩ := q1; obtain ⟨t, rfl⟩ := r1; refine wpAny_pyIter_ascii ha ?_; refine ⟨s1.heap.objs.size, [s1.heap.objs.size], _, _, H1, rfl, I1.kept (t' := s1.toks) fun b o e => Heap.get?_push_of_some _ e, turn_str (t := t) _, ⟨_, Heap.get?_push_size _ rfl, rfl, rfl⟩, fun b hb => ?_, q⟩; have e : b = s1.heap.objs.size := by simpa using hb
  subst e; exact I1.fpOk (Nat.le_refl _) (I1.hok.fresh (Nat.le_refl _))
def signsD (x : Str) : List D := x.cps.toList.map fun c => .str ⟨#[c]⟩
def rForS (te : RE) (g : RG) (tb : RS) (E : Ends2) (δ : List Sl) : Prop := te δ fun d => ∃ x : Str, d = .str x /\ x.cps.all (· < 128) = true /\ loop g tb E (signsD x) δ
theorem s_forS (hp : PassesOwn (model X.prog X.w) X.A X.env X.xe) (hc : X.calm = true) (hi : PE2 X H0 iter te) (hg : PG2 X H0 tg g) (hb : PSs2 X H0 body tb) (hs : ∀ x, foldedSetIterable iter X.env x = pure x := by intro _; rfl) :
 PS2 X H0 (.For tg iter body [] pos) (rForS te g tb) :=
  PS.weak (ps_for hp hc (pi_str hi) hg hb hs) fun D σ H ⟨δ, G, E, hs, ht, go⟩ => ⟨δ, G, _, hs, ht, fun v H1 G1 d n1 r1 q1 => by
    obtain ⟨x, rfl, ha, q2⟩ := q1; have r1 : v = .str x := r1; refine ⟨x, r1, ha, fun i m σ' H' => m = x.length - i /\ i <= x.length /\ ∃ δ' G', Hs X.K H0 σ' δ' G' H' /\ Same G1 G' /\ loop g tb E ((signsD x).drop i) δ', ⟨x.length, by simp, Nat.zero_le _, δ, G1, n1.hs, Same.refl _, q2⟩, ?_⟩; rintro i m σ' H' ⟨rfl, hi, δ', G', h', s', q'⟩; have sl : (signsD x).length = x.length := by simp [signsD, Str.length]
    by_cases hlt : i < x.length
    · have hx : x.cps[i]? = some x.cps[i] := Array.getElem?_eq_getElem hlt
      have ed : (signsD x)[i]? = some (.str ⟨#[x.cps[i]]⟩) := by
        unfold signsD; rw [List.getElem?_map, Array.getElem?_toList, hx]; rfl
      have hil : i < (signsD x).length := by rw [sl]; exact hlt
      have ed' : (signsD x)[i] = .str ⟨#[x.cps[i]]⟩ := by
        rw [List.getElem?_eq_getElem hil] at ed; exact Option.some.inj ed
      rw [List.drop_eq_getElem_cons hil, ed'] at q'; refine .inr ⟨hlt, fun σ2 H2 => ∃ δ' G', Hs X.K H0 σ2 δ' G' H2 /\ Same G1 G' /\ loop g tb E ((signsD x).drop (i + 1)) δ', fun σ2 H2 z => ⟨x.length - (i + 1), by omega, rfl, hlt, z⟩, fun y H2 yl => ?_⟩; obtain ⟨eH, c, ec, ev⟩ := yl; subst eH ev; rw [hx] at ec; cases ec; refine ⟨δ', _, .str ⟨#[x.cps[i]]⟩, _, h', by simp only [Rep], q', fun σ2 H2 δ2 G2 h2' s2 q2 => ⟨δ2, G2, _, h2', q2, ⟨fun σ3 H3 δ3 G3 h3' s3 ⟨δ4, f4, q3⟩ => ⟨δ4, G3, h3'.forget f4, (s'.trans s2).trans s3, q3⟩, go.rt, fun σ3 H3 δ3 G3 h3' s3 q3 => go.nx σ3 H3 δ3 G3 h3' (((n1.g.trans s').trans s2).trans s3) q3, fun σ3 H3 δ3 G3 h3' s3 ⟨δ4, f4, q3⟩ => ⟨δ4, G3, h3'.forget f4, (s'.trans s2).trans s3, q3⟩⟩⟩⟩
    · refine .inl ⟨(by show x.length <= i; omega), go.nx σ' H' δ' G' h' (n1.g.trans s') ?_⟩
      rw [List.drop_of_length_le (by rw [sl]; omega)] at q'
      exact q'⟩
theorem mt_index : MtR X "list.index" (fun x vs H Q => ∃ (l : Addr) (zs : List Str) (y : Str) (j : Nat), x = .ref l /\ vs = [.str y] /\ SqL X.K H l (zs.map V.str) /\ zs[j]? = some y /\ (∀ m, m < j -> zs[m]? ≠ some y) /\ Q (.int (j : Nat)) H) := by
  intro pins s σ H x xs v us Q I rx rv h; obtain ⟨l, zs, y, j, rfl, rfl, hq, hj, hno, q⟩ := h; cases rx; obtain ⟨u, rfl, t', rfl⟩ := vals1 rv; obtain ⟨its, r, pl, hz⟩ := I.list hq; obtain ⟨o, n, e, c, hd, hdt⟩ := pl; have hl := r.length; rw [List.length_map] at hl; have hjl : j < zs.length := (List.getElem?_eq_some_iff.mp hj).1; have at_ : ∀ {m : Nat} (hm : m < its.toArray.size), ∃ (z : Str) (t : Tok), its.toArray[m] = .str z t /\ zs[m]? = some z := fun {m} hm => by
    have hm' : m < zs.length := by simpa [<- hl] using hm
    have hv : (zs.map V.str)[m]? = some (.str zs[m]) := by rw [List.getElem?_map, List.getElem?_eq_getElem hm']; rfl
    obtain ⟨w, ew, t, rw'⟩ := r.get hv; refine ⟨zs[m], t, ?_, List.getElem?_eq_getElem hm'⟩; have : its[m]? = some (.str zs[m] t) := by rw [ew, rw']
    have hmi : m < its.length := by omega
    rw [List.getElem?_eq_getElem hmi] at this
    simpa using Option.some.inj this
  let eq : Value -> Bool := fun z => match z with
    | .str a _ => a == y
    | _ => false
  have hjs : j < its.toArray.size := by simp; omega
  refine call_meets F.slot_list_index ⟨o, e, c⟩ F.entry_list_index (F.args_list_index_2 _ _) (SeqAt.list_indexAt l its.toArray n o.dict o.slots (.str y t') eq j hjs ?_ ?_ ?_) ⟨?_, fun z hz' => ?_, ⟨.int j, H, I.tok _, ⟨_, rfl⟩, q⟩⟩
  · have := line63
    rw [List.length_map] at hz; omega
  · obtain ⟨z, t, e1, e2⟩ := at_ hjs
    rw [e1]; rw [hj] at e2; cases e2
    show (y == y) = true
    simp
  · intro m hm hmj
    obtain ⟨z, t, e1, e2⟩ := at_ hm; rw [e1]
    show (z == y) = false
    rw [beq_eq_false_iff_ne]; intro ez; rw [ez] at e2; exact hno m hmj e2
  · rw [e]
    cases o; cases c; simp only at hdt; rw [hdt]
  · obtain ⟨m, hm, rfl⟩ := Array.getElem_of_mem hz'
    obtain ⟨z, t, e1, e2⟩ := at_ hm; rw [e1]; exact eqAt_V (y := .str z) (x := .str y) ⟨t, rfl⟩ ⟨t', rfl⟩ rfl rfl
def rIndex (te ta : RE) (δ : List Sl) (Q : D -> Prop) : Prop := te δ fun d => ∃ zs : List Str, d = .lst (zs.map D.str) /\ ta δ fun a => ∃ (y : Str) (j : Nat), a = .str y /\ zs[j]? = some y /\ (∀ m, m < j -> zs[m]? ≠ some y) /\ Q (.int j)
theorem e_index (ho : PE2 X H0 o te) (ha : PE2 X H0 e ta) (sm : Sm1 X o e "index" apos cpos := by exact ⟨rfl, rfl, rfl, rfl⟩) : PE2 X H0 (.Call (.Attribute o "index" apos) [e] [] cpos) (rIndex te ta) :=
  PE.weak (pe_bm PySem.F.plainAttrs_list PySem.F.slot_list_index PySem.F.type_list_index mt_index ho (pa_cons ha pa_nil sm.2.2.2) sm.1 sm.2.1 sm.2.2.1 sm.2.2.2 rfl) fun σ H Q ⟨δ, G, Qd, hs, ht, k⟩ => ⟨δ, G, _, hs, ht, fun v H1 G1 d n1 r1 q1 => by
    obtain ⟨zs, rfl, q1⟩ := q1; simp only [Rep] at r1; obtain ⟨a, ws, rfl, h2, h3⟩ := r1; obtain rfl := reps_strs h3; refine ⟨.inl ⟨rfl, _, n1.hs.sub.seq h2⟩, δ, G1, _, n1.hs, q1, fun v2 H2 G2 d2 n2 r2 q2 => ?_⟩; obtain ⟨y, j, rfl, hj, hno, q⟩ := q2; have r2 : v2 = .str y := r2; subst r2
    exact ⟨a, zs, y, j, rfl, rfl, n2.hs.sub.seq (n2.g.seq h2), hj, hno, k _ H2 G2 _ (n1.trans n2) (by simp only [Rep]) q⟩⟩
end
theorem stp_str {prog : Program} {w : World} {i l : Addr} {x : Str} {t : Tok} : Stp prog w i l x.length (fun k v => ∃ c tk, x.cps[k]? = some c /\ v = .str ⟨#[c]⟩ tk) (fun k h => h.IsStrIter i "str_ascii_iterator" x t k) (fun _ => True) where
  item := fun hk st _ q => wpAny_nextOf_ascii_item st (Array.getElem?_eq_getElem hk) fun h' a b => q _ h' _ ⟨_, _, Array.getElem?_eq_getElem hk, rfl⟩ a b
  fin := fun hh hk st _ q => wpAny_nextOf_ascii_end hh st (Array.getElem?_eq_none hk) q
  kst := fun ⟨o, ho, r⟩ e => ⟨o, e _ ho, r⟩
  ksq := fun _ _ => trivial
  obj := fun ⟨o, ho, _, hd⟩ => ⟨o, ho, _, hd⟩
def Itzs (K : PySem.W.Frag) (z : Str) (b : Addr) : It :=
  ⟨fun i H => i < z.length /\ ∃ ys y, SqL K H b ys /\ ys[i]? = some y,
   fun i H x H' => ∃ p c v, H p = none /\ x = .ref p /\ z.cps[i]? = some c /\ (∀ xs, SqL K H b xs -> xs[i]? = some v) /\ H' = upd H p (.tup [.str ⟨#[c]⟩, v]),
   fun i H => ∃ ys, SqL K H b ys /\ (z.length <= i \/ ys.length <= i)⟩
theorem turn_zipS {P : Program} {w : World} {K : PySem.W.Frag} {ts : List Expr} {k : Nat} {tp : Pos} {x : Str} {t : Tok} (z TI TO i1 i2 b : Addr) (D : ZApart z TI TO i1 i2 b b) :
 Turn P w K (.Tuple ts k tp) (Itzs K x b) [z, TI, TO, i1, i2] z (fun i h => IsZip h z TI TO .none /\ IsPair h TI (.ref i1) (.ref i2) /\ (∃ u v, IsPair h TO u v) /\ h.IsStrIter i1 "str_ascii_iterator" x t i /\ h.IsListIter i2 b i) where
  mem := by simp
  obj := fun i h st c hc => by
    obtain ⟨h1, h2, ⟨u, v, h3⟩, ⟨o4, h4, c4, d4⟩, ⟨o5, h5, c5, d5⟩⟩ := st; simp only [List.mem_cons, List.not_mem_nil, or_false] at hc
    rcases hc with q | q | q | q | q <;> subst q
    · exact ⟨_, h1, fun v z => by cases z⟩
    · exact ⟨_, h2, fun v z => by cases z⟩
    · exact ⟨_, h3, fun v z => by cases z⟩
    · exact ⟨_, h4, fun v z => by rw [d4] at z; cases z⟩
    · exact ⟨_, h5, fun v z => by rw [d5] at z; cases z⟩
  keep := fun i h h' st k => by
    obtain ⟨h1, h2, ⟨u, v, h3⟩, ⟨o4, h4, r4⟩, h5⟩ := st; exact ⟨k _ (by simp) _ h1, k _ (by simp) _ h2, ⟨u, v, k _ (by simp) _ h3⟩, ⟨o4, k i1 (by simp) o4 h4, r4⟩, h5.at fun o q => k i2 (by simp) o q⟩
  item := by
    intro X hP hw hK hc i pins s σ H E I hf st hg; subst hP hw hK; obtain ⟨hi, ys, y, hq2, hy⟩ := hg; obtain ⟨its2, rv2, p2, hz2⟩ := I.list hq2; obtain ⟨u2, hu2, ru2⟩ := rv2.get hy; obtain ⟨h1, h2, ⟨oa, ob, h3⟩, h4, h5⟩ := st; have lt2 : i < its2.toArray.size := by have := (List.getElem?_eq_some_iff.mp hu2).1; simpa using this
    have fr : H s.heap.objs.size = none := I.hok.fresh (Nat.le_refl _); refine zs_next D (stp_str (x := x) (t := t)) (stp_list (xs := its2.toArray)) h1 h2 h3 h4 h5 trivial p2.isList (fun _ _ v1 v2 h' t' e1 e2 a1 a2 a3 a4 a5 a6 hk => ⟨_, rfl, ?_⟩) (fun z => by omega); obtain ⟨c, tk, ec, rfl⟩ := e1; obtain rfl : u2 = v2 := by
      have e2 : its2[i]? = some v2 := by simpa using e2
      rw [hu2] at e2; exact Option.some.inj e2
    have lt : ∀ {c o}, s.heap.get? c = some o -> c ≠ s.heap.objs.size := fun e => Nat.ne_of_lt (Heap.lt_size e)
    refine wpAny_letOwnedTupleGo_zip a1 fun h6 he6 hs6 => ?_
    replace hs6 : Heap.SameBut z h' h6 := hs6; have kk : ∀ c o, c ∉ [z, TI, TO, i1, i2] -> s.heap.get? c = some o -> h6.get? c = some o := fun c o hc q => by
      simp only [List.mem_cons, List.not_mem_nil, or_false, not_or] at hc; exact (hs6.2 c hc.1).trans (hk c o hc.1 hc.2.2.1 hc.2.2.2.1 hc.2.2.2.2 q)
    have hT6 : h6.get? s.heap.objs.size = some { cls := .type "tuple", data := .seq #[.str ⟨#[c]⟩ tk, u2] } := (hs6.2 _ (lt h1).symm).trans a5; refine ⟨.ref s.heap.objs.size, upd H s.heap.objs.size (.tup [.str ⟨#[c]⟩, y]), ?_, rfl, ⟨_, c, y, fr, rfl, ec, (fun zs hz => by rw [I.list_inj hz hq2]; exact hy), rfl⟩, ?_, fun c hc => ?_⟩
    · exact turned_tup (t' := t') I hf kk (by show 2 <= sizeLine; decide) (.cons ⟨_, rfl⟩ (.cons ru2 .nil)) hT6
    · obtain ⟨o5, e5, r5⟩ := a3
      refine ⟨he6, (hs6.2 _ D.ti.1).trans (hk _ _ D.ti.1 D.ti.2.1 D.ti.2.2.1 D.ti.2.2.2 h2), ⟨_, _, (hs6.2 _ D.to.1).trans a2⟩, ⟨o5, (hs6.2 _ D.it.1).trans e5, r5⟩, a4.at fun o q => (hs6.2 _ D.it.2.1).trans q⟩
    · have hb' : c ≠ s.heap.objs.size := by
        obtain ⟨o4, h4, _⟩ := h4; obtain ⟨o5, h5, _⟩ := h5; simp only [List.mem_cons, List.not_mem_nil, or_false] at hc
        rcases hc with q | q | q | q | q <;> subst q
        · exact lt h1
        · exact lt h2
        · exact lt h3
        · exact lt h4
        · exact lt h5
      rw [upd_ne hb']; exact (hf c hc).1
  done := by
    intro X hP hw hK hc i pins s σ H E I hf st hg; subst hP hw hK; obtain ⟨ys, hq2, hx⟩ := hg; obtain ⟨its2, rv2, p2, hz2⟩ := I.list hq2; obtain ⟨h1, h2, ⟨oa, ob, h3⟩, h4, h5⟩ := st; have hl2 := rv2.length; refine zs_next D (stp_str (x := x) (t := t)) (stp_list (xs := its2.toArray)) h1 h2 h3 h4 h5 trivial p2.isList (fun l1 l2 => by simp at l2; omega) (fun _ => ⟨I.ok.hd hc, fun h' t' eb => ⟨rfl, ?_⟩⟩); exact turned_all (t' := t') I hf fun c o hc q => by
      simp only [List.mem_cons, List.not_mem_nil, or_false, not_or] at hc; exact eb c o hc.1 hc.2.2.1 hc.2.2.2.1 hc.2.2.2.2 q
  self := fun _ _ _ _ _ st h => wpAny_pyIter_zip st.1 h
abbrev yA (g : Heap) (x : Str) (t : Tok) : Heap := g.push { data := .fields #[.str x t, .int 0 0], cls := .type "str_ascii_iterator" }
abbrev yB (g : Heap) (x : Str) (t : Tok) (b : Addr) : Heap := (yA g x t).push { data := .fields #[.ref b, .int 0 0], cls := .type "list_iterator" }
abbrev yC (g : Heap) (x : Str) (t : Tok) (b : Addr) : Heap := (yB g x t b).push { data := .seq #[.ref g.objs.size, .ref (yA g x t).objs.size], cls := .type "tuple" }
abbrev yD (g : Heap) (x : Str) (t : Tok) (b : Addr) : Heap := (yC g x t b).push { data := .seq #[.none, .none], cls := .type "tuple" }
abbrev yE (g : Heap) (x : Str) (t : Tok) (b : Addr) : Heap := (yD g x t b).push { data := .fields #[.none, .bool false, .bool false, .ref (yB g x t b).objs.size, .ref (yC g x t b).objs.size], cls := .type "zip" }
theorem meets_yT (x : Str) (t : Tok) (l2 : Addr) (ys : Array Value) (ha : x.cps.all (· < 128) = true) : Meets (Builtin.«zip.__new__» ⟨[.type "zip", .str x t, .ref l2], []⟩) (fun _ R s => s.heap.IsList l2 ys /\ R (.ok (.ret (.ref (yD s.heap x t l2).objs.size))) { s with heap := yE s.heap x t l2 }) :=
  .of_wp fun prog w A R s h => by
    obtain ⟨hp, g, d, tk, os⟩ := s; obtain ⟨hl2, h⟩ := h; have hsub := PySem.sub_zip; have hL2 : Heap.IsList (Shared.heap ⟨hp.push { cls := .type "str_ascii_iterator", data := .fields #[.str x t, .int 0 0] }, g, d, tk, os⟩) l2 ys := Heap.IsList.push hl2 _
    wp_walk using wpAny_pyIter_ascii ha, wpAny_pyIter_list hL2
    exact ⟨_, rfl, h⟩
theorem call_yT {prog : Program} {w : World} {A : Around} {E : Value -> Shared -> Prop} {s : Shared} {x : Str} {t : Tok} {b : Addr} {ys : Array Value} {Q : Value -> Shared -> Prop} (ha : x.cps.all (· < 128) = true) (hb : s.heap.IsList b ys)
 (h : ∀ h', IsZip h' (s.heap.objs.size + 4) (s.heap.objs.size + 2) (s.heap.objs.size + 3) .none -> IsPair h' (s.heap.objs.size + 2) (.ref s.heap.objs.size) (.ref (s.heap.objs.size + 1)) -> IsPair h' (s.heap.objs.size + 3) .none .none ->
 h'.IsStrIter s.heap.objs.size "str_ascii_iterator" x t 0 -> h'.IsListIter (s.heap.objs.size + 1) b 0 -> (∀ c o, s.heap.get? c = some o -> h'.get? c = some o) -> Q (.ref (s.heap.objs.size + 4)) { s with heap := h' }) : wpAny (model prog w) A (call (.type "zip") [.str x t, .ref b]) Q E s := by
  refine callType_new PySem.F.called_zip (by decide) (PySem.F.typeCall_zip_2 _ _) (PySem.F.newCall_zip_2 _ _) (fun obj => PySem.F.args_object_init_3 obj _ _) PySem.F.entry_zip_new (meets_yT x t b ys ha) ⟨hb, ?_⟩; have n1 : (yA s.heap x t).objs.size = s.heap.objs.size + 1 := Heap.size_push ..; have n2 : (yB s.heap x t b).objs.size = s.heap.objs.size + 2 := by rw [Heap.size_push, n1]
  have n3 : (yC s.heap x t b).objs.size = s.heap.objs.size + 3 := by rw [Heap.size_push, n2]
  have n4 : (yD s.heap x t b).objs.size = s.heap.objs.size + 4 := by rw [Heap.size_push, n3]
  have up1 : ∀ {g : Heap} {o : Obj} {c : Addr} {u : Obj}, g.get? c = some u -> (g.push o).get? c = some u := fun e => Heap.get?_push_of_some _ e
  have g5 : (yE s.heap x t b).get? (yD s.heap x t b).objs.size = some _ := Heap.get?_push_size _ rfl; have g4 : (yE s.heap x t b).get? (yC s.heap x t b).objs.size = some _ := up1 (Heap.get?_push_size _ rfl); have g3 : (yE s.heap x t b).get? (yB s.heap x t b).objs.size = some _ := up1 (up1 (Heap.get?_push_size _ rfl)); have g2 : (yE s.heap x t b).get? (yA s.heap x t).objs.size = some _ := up1 (up1 (up1 (Heap.get?_push_size _ rfl))); have g1 : (yE s.heap x t b).get? s.heap.objs.size = some _ := up1 (up1 (up1 (up1 (Heap.get?_push_size _ rfl))))
  show _ /\ _
  rw [n2, n3, n4] at g5; rw [n1, n2] at g3; rw [n3] at g4; rw [n1] at g2; rw [n4]; exact ⟨⟨_, g5, rfl⟩, h _ g5 g3 g4 ⟨_, g1, rfl, rfl⟩ ⟨_, g2, rfl, rfl⟩ fun c o x => up1 (up1 (up1 (up1 (up1 x))))⟩
section
variable {X : Cx} {H0 : Hp}
def iZipS (K : PySem.W.Frag) (ta : TA) : TI := fun σ H R => ta σ H fun vs H1 => ∃ (z : Str) (b : Addr), vs = [.str z, .ref b] /\ z.cps.all (· < 128) = true /\ (∃ xs, SqL K H1 b xs) /\ R (Itzs K z b) H1
theorem pi_zipS {ts : List Expr} {k : Nat} {tp : Pos} {a b : Expr} {ta : TA} {p pos : Pos} (hg : Gl X "zip") (hm : X.mg "zip" = none) (ha : PA X [a, b] ta) (hs : starEach [a, b] X.env = (false, eval a X.env) :: starEach [b] X.env := by rfl) (hpl : (backTo pos (starEach [b] X.env)).any (·.1) = false := by rfl) :
 PI X (.Tuple ts k tp) (.Call (.Name "zip" p) [a, b] [] pos) (iZipS X.K ta) := by
  intro pins s σ H R I h; refine wpAny_Call_Name_kw (ld_blt I hg hm (u := .type "zip") rfl ?_); refine PyProof.Rows.callWith_type1 (thn (ha pos pins s σ H _ I h) fun us s1 ⟨vs, H1, I1, r1, q1⟩ => ?_) hs hpl; obtain ⟨z, l2, e, haz, ⟨ys, hq2⟩, q⟩ := q1; subst e; obtain ⟨u, us', rfl, ru, r2⟩ := vals2 r1; obtain ⟨t, rfl⟩ := ru; cases r2; obtain ⟨its2, rv2, pl2, hz2⟩ := I1.list hq2; have g2 : l2 < s1.heap.objs.size := by obtain ⟨o, e, _⟩ := pl2.isList; exact Heap.lt_size e
  refine call_yT haz pl2.isList fun h' z1 z2 z3 z4 z5 hk => ?_
  refine wpAny_pyIter_zip z1 ?_
  have I2 : L2.Inv X pins σ H1 { s1 with heap := h' } := I1.kept (t' := s1.toks) hk; refine ⟨s1.heap.objs.size + 4, [s1.heap.objs.size + 4, s1.heap.objs.size + 2, s1.heap.objs.size + 3, s1.heap.objs.size, s1.heap.objs.size + 1], _, _, H1, rfl, I2, turn_zipS (t := t) _ _ _ _ _ l2 (zs_apart g2 g2), ⟨z1, z2, ⟨_, _, z3⟩, z4, z5⟩, fun c hc => ?_, q⟩; have hb' : s1.heap.objs.size <= c := by
    simp only [List.mem_cons, List.not_mem_nil, or_false] at hc
    rcases hc with q | q | q | q | q <;> subst q <;> first | exact Nat.le_refl _ | exact Nat.le_add_right _ _
  exact I1.fpOk hb' (I1.hok.fresh hb')
def rForZS (tr : RA) (g : RG) (tb : RS) (E : Ends2) (δ : List Sl) : Prop := tr δ fun ds => ∃ (x : Str) (ys : List D), ds = [.str x, .lst ys] /\ x.cps.all (· < 128) = true /\ loop g tb E (zipD (signsD x) ys) δ
variable {ts : List Expr} {k : Nat} {tp p pos pos2 : Pos} {a b : Expr} {tr : RA} {g : RG} {tb : RS} {body : List Stmt}
theorem s_forZS (hp : PassesOwn (model X.prog X.w) X.A X.env X.xe) (hc : X.calm = true) (hgl : Gl X "zip") (hm : X.mg "zip" = none) (ha : PA2 X H0 [a, b] tr) (hg : PG2 X H0 (.Tuple ts k tp) g) (hb : PSs2 X H0 body tb) (hst : starEach [a, b] X.env = (false, eval a X.env) :: starEach [b] X.env := by rfl)
 (hpl : (backTo pos2 (starEach [b] X.env)).any (·.1) = false := by rfl)
 (hs : ∀ x, foldedSetIterable (.Call (.Name "zip" p) [a, b] [] pos2) X.env x = pure x := by intro _; rfl) : PS2 X H0 (.For (.Tuple ts k tp) (.Call (.Name "zip" p) [a, b] [] pos2) body [] pos) (rForZS tr g tb) :=
  PS.weak (ps_for hp hc (pi_zipS hgl hm ha hst hpl) hg hb hs) fun D σ H ⟨δ, G, E, hs, ht, go⟩ => ⟨δ, G, _, hs, ht, fun vs H1 G1 ds n1 r1 q1 => by
    obtain ⟨x, ys, rfl, hax, q2⟩ := q1; simp only [Reps, Rep] at r1; obtain ⟨v, r, rfl, rfl, v2, r2, rfl, ⟨l2, ws2, rfl, h22, h32⟩, rfl⟩ := r1; have sl : (signsD x).length = x.length := by simp [signsD, Str.length]
    refine ⟨x, l2, rfl, hax, ⟨ws2, n1.hs.sub.seq h22⟩, fun i m σ' H' => m = x.length - i /\ i <= x.length /\ i <= ws2.length /\ ∃ δ' G', Hs X.K H0 σ' δ' G' H' /\ Same G1 G' /\ loop g tb E ((zipD (signsD x) ys).drop i) δ', ⟨x.length, by simp, Nat.zero_le _, Nat.zero_le _, δ, G1, n1.hs, Same.refl _, q2⟩, ?_⟩; rintro i m σ' H' ⟨rfl, hi, hi2, δ', G', h', s', q'⟩; have sq2 : SqL X.K H' l2 ws2 := h'.sub.seq (s'.seq h22)
    by_cases hlt : i < x.length /\ i < ws2.length
    · obtain ⟨hlt, hlt2⟩ := hlt
      have hx : x.cps[i]? = some x.cps[i] := Array.getElem?_eq_getElem hlt; have ed : (signsD x)[i]? = some (.str ⟨#[x.cps[i]]⟩) := by
        unfold signsD; rw [List.getElem?_map, Array.getElem?_toList, hx]; rfl
      have hx2 : ws2[i]? = some ws2[i] := by simp [hlt2]
      obtain ⟨d2, ed2, rd2⟩ := h32.getV hx2; rw [zipD_drop i (signsD x) ys _ d2 ed ed2] at q'; refine .inr ⟨⟨hlt, ws2, ws2[i], sq2, hx2⟩, fun σ2 H2 => ∃ δ' G', Hs X.K H0 σ2 δ' G' H2 /\ Same G1 G' /\ loop g tb E ((zipD (signsD x) ys).drop (i + 1)) δ', fun σ2 H2 z => ⟨x.length - (i + 1), by omega, rfl, hlt, hlt2, z⟩, fun y H2 ⟨p, c, y2, hp, ex, ec, hy2, eh⟩ => ?_⟩; subst ex eh; rw [hx] at ec; cases ec; have ey2 : ws2[i] = y2 := by
        have := hy2 ws2 sq2; rw [hx2] at this; exact Option.some.inj this
      obtain ⟨h4, s4⟩ := h'.laid (o := .tup [.str ⟨#[x.cps[i]]⟩, y2]) hp; refine ⟨δ', _, .tup [.str ⟨#[x.cps[i]]⟩, d2], _, h4, ?_, q', fun σ2 H2 δ2 G2 h2' s2 q2 => ⟨δ2, G2, _, h2', q2, ⟨fun σ3 H3 δ3 G3 h3' s3 ⟨δ4, f4, q3⟩ => ⟨δ4, G3, h3'.forget f4, ((s'.trans s4).trans s2).trans s3, q3⟩, go.rt, fun σ3 H3 δ3 G3 h3' s3 q3 => go.nx σ3 H3 δ3 G3 h3' ((((n1.g.trans s').trans s4).trans s2).trans s3) q3, fun σ3 H3 δ3 G3 h3' s3 ⟨δ4, f4, q3⟩ => ⟨δ4, G3, h3'.forget f4, ((s'.trans s4).trans s2).trans s3, q3⟩⟩⟩⟩; simp only [Rep]; refine ⟨p, _, rfl, upd_same, Reps.cons (by simp only [Rep]) (Reps.cons ?_ Reps.nil)⟩; subst ey2; exact Rep.mono (s'.trans s4) _ _ rd2
    · have e : x.length <= i \/ ws2.length <= i := by omega
      refine .inl ⟨⟨ws2, sq2, e⟩, go.nx σ' H' δ' G' h' (n1.g.trans s') ?_⟩; rw [zipD_end i (signsD x) ys (by rw [sl, h32.length]; exact e)] at q'
      exact q'⟩
end
theorem fun_okX3 {P : Program} {w : World} {K : PySem.W.Frag} {mg : Str -> Option Value} {base : Heap} {x qual : Str} {st : Stmt} {f : Addr} {fd : FuncData} {N ps : List Str} {k : Nat} {sp : SpX} (F : Fun K x qual st f fd) (S : FnScope N ps (defScope st)) (len : ∀ ds Qd Xd, sp ds Qd Xd -> ds.length = ps.length)
 (hbody : ∀ (cdv : Value) (A : Around) (outer : List Env) (s : Shared) (H : Hp) (E : XK), Room k (A.deeper (envOfC qual (defScope st) s.heap.objs.size f cdv)) -> ∀ ds Qd (Xd : Str -> Prop), sp ds Qd Xd ->
 (∀ x C, mg x = some (.ref C) -> Xd x -> Thr (cxOf (CX1 P w) P w K mg base N qual (defScope st) f cdv A outer s H E) H C) -> (∀ x, Xd x -> Pass (cxOf (CX1 P w) P w K mg base N qual (defScope st) f cdv A outer s H E) H x) ->
 ∃ t, PSs2 (cxOf (CX1 P w) P w K mg base N qual (defScope st) f cdv A outer s H E) H (defBody st) t /\ t { nx := fun _ => Qd (.val .non), rt := fun r _ => Qd r } (start2 N ds)) : FnOk P w K mg base (CX1 P w) (k + 1) f fd ps (liftX K mg sp) := by
  obtain ⟨oc, od, kV, doc, pm, an, cdv, ct, osl, rfl, lk, hcd⟩ := F.ex; refine fn_of lk hcd S (fun vs H Q E h => ?_) (fun A outer s H vs Q E hr h => ?_)
  · obtain ⟨ds, Qd, Xd, r, h1, _⟩ := h
    rw [<- r.length]; exact len ds Qd Xd h1
  · obtain ⟨ds, Qd, Xd, r, h1, h2, h3⟩ := h
    obtain ⟨t, ht, q⟩ := hbody cdv A outer s H E hr ds Qd Xd h1 (fun x C hm xd => thr_of fun a H' sm => h3 x C a H' xd hm sm) fun x xd => pass_of fun C a H' hm sm => h3 x C a H' xd hm sm
    refine ⟨_, ht, start2 N ds, H, _, ?_, q, ⟨fun σ' H' δ' G' hs _ q => h2 _ H' (.val .non) ⟨hs.base.trans hs.sub, by simp only [Rep]⟩ q, fun v H' r' δ' ok q => h2 v H' r' ok.ok q, fun _ _ _ _ _ _ z => z.elim, fun _ _ _ _ _ _ z => z.elim⟩⟩; have e := Hs.start r (N.length - ds.length)
    show Hs K H (vs.map some ++ List.replicate (N.length - vs.length) none) _ H H
    rw [<- r.length]; exact e
section
variable {X : Cx} {H0 : Hp} {k : Nat} {f y c n xn : Str} {sp : SpX} {e : Expr} {es : List Expr} {tr : RA} {p np cpos epos hpos pos px : Pos} {b₀ : Stmt} {suite : List Stmt} {tb : Addr -> RS} {i j : Nat}
def rTryAsS (sp : SpX) (tr : RA) (j i : Nat) (c : Str) (tb : Addr -> RS) (E : Ends2) (δ : List Sl) : Prop := tr δ fun ds => sp ds (fun r => ∃ d, r = .val d /\ gSet j d δ E.nx) fun x => x = c /\ (∃ l, δ[i]? = some l /\ l.locked = false) /\
  ∀ ea, tb ea { nx := fun δ' => (∃ d, δ'[i]? = some (.fr d)) /\ E.nx ((δ'.set i (.fr .non)).set i .un), rt := fun _ _ => False } (δ.set i (.fr (.adr ea)))
theorem s_tryAsS (j i : Nat) (F : FnX X.prog X.w X.K X.mg X.base k f sp) (hr : Room k X.A) (ha : PA2 X.nox H0 (e :: es) tr) (m : Mat X c y) (hb : ∀ ea ob C, X.mg c = some (.ref C) -> ob.cls = .ref C -> PSs2 (markP X ea ob) H0 (b₀ :: suite) (tb ea)) (hN : X.N.Nodup) (hst : X.stack = X.env :: X.outer) (hf : X.env.frame = some X.env.locals)
 (hj : X.N[j]? = some xn := by rfl) (hxj : Loc X.env.scope xn := by first | exact Or.inl rfl | exact Or.inr rfl) (hfj : X.fn xn = true \/ X.env.scope.names.lookup xn = some .local := by first | exact .inl rfl | exact .inr rfl | assumption)
 (hi : X.N[i]? = some n := by rfl) (hk : X.env.scope.names.lookup n = some .local := by rfl)
 (hg : Gl X f := by rfl) (hgy : Gl X y := by rfl) (hdb : (f == ("__debug__" : Str)) = false := by decide) (hdy : (y == ("__debug__" : Str)) = false := by decide)
 (he : starEach (e :: es) X.env = (false, eval e X.env) :: starEach es X.env := by rfl) (hpl : (backTo cpos (starEach es X.env)).any (·.1) = false := by rfl) (hsw : swapsWith (.Call (.Name f p) (e :: es) [] cpos) (some (.Name xn px)) epos.line X.env = pure false := by rfl) :
 PS2 X H0 (.Try [.Assign [.Name xn px] (.Call (.Name f p) (e :: es) [] cpos) epos] [.ExceptHandler (some (.Name y np)) (some n) (b₀ :: suite) hpos] [] [] pos) (rTryAsS sp tr j i c tb) := by
  obtain ⟨fa, fd, ps, F, hm, hkp, hbi⟩ := F.ex; intro pins s σ H D I ⟨δ, G, E, hs, ht, g⟩; refine wpAny_Try_except (wpAny_execs_cons (wpAny_Assign_Name (wpAny_Call_Name_kw (ld_glob I hg hm ?_ hdb)) hsw))
  have hA : liftA X.K H0 tr σ H (fun vs H' => ∃ G' ds, Nx X.K H0 σ δ G H G' H' /\ Reps X.K G' ds vs /\ sp ds (fun r => ∃ d, r = .val d /\ gSet j d δ E.nx) fun x => x = c /\ (∃ l, δ[i]? = some l /\ l.locked = false) /\
    ∀ ea, tb ea { nx := fun δ' => (∃ d, δ'[i]? = some (.fr d)) /\ E.nx ((δ'.set i (.fr .non)).set i .un), rt := fun _ _ => False } (δ.set i (.fr (.adr ea)))) := ⟨δ, G, _, hs, ht, fun vs H' G' ds n r q => ⟨G', ds, n, r, q⟩⟩
  have hw := ha cpos pins s σ H _ (I.wish _) hA; refine PySem.W.callWith_K (h₀ := X.base) I.ok.mod.kin hkp (wpAny_mono hw (fun us s1 ⟨vs, H1, I1, r, G', ds, n, rd, q⟩ => ⟨I1.kIn, ?_⟩) fun _ _ z => z.elim) he hpl; refine run_fnX (X := X) F hr hbi n.hs I1.unwish r rd q (fun v G1 r u s' I2 rv own1 ok q2 => ?_) fun x ea s' xd fl => ?_
  · obtain ⟨d, rfl, q3⟩ := q2
    obtain ⟨n3, r3⟩ := n.hs.behind_val own1 ok; obtain ⟨l, el, nl, q4⟩ := gSet_of q3; refine store_ok I2 hN hj hxj rv (fun s2 I3 => ?_) hfj; obtain ⟨G4, h4, s4⟩ := n3.hs.put el nl r3; exact wpAny_execs_nil (wpAny_execs_nil ⟨_, _, I3, g.nx _ _ _ G4 h4 ((n.g.trans n3.g).trans s4) q4⟩)
  obtain ⟨rfl, ⟨l, hδ, hlk⟩, hb2⟩ := xd; obtain ⟨C, t, B, Gz, Hz, hm2, fly, _, inv⟩ := fl; obtain ⟨C', hm', mt⟩ := m; have hfr := I.ok.frames; rw [hst] at fly hfr; refine wpAny_looks_onW hfr hf fly fun h₄ hheld₄ hsm₄ => ?_
  refine wpAny_landsW hheld₄ fun h₅ hheld hsm₅' => ?_
  obtain ⟨I5, n5, _⟩ := inv h₅ hheld.1 (hsm₄.trans hsm₅'); obtain ⟨ob, hob, hobc⟩ := hheld.there; refine wpAny_handleBy_cons (codeAny_handlers_test (ld_glob (X := marked X ea) (Inv.mark I5 ea) hgy hm' ?_ hdy)) (by intro q; cases q)
  refine mt C hm2 _ { s' with heap := h₅ } ea ob _ _ I5.bk hob hobc (codeAny_handlers_suite_as ?_); refine lands_againW hheld fun h₆ hfl₆ hsm₆ => ?_
  obtain ⟨I6, n6, hn6⟩ := inv h₆ hfl₆.1 ((hsm₄.trans hsm₅').trans hsm₆); obtain ⟨oe, ws, hoe, hoec, hoed, _⟩ := hfl₆.first; have nofr : ea ∉ frs (X.env :: X.outer) := fun z => by
    obtain ⟨_, o2, q2, nd⟩ := hfl₆.2.2.1.mem z; have e2 : oe = o2 := Option.some.inj (hoe.symm.trans q2); exact nd ws (e2 ▸ hoed)
  have ne1 : ea ≠ X.env.locals := fun z => nofr (List.mem_filterMap.mpr ⟨X.env, List.mem_cons_self .., by rw [z]; exact hf⟩)
  have ne2 : ea ∉ X.fs := fun z => by
    obtain ⟨env, h1, h2⟩ := List.mem_filterMap.mp z; exact nofr (List.mem_filterMap.mpr ⟨env, List.mem_cons_of_mem _ h1, h2⟩)
  have IP := inv_markP I6 hoe hn6 ne1 ne2 (fun v z => by rw [hoed] at z; cases z); refine store_ok (X := markP X ea oe) (v := .ref ea) IP hN hi (.inl hk) rfl (fun s7 I7 => ?_) (.inr hk); obtain ⟨G7, hs7, sm7⟩ := n6.hs.put (d := .adr ea) (v := .ref ea) hδ hlk (by simp only [Rep])
  refine wpAny_mono (hb ea oe C hm2 hoec pins s7 _ Hz { nx := fun σ' H' => ∃ δ' G', Hs X.K H0 σ' δ' G' H' /\ Same G G' /\ (∃ d, δ'[i]? = some (.fr d)) /\ E.nx ((δ'.set i (.fr .non)).set i .un), rt := fun _ _ => False, bk := fun _ _ => False, ct := fun _ _ => False } I7
    ⟨_, G7, _, hs7, hb2 ea, ⟨fun σ' H' δ' G2 hs' sm q => ⟨δ', G2, hs', (((n.g.trans n6.g).trans sm7).trans sm), q⟩, fun v H' r' δ' _ z => z.elim, fun _ _ _ _ _ _ z => z.elim, fun _ _ _ _ _ _ z => z.elim⟩⟩) (fun fl s8 q8 => ?_) fun _ _ z => z.elim
  cases fl with
  | brk => obtain ⟨_, _, _, z⟩ := q8; exact z.elim
  | cont => obtain ⟨_, _, _, z⟩ := q8; exact z.elim
  | ret u => obtain ⟨_, _, _, _, _, z⟩ := q8; exact z.elim
  | next =>
    obtain ⟨σ8, H8, I8, δ8, G8, hs8, sm8, ⟨d8, e8⟩, q8⟩ := q8; have J8 := inv_unmarkP I.ok I8; have hi8 : i < δ8.length := (List.getElem?_eq_some_iff.mp e8).1; refine wpAny_bind (wpAny_bindName (store_ok (v := .non) J8 hN hi (.inl hk) rfl (fun s9 I9 => ?_) (.inr hk))); have hs9 := hs8.put0 (d := .non) (v := .non) e8 (fun z => z) (by simp only [Rep]); unfold unbindBehindTheSuite; refine wpAny_onRaise (unbind_ok (v := .non) I9 hN hi hk (List.getElem?_set_self (by rw [hs8.len]; exact hi8)) fun s10 I10 => ?_); exact ⟨_, _, I10, g.nx _ _ _ G8 (hs9.unset (d := .non) (List.getElem?_set_self hi8)) sm8 q8⟩
end
section
variable {X : Cx} {H0 : Hp} {k : Nat} {x : Str} {sp : Sp2} {p pos : Pos}
def rCall0 (sp : Sp2) (δ : List Sl) (Q : D -> Prop) : Prop := sp [] fun r => ∃ d, r = .val d /\ Q d
theorem e_call0 (F : Fn2 X.prog X.w X.K X.mg X.base k x sp) (hr : Room k X.A) (hg : Gl X x := by rfl) (hdb : (x == ("__debug__" : Str)) = false := by decide) : PE2 X H0 (.Call (.Name x p) [] [] pos) (rCall0 sp) := by
  obtain ⟨f, fd, ps, F, hm, hk, hb⟩ := F.ex; intro pins s σ H Q I ⟨δ, G, Qd, hs, ht, kk⟩; refine wpAny_Call_Name_kw (ld_glob I hg hm ?_ hdb); refine PySem.W.callWith_K0 I.kIn hk (run_fn2 (us := []) F hr hb hs I .nil Reps.nil ht fun v G1 r u s' I2 rv own1 ok q2 => ?_); obtain ⟨d, rfl, q⟩ := q2; obtain ⟨n2, r2⟩ := hs.behind_val own1 ok; exact ⟨v, _, I2, rv, kk v _ _ d n2 r2 q⟩
end
structure QE (X : Cx) (H0 : Hp) (e : Expr) (t : RE) : Prop where
  run : PE2 X H0 e t
structure QB (X : Cx) (H0 : Hp) (e : Expr) (t : RE) : Prop where
  run : PB2 X H0 e t
structure QN (X : Cx) (H0 : Hp) (e : Expr) (t : RE) : Prop where
  run : PN2 X H0 e t
structure QT (X : Cx) (H0 : Hp) (e : Expr) (t : RT) : Prop where
  run : PT2 X H0 e t
structure QW (X : Cx) (H0 : Hp) (e : Expr) (t : RT) : Prop where
  run : PW2 X H0 e t
structure QA (X : Cx) (H0 : Hp) (e : List Expr) (t : RA) : Prop where
  run : PA2 X H0 e t
structure QAB (X : Cx) (H0 : Hp) (e : List Expr) (t : RA) : Prop where
  run : PAB2 X H0 e t
structure QAL (X : Cx) (H0 : Hp) (i : Nat) (e : List Expr) (t : RA) : Prop where
  run : PAL X H0 i e t
structure QO (X : Cx) (H0 : Hp) (e : Option Expr) (t : RO) : Prop where
  run : PO2 X H0 e t
structure QS (X : Cx) (H0 : Hp) (e : Stmt) (t : RS) : Prop where
  run : PS2 X H0 e t
structure QSs (X : Cx) (H0 : Hp) (e : List Stmt) (t : RS) : Prop where
  run : PSs2 X H0 e t
structure QG (X : Cx) (H0 : Hp) (e : Expr) (t : RG) : Prop where
  run : PG2 X H0 e t
structure QGs (X : Cx) (H0 : Hp) (e : List Expr) (t : RGs) : Prop where
  run : PGs2 X H0 e t
structure QGp (X : Cx) (H0 : Hp) (nT : Nat) (e : Expr) (t : RGp) : Prop where
  run : PGp X H0 nT e t
structure QGsp (X : Cx) (H0 : Hp) (nT : Nat) (e : List Expr) (t : RGsp) : Prop where
  run : PGsp X H0 nT e t
structure QIf (X : Cx) (H0 : Hp) (e : List Expr) (t : RT) : Prop where
  run : PIf2 X H0 e t
namespace Wr
section
variable {K : PySem.W.Frag} {H0 : Hp} {σ : L2.St} {δ : List Sl} {G G' H H' : Hp} {d : D} {v : V}
end
section
variable {X : Cx} {H0 : Hp} {e a b c : Expr} {t ta tb tc : RE} {pos : Pos}
theorem PE2_bo (h : QE X H0 e t) : QB X H0 e t :=
  ⟨M.PE2.bo h.run⟩
theorem PN2_fx (h : QN X H0 e t) : QE X H0 e t :=
  ⟨M.PN2.fx h.run⟩
theorem PN2_bo (h : QN X H0 e t) : QB X H0 e t :=
  ⟨M.PN2.bo h.run⟩
theorem e_var (i : Nat) {x : Str} {pos : Pos} (hN : X.N[i]? = some x := by rfl) (hv : Vis X.env.scope x := by first | exact Or.inl rfl | exact Or.inr (Or.inl rfl) | exact Or.inr (Or.inr rfl)) (hd : (x == ("__debug__" : Str)) = false := by decide) (hcd : (x == ("__classdict__" : Str)) = false := by decide) : QE X H0 (.Name x pos) (rVar i) :=
  ⟨M.e_var i hN hv hd hcd⟩
theorem b_var (i : Nat) {x : Str} {pos : Pos} (hN : X.N[i]? = some x := by rfl) (hv : Vis X.env.scope x := by first | exact Or.inl rfl | exact Or.inr (Or.inl rfl) | exact Or.inr (Or.inr rfl)) (hd : (x == ("__debug__" : Str)) = false := by decide) (hcd : (x == ("__classdict__" : Str)) = false := by decide) : QB X H0 (.Name x pos) (rVarB i) :=
  ⟨M.b_var i hN hv hd hcd⟩
theorem e_int {i : Int} {j : Nat} {pos : Pos} : QE X H0 (.Constant (.int i) j pos) (rC (.int i)) :=
  ⟨M.e_int ⟩
theorem e_bl {b : Bool} {j : Nat} {pos : Pos} : QE X H0 (.Constant (.bool b) j pos) (rC (.bl b)) :=
  ⟨M.e_bl ⟩
theorem e_non {j : Nat} {pos : Pos} : QE X H0 (.Constant .none j pos) (rC .non) :=
  ⟨M.e_non ⟩
theorem e_str {x : Str} {j : Nat} {pos : Pos} : QE X H0 (.Constant (.str x) j pos) (rC (.str x)) :=
  ⟨M.e_str ⟩
theorem e_cmp {op : CmpOp} {r : R2} {r2 : D -> D -> (D -> Prop) -> Prop} (ho : OpR X (compareOp op) r) (lf : Lf2 X.K r r2) (ha : QB X H0 a ta) (hb : QB X H0 b tb) (hm : behindInMarks op b = false) : QE X H0 (.Compare a [op] [b] pos) (rOp r2 ta tb) :=
  ⟨M.e_cmp ho lf ha.run hb.run hm⟩
theorem t_cmp {op : CmpOp} {r : R2} {r2 : D -> D -> (D -> Prop) -> Prop} (ho : OpR X (compareOp op) r) (lf : Lf2 X.K r r2) (ha : QB X H0 a ta) (hb : QB X H0 b tb) (hm : behindInMarks op b = false) : QT X H0 (.Compare a [op] [b] pos) (rTest (rOp r2 ta tb)) :=
  ⟨M.t_cmp ho lf ha.run hb.run hm⟩
theorem e_add (ha : QB X H0 a ta) (hb : QB X H0 b tb) : QE X H0 (.BinOp a .Add b pos) (rOp (dI0 fun i j => .int (i + j)) ta tb) :=
  ⟨M.e_add ha.run hb.run⟩
theorem e_mul (ha : QB X H0 a ta) (hb : QB X H0 b tb) : QE X H0 (.BinOp a .Mult b pos) (rOp (dI CMul fun i j => .int (i * j)) ta tb) :=
  ⟨M.e_mul ha.run hb.run⟩
theorem e_fdiv (ha : QB X H0 a ta) (hb : QB X H0 b tb) : QE X H0 (.BinOp a .FloorDiv b pos) (rOp (dI CDv fun i j => .int (i / j)) ta tb) :=
  ⟨M.e_fdiv ha.run hb.run⟩
theorem e_mod (ha : QB X H0 a ta) (hb : QB X H0 b tb) : QE X H0 (.BinOp a .Mod b pos) (rOp (dI (fun _ j => 0 < j) fun i j => .int (i % j)) ta tb) :=
  ⟨M.e_mod ha.run hb.run⟩
theorem e_pow (ha : QB X H0 a ta) (hb : QB X H0 b tb) : QE X H0 (.BinOp a .Pow b pos) (rOp (dI CPow fun i j => .int (i ^ j.toNat)) ta tb) :=
  ⟨M.e_pow ha.run hb.run⟩
end
section
variable {X : Cx} {H0 : Hp} {e a b c : Expr} {t ta tb tc : RE} {u uA uB : RT} {pos : Pos} {rest : List Expr}
theorem PW2_pt (h : QW X H0 e u) : QT X H0 e u :=
  ⟨M.PW2.pt h.run⟩
theorem t_and1 (ha : QT X H0 a uA) : QW X H0 (.BoolOp .And [a] pos) uA :=
  ⟨M.t_and1 ha.run⟩
theorem t_or1 (ha : QT X H0 a uA) : QW X H0 (.BoolOp .Or [a] pos) uA :=
  ⟨M.t_or1 ha.run⟩
theorem t_and (ha : QT X H0 a uA) (hb : QW X H0 (.BoolOp .And (b :: rest) pos) uB) : QW X H0 (.BoolOp .And (a :: b :: rest) pos) (rAnd uA uB) :=
  ⟨M.t_and ha.run hb.run⟩
theorem t_or (ha : QT X H0 a uA) (hb : QW X H0 (.BoolOp .Or (b :: rest) pos) uB) : QW X H0 (.BoolOp .Or (a :: b :: rest) pos) (rOr uA uB) :=
  ⟨M.t_or ha.run hb.run⟩
theorem t_not (ha : QT X H0 a uA) : QT X H0 (.UnaryOp .Not a pos) (rNot uA) :=
  ⟨M.t_not ha.run⟩
theorem t_val (h : QE X H0 e t) (he : ∀ whole, isTrue e X.env whole = (do let v <- whole; standAt e.pos; holding [v] (truthy v)) := by intro _; rfl) : QT X H0 e (rTest t) :=
  ⟨M.t_val h.run he⟩
theorem e_one {op : BoolOp} (ha : QE X H0 a ta) : QE X H0 (.BoolOp op [a] pos) ta :=
  ⟨M.e_one ha.run⟩
theorem e_and (ha : QE X H0 a ta) (hb : QE X H0 (.BoolOp .And (b :: rest) pos) tb) : QE X H0 (.BoolOp .And (a :: b :: rest) pos) (rAndV ta tb) :=
  ⟨M.e_and ha.run hb.run⟩
theorem e_or (ha : QE X H0 a ta) (hb : QE X H0 (.BoolOp .Or (b :: rest) pos) tb) : QE X H0 (.BoolOp .Or (a :: b :: rest) pos) (rOrV ta tb) :=
  ⟨M.e_or ha.run hb.run⟩
theorem e_not (ha : QE X H0 a ta) : QE X H0 (.UnaryOp .Not a pos) (rNotV ta) :=
  ⟨M.e_not ha.run⟩
theorem e_ifExp (hc : QT X H0 c u) (ha : QE X H0 a ta) (hb : QE X H0 b tb) : QE X H0 (.IfExp c a b pos) (rIfE u ta tb) :=
  ⟨M.e_ifExp hc.run ha.run hb.run⟩
theorem e_neg (ha : QB X H0 a ta) : QE X H0 (.UnaryOp .USub a pos) (rNeg ta) :=
  ⟨M.e_neg ha.run⟩
variable {es : List Expr} {tr : RA}
theorem a_nil  : QA X H0 [] rNil :=
  ⟨M.a_nil ⟩
theorem a_cons (ha : QE X H0 e t) (hr : QA X H0 es tr) (hs : starEach (e :: es) X.env = (false, eval e X.env) :: starEach es X.env := by rfl) : QA X H0 (e :: es) (rCons t tr) :=
  ⟨M.a_cons ha.run hr.run hs⟩
theorem e_tup {x1} (h : QA X H0 es tr) : QE X H0 (.Tuple es x1 pos) (rTupD tr) :=
  ⟨M.e_tup h.run⟩
theorem n_lst (h : QA X H0 es tr) : QN X H0 (.List es pos) (rLstD tr) :=
  ⟨M.n_lst h.run⟩
theorem e_ix (ha : QB X H0 a ta) (hb : QB X H0 b tb) (hp : PlainIx b := by intro _ _; rfl) : QE X H0 (.Subscript a b pos) (rOp dIx ta tb) :=
  ⟨M.e_ix ha.run hb.run hp⟩
theorem o_none  : QO X H0 none (fun _ Q => Q none) :=
  ⟨M.o_none ⟩
theorem o_some (h : QB X H0 e t) : QO X H0 (some e) (rPart t) :=
  ⟨M.o_some h.run⟩
variable {lo hi : Option Expr} {tl th : RO} {p2 : Pos}
theorem n_slL (he : QB X H0 e t) (hl : QO X H0 lo tl) (hu : QO X H0 hi th) : QN X H0 (.Subscript e (.Slice lo hi none p2) pos) (rSlL2 t tl th) :=
  ⟨M.n_slL he.run hl.run hu.run⟩
end
section
variable {X : Cx} {H0 : Hp} {e : Expr} {t : RE} {lo hi : Option Expr} {tl th : RO} {p2 pos : Pos}
theorem e_slT (he : QB X H0 e t) (hl : QO X H0 lo tl) (hu : QO X H0 hi th) : QE X H0 (.Subscript e (.Slice lo hi none p2) pos) (rCutT t tl th) :=
  ⟨M.e_slT he.run hl.run hu.run⟩
end
section
variable {X : Cx} {H0 : Hp} {e tg : Expr} {te : RE} {st : Stmt} {rest b1 b2 : List Stmt} {t u : RS} {c : Expr} {tc : RT} {pos pos' : Pos} {x : Str}
theorem s_nil  : QSs X H0 [] rNext :=
  ⟨M.s_nil ⟩
theorem s_cons (h1 : QS X H0 st t) (h2 : QSs X H0 rest u) : QSs X H0 (st :: rest) (rSeq t u) :=
  ⟨M.s_cons h1.run h2.run⟩
theorem s_one (h1 : QS X H0 st t) : QSs X H0 [st] t :=
  ⟨M.s_one h1.run⟩
theorem s_ret (he : QE X H0 e te) : QS X H0 (.Return (some e) pos) (rRet te) :=
  ⟨M.s_ret he.run⟩
theorem s_retO (i : Nat) (hN : X.N[i]? = some x := by rfl) (hv : Vis X.env.scope x := by first | exact Or.inl rfl | exact Or.inr (Or.inl rfl) | exact Or.inr (Or.inr rfl)) (hd : (x == ("__debug__" : Str)) = false := by decide) (hcd : (x == ("__classdict__" : Str)) = false := by decide) : QS X H0 (.Return (some (.Name x pos')) pos) (rRetO i) :=
  ⟨M.s_retO i hN hv hd hcd⟩
theorem s_if (hc : QT X H0 c tc) (ha : QSs X H0 b1 t) (hb : QSs X H0 b2 u) : QS X H0 (.If c b1 b2 pos) (rIf tc t u) :=
  ⟨M.s_if hc.run ha.run hb.run⟩
theorem g_name (i : Nat) (hN : X.N.Nodup) (hi : X.N[i]? = some x := by rfl) (hx : Loc X.env.scope x := by first | exact Or.inl rfl | exact Or.inr rfl) (hf : X.fn x = true \/ X.env.scope.names.lookup x = some .local := by first | exact .inl rfl | exact .inr rfl | assumption) : QG X H0 (.Name x pos) (gSet i) :=
  ⟨M.g_name i hN hi hx hf⟩
theorem s_set (i : Nat) (hN : X.N.Nodup) (he : QE X H0 e te) (hi : X.N[i]? = some x := by rfl) (hx : Loc X.env.scope x := by first | exact Or.inl rfl | exact Or.inr rfl) (hs : swapsWith e (some (.Name x pos')) pos.line X.env = pure false := by rfl) (hf : X.fn x = true \/ X.env.scope.names.lookup x = some .local := by first | exact .inl rfl | exact .inr rfl | assumption) : QS X H0 (.Assign [.Name x pos'] e pos) (rSet i te) :=
  ⟨M.s_set i hN he.run hi hx hs hf⟩
theorem s_setN (i : Nat) (hN : X.N.Nodup) (he : QN X H0 e te) (hi : X.N[i]? = some x := by rfl) (hx : Loc X.env.scope x := by first | exact Or.inl rfl | exact Or.inr rfl) (hs : swapsWith e (some (.Name x pos')) pos.line X.env = pure false := by rfl) (hf : X.fn x = true \/ X.env.scope.names.lookup x = some .local := by first | exact .inl rfl | exact .inr rfl | assumption) : QS X H0 (.Assign [.Name x pos'] e pos) (rSetN i te) :=
  ⟨M.s_setN i hN he.run hi hx hs hf⟩
theorem gs_nil  : QGs X H0 [] gNil2 :=
  ⟨M.gs_nil ⟩
variable {es : List Expr} {g : RG} {gs : RGs}
theorem gs_cons (h1 : QG X H0 e g) (h2 : QGs X H0 es gs) (hs : (assignEach (e :: es) X.env).map (·.2) = assign e X.env :: (assignEach es X.env).map (·.2) := by rfl) : QGs X H0 (e :: es) (gCons2 g gs) :=
  ⟨M.gs_cons h1.run h2.run hs⟩
theorem g_tup {n k : Nat} (hc : X.calm = true) (h : QGs X H0 es gs) (hn : (assignEach es X.env).length = n := by rfl) (hst : (assignEach es X.env).findIdx? (·.1) = none := by rfl) : QG X H0 (.Tuple es k pos) (gTup2 n gs) :=
  ⟨M.g_tup hc h.run hn hst⟩
theorem s_asg (he : QE X H0 e te) (hg : QG X H0 tg g) (hs : swapsWithSole [tg] e pos.line X.env = pure false := by rfl) (hw : swappedStores [tg] e X.env = pure none := by rfl) (h1 : (assignEach [tg] X.env).map (·.2) = [assign tg X.env] := by rfl) : QS X H0 (.Assign [tg] e pos) (rAsg te g) :=
  ⟨M.s_asg he.run hg.run hs hw h1⟩
variable {iter : Expr} {body : List Stmt} {tb : RS}
theorem s_forT (hp : PassesOwn (model X.prog X.w) X.A X.env X.xe) (hc : X.calm = true) (hi : QE X H0 iter te) (hg : QG X H0 tg g) (hb : QSs X H0 body tb) (hs : ∀ x, foldedSetIterable iter X.env x = pure x := by intro _; rfl) : QS X H0 (.For tg iter body [] pos) (rForT te g tb) :=
  ⟨M.s_forT hp hc hi.run hg.run hb.run hs⟩
end
section
variable {X : Cx} {H0 : Hp} {e tg : Expr} {te : RE} {st : Stmt} {pos pos' : Pos} {x : Str} {es : List Expr} {g : RG} {gs : RGs} {iter : Expr} {body : List Stmt} {tb : RS}
variable {tr : RA} {a1 a2 : Expr}
end
section
variable {P : Program} {w : World} {K : PySem.W.Frag} {mg : Str -> Option Value} {base : Heap}
theorem fun_ok {x qual : Str} {st : Stmt} {f : Addr} {fd : FuncData} {N ps : List Str} {k : Nat} {sp : Sp2} (F : Fun K x qual st f fd) (S : FnScope N ps (defScope st)) (len : ∀ ds Qd, sp ds Qd -> ds.length = ps.length) (hbody : ∀ (cdv : Value) (A : Around) (outer : List Env) (s : Shared) (H : Hp) (E : XK), Room k (A.deeper (envOfC qual (defScope st) s.heap.objs.size f cdv)) -> ∀ ds Qd, sp ds Qd ->
 ∃ t, QSs (cxOf CX0 P w K mg base N qual (defScope st) f cdv A outer s H E).nox H (defBody st) t /\ t { nx := fun _ => Qd (.val .non), rt := fun r _ => Qd r } (start2 N ds)) : FnOk P w K mg base CX0 (k + 1) f fd ps (liftSp K sp) :=
  M.fun_ok F S len fun cdv A outer s H E hr ds Qd h => let ⟨t, a, b⟩ := hbody cdv A outer s H E hr ds Qd h; ⟨t, a.run, b⟩
end
section
variable {X : Cx} {H0 : Hp} {pins : List (Addr × Obj)} {σ : L2.St} {δ : List Sl} {G H : Hp} {s : Shared}
end
section
variable {X : Cx} {H0 : Hp} {k : Nat} {x : Str} {sp : Sp2} {e : Expr} {es : List Expr} {tr : RA} {p pos : Pos}
theorem e_call (F : Fn2 X.prog X.w X.K X.mg X.base k x sp) (hr : Room k X.A) (ha : QA X H0 (e :: es) tr) (hg : Gl X x := by rfl) (hdb : (x == ("__debug__" : Str)) = false := by decide) (he : starEach (e :: es) X.env = (false, eval e X.env) :: starEach es X.env := by rfl) (hpl : (backTo pos (starEach es X.env)).any (·.1) = false := by rfl) : QE X H0 (.Call (.Name x p) (e :: es) [] pos) (rCall sp tr) :=
  ⟨M.e_call F hr ha.run hg hdb he hpl⟩
end
section
variable {prog : Program} {w : World} {A : Around} {E : Value -> Shared -> Prop}
end
section
variable {X : Cx} {H0 : Hp} {es : List Expr} {gs : RGs} {pos : Pos}
theorem g_lst {n k : Nat} (hc : X.calm = true) (h : QGs X H0 es gs) (hn : (assignEach es X.env).length = n := by rfl) (hst : (assignEach es X.env).findIdx? (·.1) = none := by rfl) : QG X H0 (.Tuple es k pos) (gLst2 n gs) :=
  ⟨M.g_lst hc h.run hn hst⟩
end
section
variable {X : Cx} {H0 : Hp}
variable {ts : List Expr} {k : Nat} {tp p pos pos2 : Pos} {a : Expr} {tr : RA} {g : RG} {tb : RS} {body : List Stmt}
theorem s_forE (hp : PassesOwn (model X.prog X.w) X.A X.env X.xe) (hc : X.calm = true) (hgl : Gl X "enumerate") (hm : X.mg "enumerate" = none) (ha : QA X H0 [a] tr) (hg : QG X H0 (.Tuple ts k tp) g) (hb : QSs X H0 body tb) (hst : starEach [a] X.env = [(false, eval a X.env)] := by rfl) (hs : ∀ x, foldedSetIterable (.Call (.Name "enumerate" p) [a] [] pos2) X.env x = pure x := by intro _; rfl) : QS X H0 (.For (.Tuple ts k tp) (.Call (.Name "enumerate" p) [a] [] pos2) body [] pos) (rForE tr g tb) :=
  ⟨M.s_forE hp hc hgl hm ha.run hg.run hb.run hst hs⟩
end
section
variable {X : Cx} {H0 : Hp} {e : Expr} {t : RE} {pos p : Pos} {es : List Expr} {tr : RA} {x : Str} {id T : String}
theorem ab_nil  : QAB X H0 [] rNil :=
  ⟨M.ab_nil ⟩
theorem ab_cons (ha : QB X H0 e t) (hr : QAB X H0 es tr) (hs : starEach (e :: es) X.env = (false, eval e X.env) :: starEach es X.env := by rfl) : QAB X H0 (e :: es) (rCons t tr) :=
  ⟨M.ab_cons ha.run hr.run hs⟩
variable {r : List V -> Hp -> VK -> Prop} {r2 : List D -> (D -> Prop) -> Prop}
theorem e_len (hm : X.mg "len" = none) (ha : QAB X H0 (e :: es) tr) (hg : Gl X "len" := by rfl) (he : starEach (e :: es) X.env = (false, eval e X.env) :: starEach es X.env := by rfl) (hpl : (backTo pos (starEach es X.env)).any (·.1) = false := by rfl) : QE X H0 (.Call (.Name "len" p) (e :: es) [] pos) (rCB dLen tr) :=
  ⟨M.e_len hm ha.run hg he hpl⟩
end
section
variable {X : Cx} {H0 : Hp} {e : Expr} {t : RE} {pos cpos apos p : Pos} {x : Str}
theorem s_app (i : Nat) (he : QE X H0 e t) (hN : X.N[i]? = some x := by rfl) (hv : Vis X.env.scope x := by first | exact Or.inl rfl | exact Or.inr (Or.inl rfl) | exact Or.inr (Or.inr rfl)) (hd : (x == ("__debug__" : Str)) = false := by decide) (hcd : (x == ("__classdict__" : Str)) = false := by decide) (hbase : attributeBase (.Name x p) "append" X.env (eval (.Name x p) X.env) = eval (.Name x p) X.env := by rfl) (hfew : ((backTo cpos (starEach [e] X.env)).all (fun x => !x.1) && (backToKw cpos (keywordEach [] X.env)).all (fun x => x.1.isSome)
 && decide ([e].length + ([] : List Keyword).length + (if ([] : List Keyword).isEmpty then 0 else 1) < 30)) = true := by rfl) (hline : (apos.endLine == cpos.line) = true := by rfl) (hs : starEach [e] X.env = (false, eval e X.env) :: starEach [] X.env := by rfl) (hplain : (backTo cpos (starEach [] X.env)).any (·.1) = false := by rfl) (hsw : swapsWith (.Call (.Attribute (.Name x p) "append" apos) [e] [] cpos) none pos.line X.env = pure false := by rfl) : QS X H0 (.Expr (.Call (.Attribute (.Name x p) "append" apos) [e] [] cpos) pos) (rApp i t) :=
  ⟨M.s_app i he.run hN hv hd hcd hbase hfew hline hs hplain hsw⟩
end
section
variable {X : Cx} {H0 : Hp} {e : Expr} {t : RE} {pos p p2 : Pos} {T : String} {x : Str}
theorem e_isi (k : KindOk X.K T) (hm : X.mg "isinstance" = none) (hm2 : X.mg x = none) (ha : QB X H0 e t) (hv : bootBuiltins x = some (.type T) := by rfl) (hg : Gl X "isinstance" := by rfl) (hg2 : Gl X x := by rfl) (hn : x ≠ "__name__" := by decide) (hdb : (x == ("__debug__" : Str)) = false := by decide) (he : starEach (e :: [.Name x p2]) X.env = (false, eval e X.env) :: starEach [.Name x p2] X.env := by rfl) (he2 : starEach [.Name x p2] X.env = (false, eval (.Name x p2) X.env) :: starEach [] X.env := by rfl) (hpl : (backTo pos (starEach [.Name x p2] X.env)).any (·.1) = false := by rfl) : QE X H0 (.Call (.Name "isinstance" p) [e, .Name x p2] [] pos) (rIsi T t) :=
  ⟨M.e_isi k hm hm2 ha.run hv hg hg2 hn hdb he he2 hpl⟩
end
section
variable {X : Cx} {H0 : Hp} {e : Expr} {es : List Expr} {tr : RA} {pos p : Pos}
end
section
variable {X : Cx} {H0 : Hp} {e : Expr} {te : RE} {pos pos' : Pos} {x : Str}
end
section
variable {X : Cx} {H0 : Hp} {a b e f value o : Expr} {ta tb te tf : RE} {pos pos' apos cpos p : Pos} {x : Str}
variable {es : List Expr} {tr : RA}
end
section
variable {X : Cx} {H0 : Hp} {c : Expr} {body : List Stmt} {tc : RT} {tb : RS} {pos : Pos}
end
section
variable {K : PySem.W.Frag} {H0 : Hp} {σ : L2.St} {δ : List Sl} {G H : Hp}
end
section
variable {P : Program} {w : World} {K : PySem.W.Frag} {mg : Str -> Option Value} {base : Heap}
end
section
variable {X : Cx} {H0 : Hp} {pins : List (Addr × Obj)} {σ : L2.St} {δ : List Sl} {G H : Hp} {s : Shared}
end
section
variable {X : Cx} {H0 : Hp} {k : Nat} {x : Str} {sp : Sp3} {e : Expr} {es : List Expr} {t : RE} {tr : RA} {p pos : Pos} {i : Nat}
variable {tg : Expr} {g : RG}
end
section
variable {K : PySem.W.Frag} {H0 : Hp} {σ : L2.St} {δ : List Sl} {G H H' : Hp}
end
section
variable {X : Cx} {H0 : Hp} {k : Nat} {fx : Str} {sp : Sp2} {e : Expr} {te : RE} {p p2 pos kp : Pos} {S : SR}
end
section
variable {X : Cx} {H0 : Hp} {a b e : Expr} {ta tb : RE} {pos : Pos}
theorem n_cat (ha : QB X H0 a ta) (hb : QB X H0 b tb) : QN X H0 (.BinOp a .Add b pos) (rCat2 ta tb) :=
  ⟨M.n_cat ha.run hb.run⟩
variable {x : Str} {p apos cpos : Pos}
end
section
variable {prog : Program} {w : World} {A : Around} {E : Value -> Shared -> Prop} {s : Shared}
end
section
variable {X : Cx} {pins : List (Addr × Obj)} {σ : L2.St} {H : Hp} {s : Shared}
end
section
variable {X : Cx} {H0 : Hp} {e : Expr} {es : List Expr} {tr : RA} {pos p : Pos}
end
section
variable {K : PySem.W.Frag} {H0 : Hp} {σ : L2.St} {δ : List Sl} {G H : Hp}
end
section
variable {X : Cx} {H0 : Hp} {tg : Expr} {g : RG} {body : List Stmt} {tb : RS} {pos p : Pos} {x : Str}
end
section
variable {X : Cx} {pins : List (Addr × Obj)} {σ : L2.St} {H : Hp} {s : Shared} {h' : Heap}
end
section
variable {X : Cx} {H0 : Hp}
variable {ts : List Expr} {k : Nat} {tp p pos pos2 : Pos} {a b : Expr} {tr : RA} {g : RG} {tb : RS} {body : List Stmt}
end
section
variable {X : Cx} {H0 : Hp} {pins : List (Addr × Obj)} {σ : L2.St} {H : Hp} {s : Shared}
variable {e : Expr} {es : List Expr} {tr : RA} {p pos : Pos}
variable {k i : Nat} {x : Str} {sp : Sp3} {b1 b2 : List Stmt} {t u : RS} {p2 p3 p4 : Pos}
end
section
variable {K : PySem.W.Frag} {H0 : Hp} {σ : L2.St} {δ : List Sl} {G H : Hp}
end
section
variable {X : Cx} {H0 : Hp} {nT : Nat} {x : Str} {pos : Pos} {e : Expr} {es : List Expr}
variable {g : RGp} {gs : RGsp}
variable {target iter elt : Expr} {ifs : List Expr} {scope : Scope} {N' : List Str} {te tel : RE} {tc : RT}
end
section
variable {X : Cx} {H0 : Hp} {nT : Nat} {pos : Pos} {g : RGp} {target iter elt : Expr} {ifs : List Expr} {scope : Scope} {N' : List Str} {te tel : RE} {tc : RT}
end
section
variable {X : Cx} {H0 : Hp} {nT : Nat} {pos : Pos} {g : RGp} {target iter kx vx : Expr} {ifs : List Expr} {scope : Scope} {N' : List Str} {te tk tv : RE} {tc : RT}
end
section
variable {X : Cx} {H0 : Hp} {o e : Expr} {ta te : RE} {apos cpos : Pos}
end
section
variable {X : Cx} {scope : Scope} {N' : List Str} {target iter kx vx : Expr} {ifs : List Expr} {pos : Pos} {g : TG} {tc : TT} {tk tv : TE} {nT : Nat} {wi : TI}
end
section
variable {X : Cx} {H0 : Hp} {nT : Nat} {pos : Pos} {g : RGp} {target iter kx vx : Expr} {ifs : List Expr} {scope : Scope} {N' : List Str} {te tk tv : RE} {tc : RT}
end
section
variable {X : Cx} {H0 : Hp} {a b : Expr} {p p2 pos pos2 : Pos}
end
section
variable {K : PySem.W.Frag} {H0 : Hp} {σ : L2.St} {δ : List Sl} {G H G1 H1 : Hp} {i : Nat} {d : D} {p : Addr}
end
section
variable {X : Cx} {H0 : Hp} {e : Expr} {t : RE} {u : RT}
end
section
variable {X : Cx} {H0 : Hp} {x y : Str} {pos p1 p2 p3 : Pos} {k : Nat}
variable {f : Str} {sp : Sp2} {e : Expr} {es : List Expr} {tr : RA} {p : Pos}
end
section
variable {X : Cx} {pins : List (Addr × Obj)} {σ : L2.St} {H : Hp} {s : Shared} {a : Addr} {kws : List (Key × V)} {ob : Obj}
end
section
variable {X : Cx} {tg : Expr}
end
section
variable {X : Cx} {H0 : Hp} {tg : Expr} {g : RG} {body : List Stmt} {tb : RS} {pos p : Pos} {x : Str}
end
section
variable {prog : Program} {w : World} {A : Around} {E : Value -> Shared -> Prop} {s : Shared}
end
section
variable {X : Cx} {H0 : Hp} {e : Expr} {es : List Expr} {tr : RA} {pos p : Pos}
end
section
variable {X : Cx} {H0 : Hp} {e value : Expr} {te tv : RE} {pos pos' cpos apos p : Pos} {x : Str}
theorem s_lput (i : Nat) (hk : QE X H0 e te) (hv : QE X H0 value tv) (hN : X.N[i]? = some x := by rfl) (hvs : Vis X.env.scope x := by first | exact Or.inl rfl | exact Or.inr (Or.inl rfl) | exact Or.inr (Or.inr rfl)) (hd : (x == ("__debug__" : Str)) = false := by decide) (hcd : (x == ("__classdict__" : Str)) = false := by decide) (hs : swapsWith value (some (.Subscript (.Name x p) e pos')) pos.line X.env = pure false := by rfl) : QS X H0 (.Assign [.Subscript (.Name x p) e pos'] value pos) (rLPut i te tv) :=
  ⟨M.s_lput i hk.run hv.run hN hvs hd hcd hs⟩
end
section
variable {X : Cx} {H0 : Hp} {ts : List Expr} {k : Nat} {tp p p2 pos pos2 : Pos} {a : Expr} {ta : RE} {g : RG} {tb : RS} {body : List Stmt} {x : Str}
end
section
variable {K : PySem.W.Frag} {H0 : Hp} {σ : L2.St} {δ : List Sl} {G H : Hp}
end
section
variable {X : Cx} {H0 : Hp} {e e1 e2 : Expr} {t t1 t2 : RE} {pos p1 p3 : Pos} {k3 : Nat} {x : Str}
end
section
variable {X : Cx} {H0 : Hp} {f x : Str} {sp : Sp2} {e : Expr} {es : List Expr} {tr : RA} {k : Nat} {p p1 pos p5 : Pos}
end
section
variable {K : PySem.W.Frag} {H0 : Hp} {σ : L2.St} {δ : List Sl} {G H : Hp} {i k g : Nat} {q : Addr} {ds : List D} {y : D}
end
section
variable {X : Cx} {H0 : Hp} {e : Expr} {t : RE} {u : RT}
end
section
variable {X : Cx} {H0 : Hp} {e : Expr} {te : RE} {pos cpos apos p ps pk : Pos} {x : Str} {kc : Nat}
end
section
variable {X : Cx} {H0 : Hp} {f x : Str} {sp : Sp2} {e : Expr} {es : List Expr} {tr : RA} {k : Nat} {p p1 pos p5 : Pos}
end
section
variable {X : Cx} {H0 : Hp} {e a : Expr} {te ta : RE} {pos pos' cpos apos p p2 p3 p4 p5 p6 : Pos} {x f : Str} {j : Nat}
end
end Wr
end M
namespace My
open PySem L2 M
def top (i : Nat) : Stmt := PySem.Challenge.pw_feastfall_k36_texts_that_write_no_order.main.body.getD i (.Pass ⟨0, 0, 0, 0⟩)
abbrev Z1b : Stmt := top 10
abbrev Z1p : List Str := ["text", "figures"]
theorem Z1d : FnScope Z1p ["text"] (defScope Z1b) := ⟨rfl, rfl, rfl, by decide +kernel, rfl, by decide +kernel, by decide +kernel⟩
abbrev Z1v : Stmt := top 11
abbrev Z1z : List Str := ["text", "sort"]
theorem Z1u : FnScope Z1z ["text", "sort"] (defScope Z1v) := ⟨rfl, rfl, rfl, by decide +kernel, rfl, by decide +kernel, by decide +kernel⟩
abbrev Zo : Stmt := top 12
abbrev Z12 : List Str := ["texts", "sorts", "parts", "text", "sort"]
theorem Zq : FnScope Z12 ["texts", "sorts"] (defScope Zo) := ⟨rfl, rfl, rfl, by decide +kernel, rfl, by decide +kernel, by decide +kernel⟩
abbrev Z1x : Stmt := top 13
abbrev Z23 : List Str := ["text", "word", "texts"]
theorem Z1w : FnScope Z23 ["text"] (defScope Z1x) := ⟨rfl, rfl, rfl, by decide +kernel, rfl, by decide +kernel, by decide +kernel⟩
abbrev Z10 : Stmt := top 15
abbrev Z1n : List Str := ["_law_script", "_law_place"]
theorem Z11 : FnScope Z1n ["_law_script", "_law_place"] (defScope Z10) := ⟨rfl, rfl, rfl, by decide +kernel, rfl, by decide +kernel, by decide +kernel⟩
abbrev Z1e : Stmt := top 16
abbrev Z1q : List Str := ["_law_cell_here", "_law_one", "_law_two"]
theorem Z19 : FnScope Z1q ["_law_cell_here"] (defScope Z1e) := ⟨rfl, rfl, rfl, by decide +kernel, rfl, by decide +kernel, by decide +kernel⟩
abbrev Zb : Stmt := top 17
abbrev Zr : List Str := ["_law_cell_here", "_law_sizes", "_law_rest", "_law_found", "_law_k", "_law_size"]
theorem Zd : FnScope Zr ["_law_cell_here", "_law_sizes"] (defScope Zb) := ⟨rfl, rfl, rfl, by decide +kernel, rfl, by decide +kernel, by decide +kernel⟩
abbrev Zp : Stmt := top 18
abbrev Z1i : List Str := ["_law_thing"]
theorem Zy : FnScope Z1i ["_law_thing"] (defScope Zp) := ⟨rfl, rfl, rfl, by decide +kernel, rfl, by decide +kernel, by decide +kernel⟩
abbrev Zv : Stmt := top 19
abbrev Z17 : List Str := ["_law_cell_here", "_law_near", "_law_drawn", "_law_what", "_law_way", "_law_rule", "_law_a", "_law_b", "_law_c", "_law_d", "_law_sign", "_law_e", "_law_length", "_law_far", "_law_name", "_law_sort"]
theorem Zs : FnScope Z17 ["_law_cell_here", "_law_near"] (defScope Zv) := ⟨rfl, rfl, rfl, by decide +kernel, rfl, by decide +kernel, by decide +kernel⟩
abbrev Z2 : Stmt := top 20
abbrev Z4 : List Str := ["_law_found", "_law_part"]
theorem Z3 : FnScope Z4 ["_law_found"] (defScope Z2) := ⟨rfl, rfl, rfl, by decide +kernel, rfl, by decide +kernel, by decide +kernel⟩
abbrev Zm : Stmt := top 21
abbrev Z18 : List Str := ["_law_some"]
theorem Zl : FnScope Z18 [] (defScope Zm) := ⟨rfl, rfl, rfl, by decide +kernel, rfl, by decide +kernel, by decide +kernel⟩
abbrev Z7 : Stmt := top 22
abbrev Zg : List Str := ["_law_text", "_law_cell_here", "_law_what", "_law_place", "_law_sign", "_law_other", "_law_word", "_law_signs_here", "_law_parts", "_law_at", "_law_one", "_law_two", "_law_kept", "_law_some"]
theorem Z8 : FnScope Zg ["_law_text", "_law_cell_here"] (defScope Z7) := ⟨rfl, rfl, rfl, by decide +kernel, rfl, by decide +kernel, by decide +kernel⟩
abbrev Za : Stmt := top 23
abbrev Zw : List Str := ["_law_word", "_law_figures", "_law_sign"]
theorem Zc : FnScope Zw ["_law_word"] (defScope Za) := ⟨rfl, rfl, rfl, by decide +kernel, rfl, by decide +kernel, by decide +kernel⟩
abbrev Z1f : Stmt := top 24
abbrev Z1j : List Str := ["_law_name", "_law_names", "_law_forms"]
theorem Z14 : FnScope Z1j ["_law_name"] (defScope Z1f) := ⟨rfl, rfl, rfl, by decide +kernel, rfl, by decide +kernel, by decide +kernel⟩
abbrev Z1o : Stmt := top 25
abbrev Z1r : List Str := ["_law_text", "_law_parts", "_law_form_here", "_law_order_here", "_law_sign", "_law_part", "_law_some"]
theorem Z1k : FnScope Z1r ["_law_text"] (defScope Z1o) := ⟨rfl, rfl, rfl, by decide +kernel, rfl, by decide +kernel, by decide +kernel⟩
abbrev Z1y : Stmt := top 26
abbrev Z24 : List Str := ["_law_script", "_law_order_here", "_law_text", "_law_part", "_law_found", "_law_caught", "_law_due_here", "_law_e"]
theorem Z22 : FnScope Z24 ["_law_script"] (defScope Z1y) := ⟨rfl, rfl, rfl, by decide +kernel, rfl, by decide +kernel, by decide +kernel⟩
def Z13 : Sp2 := fun ds Q => ∃ c : Int, ds = [.int c] /\ ∀ v : Int, Q (.val (.int v))
def Z1h : Sp2 := fun ds Q => ∃ (ns : List Int) (i : Int), ds = [.lst (ns.map D.int), .int i] /\ 0 <= i /\ ∀ v : Int, Q (.val (.int v))
def Zh : Sp2 := fun ds Q => ∃ (c : Int) (sizes : List Int), ds = [.int c, .lst (sizes.map D.int)] /\ (∀ s ∈ sizes, 0 < s /\ s < 2 ^ 200) /\ sizes.length <= 100 /\ ∀ out, Drawn out sizes -> Q (.new (.lst (out.map D.int)))
section
variable {P : Program} {w : World} {K : PySem.W.Frag} {mg : Str -> Option Value} {base : Heap}
theorem Zz {f : Addr} {fd : FuncData} (F : Fun K "_law_cell" "_law_cell" Z10 f fd)  (z_len : mg "len" = none)  : FnOk P w K mg base CX0 (0 + 1) f fd ["_law_script", "_law_place"] (liftSp K Z1h) := by
  refine Wr.fun_ok F Z11 (by rintro ds Qd ⟨ns, i, rfl, _⟩; rfl) (fun cdv A outer s H E hr ds Qd h => ?_); obtain ⟨ns, i, rfl, hi, q⟩ := h; obtain ⟨n, rfl⟩ := Int.eq_ofNat_of_zero_le hi
  refine ⟨_, (Wr.s_cons (Wr.s_if (Wr.t_cmp op_lt lf_lt (Wr.b_var 1) (Wr.PE2_bo (Wr.e_len z_len (Wr.ab_cons (Wr.b_var 0) Wr.ab_nil))) (nomark _)) (Wr.s_one (Wr.s_ret (Wr.e_ix (Wr.b_var 0) (Wr.b_var 1))))
      Wr.s_nil) (Wr.s_one (Wr.s_ret (Wr.e_int)))), ?_⟩
  exact if_p (p := (n : Int) < ((ns.map D.int).length : Int)) (fun Q q => q) (fun hlt => ⟨_, atI_map (by rw [List.length_map] at hlt; omega), q _⟩) (fun _ => q _)
theorem Z1a {f : Addr} {fd : FuncData} (F : Fun K "_law_seed" "_law_seed" Z1e f fd)   : FnOk P w K mg base CX0 (0 + 1) f fd ["_law_cell_here"] (liftSp K Z13) := by
  refine Wr.fun_ok F Z19 (by rintro ds Qd ⟨c, rfl, _⟩; rfl) (fun cdv A outer s H E hr ds Qd h => ?_); obtain ⟨c, rfl, q⟩ := h
  refine ⟨_, (Wr.s_cons (Wr.s_if (Wr.t_cmp op_ge lf_ge (Wr.b_var 0) (Wr.PE2_bo (Wr.e_pow (Wr.PE2_bo (Wr.e_int)) (Wr.PE2_bo (Wr.e_int)))) (nomark _)) (Wr.s_one (Wr.s_ret (Wr.e_var 0)))
      Wr.s_nil) (Wr.s_cons (Wr.s_set 1 Z19.nd (Wr.e_mod (Wr.PE2_bo (Wr.e_mul (Wr.PE2_bo (Wr.e_mod (Wr.PE2_bo (Wr.e_add (Wr.PE2_bo (Wr.e_mul (Wr.b_var 0) (Wr.PE2_bo (Wr.e_int)))) (Wr.PE2_bo (Wr.e_int)))) (Wr.PE2_bo (Wr.e_int)))) (Wr.PE2_bo (Wr.e_int)))) (Wr.PE2_bo (Wr.e_int)))) (Wr.s_cons (Wr.s_set 2 Z19.nd (Wr.e_mod (Wr.PE2_bo (Wr.e_mul (Wr.PE2_bo (Wr.e_mod (Wr.PE2_bo (Wr.e_add (Wr.PE2_bo (Wr.e_mul (Wr.b_var 0) (Wr.PE2_bo (Wr.e_int)))) (Wr.PE2_bo (Wr.e_int)))) (Wr.PE2_bo (Wr.e_int)))) (Wr.PE2_bo (Wr.e_int)))) (Wr.PE2_bo (Wr.e_int)))) (Wr.s_one (Wr.s_ret (Wr.e_add (Wr.PE2_bo (Wr.e_mul (Wr.b_var 1) (Wr.PE2_bo (Wr.e_int)))) (Wr.b_var 2))))))), ?_⟩
  exact if_by (fun Q q => ⟨cpow, q⟩) (fun _ => q _) (fun _ => ⟨cmulR, cpos, cmulR, cpos, cmulR, cpos, cmulR, cpos, cmulR, q _⟩)
theorem Zf {f : Addr} {fd : FuncData} (F : Fun K "_law_digits" "_law_digits" Zb f fd) (Y8 : Fn2 P w K mg base 1 "_law_seed" Z13) (z_enumerate : mg "enumerate" = none)  : FnOk P w K mg base CX0 (1 + 1) f fd ["_law_cell_here", "_law_sizes"] (liftSp K Zh) := by
  refine Wr.fun_ok F Zd (by rintro ds Qd ⟨c, ss, rfl, _⟩; rfl) (fun cdv A outer s H E hr ds Qd h => ?_); obtain ⟨c, sizes, rfl, hpos, hlen, q⟩ := h
  refine ⟨_, (Wr.s_cons (Wr.s_set 2 Zd.nd (Wr.e_call Y8 hr (Wr.a_cons (Wr.e_var 0) Wr.a_nil))) (Wr.s_cons (Wr.s_setN 3 Zd.nd (Wr.n_lst Wr.a_nil)) (Wr.s_cons (Wr.s_forE PassesOwn.never rfl rfl z_enumerate (Wr.a_cons (Wr.e_var 1) Wr.a_nil) (Wr.g_tup (n := 2) rfl (Wr.gs_cons (Wr.g_name 4 Zd.nd) (Wr.gs_cons (Wr.g_name 5 Zd.nd) Wr.gs_nil))) (Wr.s_cons (Wr.s_if (Wr.t_cmp op_lt lf_lt (Wr.b_var 2) (Wr.b_var 5) (nomark _)) (Wr.s_one (Wr.s_set 2 Zd.nd (Wr.e_call Y8 hr (Wr.a_cons (Wr.e_add (Wr.PE2_bo (Wr.e_add (Wr.b_var 2) (Wr.PE2_bo (Wr.e_mul (Wr.PE2_bo (Wr.e_int)) (Wr.b_var 4))))) (Wr.PE2_bo (Wr.e_mod (Wr.b_var 0) (Wr.PE2_bo (Wr.e_int))))) Wr.a_nil))))
      Wr.s_nil) (Wr.s_cons (Wr.s_app 3 (Wr.e_mod (Wr.b_var 2) (Wr.b_var 5))) (Wr.s_one (Wr.s_set 2 Zd.nd (Wr.e_fdiv (Wr.b_var 2) (Wr.b_var 5))))))) (Wr.s_one (Wr.s_retO 3))))), ?_⟩
  refine ⟨_, rfl, fun r0 => ⟨Nat.zero_le _, ?_⟩⟩
  refine loop_ind (fun ds δ => ∃ (k : Nat) (rest : Int) (acc done ss : List Int), ds = enumD k (ss.map D.int) /\ δ = [.fr (.int c), .fr (.lst (sizes.map D.int)), .fr (.int rest), .ow (.lst (acc.map D.int)), .un, .un] /\
    Drawn acc done /\ sizes = done ++ ss /\ acc.length + ss.length <= 100) ?_ ?_ _ _ ⟨0, r0, [], [], sizes, rfl, rfl, .nil, rfl, by simpa using hlen⟩
  · rintro δ ⟨k, rest, acc, done, ss, e, rfl, hd, hs, _⟩
    cases ss with
    | cons s ss => cases e
    | nil => exact q acc (by rw [hs, List.append_nil]; exact hd)
  · rintro d r δ L hL ⟨k, rest, acc, done, ss, e, rfl, hd, hs, hl⟩
    cases ss with
    | nil => cases e
    | cons s ss =>
      have e1 : d = .tup [.int k, .int s] := by cases e; rfl
      have e2 : r = enumD (k + 1) (ss.map D.int) := by cases e; rfl
      subst e1 e2; have hs' := hpos s (by rw [hs]; simp); have hlen2 : (acc.map D.int).length < sizeLine := by rw [List.length_map]; simp at hl; exact small1000 (by omega)
      have fin : ∀ r' : Int, L [.fr (.int c), .fr (.lst (sizes.map D.int)), .fr (.int (r' / s)), .ow (.lst (acc.map D.int ++ [.int (r' % s)])), .fr (.int k), .fr (.int s)] := fun r' =>
        hL _ _ ⟨k + 1, r' / s, acc ++ [r' % s], done ++ [s], ss, rfl, rfl, hd.snoc (Int.emod_nonneg _ (by omega)) (Int.emod_lt_of_pos _ hs'.1), by simp [hs], by simp at hl ⊢; omega⟩ (by rw [List.map_append]; repeat constructor)
      refine ⟨rfl, if_by (fun Q q => q) (fun _ => ⟨cmulL, cpos, _, rfl, fun v => ⟨hs'.1, hlen2, hs', fin v⟩⟩) (fun _ => ⟨hs'.1, hlen2, hs', fin rest⟩)⟩
theorem atI_in {xs : List D} {i : Int} (h0 : 0 <= i) (h1 : i < xs.length) : ∃ d, atI xs i = some d /\ d ∈ xs := by
  obtain ⟨n, rfl⟩ := Int.eq_ofNat_of_zero_le h0; have hn : n < xs.length := by omega
  exact ⟨xs[n], atI_nat (List.getElem?_eq_getElem hn), List.getElem_mem hn⟩
section
variable {X : Cx} {H0 : Hp} {a b e o elt target iter : Expr} {es ifs : List Expr} {ta tb te tel : RE} {tr : RA} {tc : RT} {tj : RJ} {g : RGp} {nT : Nat} {scope : Scope} {N' : List Str} {pos p apos cpos p2 : Pos} {lo hi : Option Expr} {tl th : RO}
theorem w_catS (ha : QB X H0 a ta) (hb : QB X H0 b tb) : QE X H0 (.BinOp a .Add b pos) (rOp dCatS ta tb) := ⟨e_catS ha.run hb.run⟩
theorem w_strOf (hm : X.mg "str" = none) (ha : QAB X H0 (e :: es) tr) (hg : Gl X "str" := by rfl)
 (he : starEach (e :: es) X.env = (false, eval e X.env) :: starEach es X.env := by rfl) (hpl : (backTo pos (starEach es X.env)).any (·.1) = false := by rfl) : QE X H0 (.Call (.Name "str" p) (e :: es) [] pos) (rCB dStr tr) := ⟨e_strOf hm ha.run hg he hpl⟩
theorem w_join {sep : Str} {j : Nat} (he : QB X H0 e te) (m : M1 X (.Constant (.str sep) j p) "join" apos e cpos := by exact ⟨rfl, rfl, rfl, rfl⟩) : QE X H0 (.Call (.Attribute (.Constant (.str sep) j p) "join" apos) [e] [] cpos) (rJoin sep te) := ⟨e_join he.run m⟩
theorem w_fstr {e1 e2 : Expr} (h : PJ2 X H0 (e1 :: e2 :: es) tj) (hl : 2000 * (e1 :: e2 :: es).length <= sizeLine := by decide) : QE X H0 (.JoinedStr (e1 :: e2 :: es) pos) (rFstr tj) := ⟨e_fstr h hl⟩
end
section
variable {X : Cx} {H0 : Hp} {a b e o : Expr} {es : List Expr} {ta tb te : RE} {tr : RA} {pos p apos cpos : Pos}
theorem w_isdigit (ho : QE X H0 o te) (hbase : attributeBase o "isdigit" X.env (eval o X.env) = eval o X.env := by rfl) (hline : (apos.endLine == cpos.line) = true := by rfl) : QE X H0 (.Call (.Attribute o "isdigit" apos) [] [] cpos) (rSm0 (fun x => .bl (Txt.isdigit x)) te) := ⟨e_isdigit ho.run hbase hline⟩
theorem w_starts (ho : QE X H0 o te) (ha : QE X H0 e ta) (sm : Sm1 X o e "startswith" apos cpos := by exact ⟨rfl, rfl, rfl, rfl⟩) : QE X H0 (.Call (.Attribute o "startswith" apos) [e] [] cpos) (rSm1 (fun x y => .bl (Txt.startswith x y)) (fun _ _ => True) te ta) := ⟨e_starts ho.run ha.run sm⟩
theorem w_rempre (ho : QE X H0 o te) (ha : QE X H0 e ta) (sm : Sm1 X o e "removeprefix" apos cpos := by exact ⟨rfl, rfl, rfl, rfl⟩) : QE X H0 (.Call (.Attribute o "removeprefix" apos) [e] [] cpos) (rSm1 (fun x y => .str (Txt.removeprefix x y)) (fun x _ => x.length <= sizeLine) te ta) := ⟨e_rempre ho.run ha.run sm⟩
theorem w_split (ho : QE X H0 o te) (ha : QE X H0 e ta) (sm : Sm1 X o e "split" apos cpos := by exact ⟨rfl, rfl, rfl, rfl⟩) : QN X H0 (.Call (.Attribute o "split" apos) [e] [] cpos) (rSm1 (fun x y => .lst ((Txt.split x y).map D.str)) (fun x y => (y.length == 0) = false /\ x.length <= 16384) te ta) := ⟨n_split ho.run ha.run sm⟩
theorem w_lenS (hm : X.mg "len" = none) (ha : QAB X H0 (e :: es) tr) (hg : Gl X "len" := by rfl) (he : starEach (e :: es) X.env = (false, eval e X.env) :: starEach es X.env := by rfl) (hpl : (backTo pos (starEach es X.env)).any (·.1) = false := by rfl) : QE X H0 (.Call (.Name "len" p) (e :: es) [] pos) (rCB dLenS tr) := ⟨e_lenS hm ha.run hg he hpl⟩
theorem w_lenT (hm : X.mg "len" = none) (ha : QAB X H0 (e :: es) tr) (hg : Gl X "len" := by rfl) (he : starEach (e :: es) X.env = (false, eval e X.env) :: starEach es X.env := by rfl) (hpl : (backTo pos (starEach es X.env)).any (·.1) = false := by rfl) : QE X H0 (.Call (.Name "len" p) (e :: es) [] pos) (rCB (dLenT X.K) tr) := ⟨e_lenT hm ha.run hg he hpl⟩
theorem w_intS (hm : X.mg "int" = none) (ha : QAB X H0 (e :: es) tr) (hg : Gl X "int" := by rfl) (he : starEach (e :: es) X.env = (false, eval e X.env) :: starEach es X.env := by rfl) (hpl : (backTo pos (starEach es X.env)).any (·.1) = false := by rfl) : QE X H0 (.Call (.Name "int" p) (e :: es) [] pos) (rCB dIntS tr) := ⟨e_intS hm ha.run hg he hpl⟩
theorem w_tupOf (hm : X.mg "tuple" = none) (ha : QAB X H0 (e :: es) tr) (hg : Gl X "tuple" := by rfl) (he : starEach (e :: es) X.env = (false, eval e X.env) :: starEach es X.env := by rfl) (hpl : (backTo pos (starEach es X.env)).any (·.1) = false := by rfl) : QE X H0 (.Call (.Name "tuple" p) (e :: es) [] pos) (rCB dTupOf tr) := ⟨e_tupOf hm ha.run hg he hpl⟩
theorem w_catT (ha : QB X H0 a ta) (hb : QB X H0 b tb) : QE X H0 (.BinOp a .Add b pos) (rOp dCatT ta tb) := ⟨e_catT ha.run hb.run⟩
theorem w_gint {g : Str} {n : Int} {t : Tok} (hm : X.mg g = some (.int n t)) (hg : Gl X g := by rfl) (hdb : (g == ("__debug__" : Str)) = false := by decide) : QE X H0 (.Name g pos) (rC (.int n)) := ⟨e_gint hm hg hdb⟩
theorem w_gref {g : Str} {q : Addr} (hm : X.mg g = some (.ref q)) (hg : Gl X g := by rfl) (hdb : (g == ("__debug__" : Str)) = false := by decide) : QE X H0 (.Name g pos) (rC (.adr q)) := ⟨e_gref hm hg hdb⟩
theorem w_gnotin {g : Str} {tab : List (Str × Addr)} (T : GDic X.prog X.w X.K X.mg g tab) (he : QE X H0 e te) (hg : Gl X g := by rfl) (hdb : (g == ("__debug__" : Str)) = false := by decide) : QT X H0 (.Compare e [.NotIn] [.Name g p] pos) (rTest (rGIn true tab te)) := ⟨t_gnotin T he.run hg hdb⟩
theorem w_gtabS {g : Str} {tab : List (Str × Addr)} (T : GTab X.prog X.w X.K X.mg g tab) (he : QE X H0 e te) (hs : NoSl e := by intro _ _; rfl) (hg : Gl X g := by rfl) (hdb : (g == ("__debug__" : Str)) = false := by decide) : QE X H0 (.Subscript (.Name g p) e pos) (rTab tab te) := ⟨e_gtab T he.run hs hg hdb⟩
end
section
variable {X : Cx} {H0 : Hp} {ts : List Expr} {k : Nat} {tp p pos pos2 : Pos} {a b e : Expr} {es : List Expr} {tr : RA} {g : RG} {gs : RGs} {tb : RS} {body : List Stmt}
theorem w_forZT (hp : PassesOwn (model X.prog X.w) X.A X.env X.xe) (hc : X.calm = true) (hgl : Gl X "zip") (hm : X.mg "zip" = none) (ha : QA X H0 [a, b] tr) (hg : QG X H0 (.Tuple ts k tp) g) (hb : QSs X H0 body tb) (hst : starEach [a, b] X.env = (false, eval a X.env) :: starEach [b] X.env := by rfl) (hpl : (backTo pos2 (starEach [b] X.env)).any (·.1) = false := by rfl)
 (hs : ∀ x, foldedSetIterable (.Call (.Name "zip" p) [a, b] [] pos2) X.env x = pure x := by intro _; rfl) : QS X H0 (.For (.Tuple ts k tp) (.Call (.Name "zip" p) [a, b] [] pos2) body [] pos) (rForZT X.K tr g tb) := ⟨s_forZT hp hc hgl hm ha.run hg.run hb.run hst hpl hs⟩
theorem w_star (hc : X.calm = true) (h : QGs X H0 es gs) (hn : (assignEach es X.env).length = 2 := by rfl) (hst : (assignEach es X.env).findIdx? (·.1) = some 1 := by rfl) : QG X H0 (.Tuple es k pos) (gStar2 gs) := ⟨g_star hc h.run hn hst⟩
theorem w_gsS (h1 : QG X H0 e g) (h2 : QGs X H0 es gs) (hs : (assignEach (.Starred e p :: es) X.env).map (·.2) = assign e X.env :: (assignEach es X.env).map (·.2) := by rfl) : QGs X H0 (.Starred e p :: es) (gCons2 g gs) := ⟨gs_consS h1.run h2.run hs⟩
end
section
variable {X : Cx} {H0 : Hp} {a b e o iter tg : Expr} {es : List Expr} {ta tb te : RE} {tr : RA} {lo hi : Option Expr} {tl th : RO} {pos p p2 apos cpos : Pos} {g : RG} {ts : RS} {body : List Stmt}
theorem w_slS (he : QB X H0 e te) (hl : QO X H0 lo tl) (hu : QO X H0 hi th) : QE X H0 (.Subscript e (.Slice lo hi none p2) pos) (rSlS te tl th) := ⟨e_slS he.run hl.run hu.run⟩
theorem w_ixS (ha : QB X H0 a ta) (hb : QB X H0 b tb) (hp : PlainIx b := by intro _ _; rfl) : QE X H0 (.Subscript a b pos) (rOp dIxS ta tb) := ⟨e_ixS ha.run hb.run hp⟩
theorem w_index (ho : QE X H0 o te) (ha : QE X H0 e ta) (sm : Sm1 X o e "index" apos cpos := by exact ⟨rfl, rfl, rfl, rfl⟩) : QE X H0 (.Call (.Attribute o "index" apos) [e] [] cpos) (rIndex te ta) := ⟨e_index ho.run ha.run sm⟩
theorem w_forS (hp : PassesOwn (model X.prog X.w) X.A X.env X.xe) (hc : X.calm = true) (hi : QE X H0 iter te) (hg : QG X H0 tg g) (hb : QSs X H0 body ts) (hs : ∀ x, foldedSetIterable iter X.env x = pure x := by intro _; rfl) : QS X H0 (.For tg iter body [] pos) (rForS te g ts) := ⟨s_forS hp hc hi.run hg.run hb.run hs⟩
variable {tl2 : List Expr} {k : Nat} {tp pos2 : Pos}
theorem w_forZS (hp : PassesOwn (model X.prog X.w) X.A X.env X.xe) (hc : X.calm = true) (hgl : Gl X "zip") (hm : X.mg "zip" = none) (ha : QA X H0 [a, b] tr) (hg : QG X H0 (.Tuple tl2 k tp) g) (hb : QSs X H0 body ts) (hst : starEach [a, b] X.env = (false, eval a X.env) :: starEach [b] X.env := by rfl) (hpl : (backTo pos2 (starEach [b] X.env)).any (·.1) = false := by rfl)
 (hs : ∀ x, foldedSetIterable (.Call (.Name "zip" p) [a, b] [] pos2) X.env x = pure x := by intro _; rfl) : QS X H0 (.For (.Tuple tl2 k tp) (.Call (.Name "zip" p) [a, b] [] pos2) body [] pos) (rForZS tr g ts) := ⟨s_forZS hp hc hgl hm ha.run hg.run hb.run hst hpl hs⟩
variable {f y c n xn : Str} {sp : SpX} {np epos hpos px : Pos} {b₀ : Stmt} {suite : List Stmt} {tbd : Addr -> RS}
theorem w_tryAsS (j i : Nat) (F : FnX X.prog X.w X.K X.mg X.base k f sp) (hr : Room k X.A) (ha : QA X.nox H0 (e :: es) tr) (m : Mat X c y) (hb : ∀ (ea : Addr) (ob : Obj) (C : Addr), X.mg c = some (.ref C) -> ob.cls = .ref C -> QSs (markP X ea ob) H0 (b₀ :: suite) (tbd ea)) (hN : X.N.Nodup) (hst : X.stack = X.env :: X.outer) (hf : X.env.frame = some X.env.locals)
 (hj : X.N[j]? = some xn := by rfl) (hxj : Loc X.env.scope xn := by first | exact Or.inl rfl | exact Or.inr rfl) (hfj : X.fn xn = true \/ X.env.scope.names.lookup xn = some .local := by first | exact .inl rfl | exact .inr rfl | assumption)
 (hi : X.N[i]? = some n := by rfl) (hk : X.env.scope.names.lookup n = some .local := by rfl)
 (hg : Gl X f := by rfl) (hgy : Gl X y := by rfl) (hdb : (f == ("__debug__" : Str)) = false := by decide) (hdy : (y == ("__debug__" : Str)) = false := by decide)
 (he : starEach (e :: es) X.env = (false, eval e X.env) :: starEach es X.env := by rfl) (hpl : (backTo cpos (starEach es X.env)).any (·.1) = false := by rfl) (hsw : swapsWith (.Call (.Name f p) (e :: es) [] cpos) (some (.Name xn px)) epos.line X.env = pure false := by rfl) :
 QS X H0 (.Try [.Assign [.Name xn px] (.Call (.Name f p) (e :: es) [] cpos) epos] [.ExceptHandler (some (.Name y np)) (some n) (b₀ :: suite) hpos] [] [] pos) (rTryAsS sp tr j i c tbd) := ⟨s_tryAsS j i F hr ha.run m (fun ea ob C h1 h2 => (hb ea ob C h1 h2).run) hN hst hf hj hxj hfj hi hk hg hgy hdb hdy he hpl hsw⟩
end
theorem w_call0 {X : Cx} {H0 : Hp} {k : Nat} {x : Str} {sp : Sp2} {p pos : Pos} (F : Fn2 X.prog X.w X.K X.mg X.base k x sp) (hr : Room k X.A) (hg : Gl X x := by rfl) (hdb : (x == ("__debug__" : Str)) = false := by decide) : QE X H0 (.Call (.Name x p) [] [] pos) (rCall0 sp) := ⟨e_call0 F hr hg hdb⟩
section
variable {X : Cx} {H0 : Hp}
theorem w_raise {x : Str} {C : Addr} {bm : List Value} {e : Expr} {es : List Expr} {tr : RA} {np cpos pos : Pos} {R : Prop} (Er : Err X.K X.mg X.base x C bm) (hX : R -> Thr X H0 C) (ha : QA X H0 (e :: es) tr) (hc : X.calm = true) (hg : Gl X x := by rfl) (hdb : (x == ("__debug__" : Str)) = false := by decide)
 (he : starEach (e :: es) X.env = (false, eval e X.env) :: starEach es X.env := by rfl) (hpl : (backTo cpos (starEach (e :: es) X.env)).any (·.1) = false := by rfl) : QS X H0 (.Raise (some (.Call (.Name x np) (e :: es) [] cpos)) none pos) (rRaise tr R) := ⟨s_raise Er hX ha.run hc hg hdb he hpl⟩
variable {k : Nat} {f y c n : Str} {sp : SpX} {e : Expr} {es : List Expr} {tr : RA} {p np cpos epos hpos pos : Pos} {b₀ : Stmt} {suite : List Stmt}
variable {ea C : Addr} {ob : Obj} {te : RE} {T : String} {C' : Addr} {b : Bool} {p2 : Pos}
theorem w_isiO (hp : (ea, ob) ∈ X.pn) (hc : ob.cls = .ref C) (k : ErrK X.K C) (hmc : X.mg c = some (.ref C')) (hk : PySem.W.kitOne X.K (.ref C) (.ref C') = some b) (hm : X.mg "isinstance" = none) (ha : QE X H0 e te) (hg : Gl X "isinstance" := by rfl) (hg2 : Gl X c := by rfl) (hdb : (c == ("__debug__" : Str)) = false := by decide)
 (he : starEach (e :: [.Name c p2]) X.env = (false, eval e X.env) :: starEach [.Name c p2] X.env := by rfl) (he2 : starEach [.Name c p2] X.env = (false, eval (.Name c p2) X.env) :: starEach [] X.env := by rfl)
 (hpl : (backTo pos (starEach [.Name c p2] X.env)).any (·.1) = false := by rfl) : QE X H0 (.Call (.Name "isinstance" p) [e, .Name c p2] [] pos) (rIsiE te ea b) := ⟨e_isiO hp hc k hmc hk hm ha.run hg hg2 hdb he he2 hpl⟩
theorem w_isiB (hp : (ea, ob) ∈ X.pn) (hc : ob.cls = .ref C) (k : ErrK X.K C) (hmc : X.mg c = none) (hk : PySem.W.kitOne X.K (.ref C) (.type T) = some b) (hm : X.mg "isinstance" = none) (ha : QE X H0 e te) (hv : bootBuiltins c = some (.type T) := by rfl) (hg : Gl X "isinstance" := by rfl) (hg2 : Gl X c := by rfl) (hn : c ≠ "__name__" := by decide) (hdb : (c == ("__debug__" : Str)) = false := by decide)
 (he : starEach (e :: [.Name c p2]) X.env = (false, eval e X.env) :: starEach [.Name c p2] X.env := by rfl) (he2 : starEach [.Name c p2] X.env = (false, eval (.Name c p2) X.env) :: starEach [] X.env := by rfl)
 (hpl : (backTo pos (starEach [.Name c p2] X.env)).any (·.1) = false := by rfl) : QE X H0 (.Call (.Name "isinstance" p) [e, .Name c p2] [] pos) (rIsiE te ea b) := ⟨e_isiB hp hc k hmc hk hm ha.run hv hg hg2 hn hdb he he2 hpl⟩
theorem w_callX {R : Str -> Prop} (F : FnX X.prog X.w X.K X.mg X.base k f sp) (hr : Room k X.A) (hP : ∀ x, R x -> Pass X H0 x) (ha : QA X H0 (e :: es) tr) (hg : Gl X f := by rfl) (hdb : (f == ("__debug__" : Str)) = false := by decide)
 (he : starEach (e :: es) X.env = (false, eval e X.env) :: starEach es X.env := by rfl) (hpl : (backTo cpos (starEach es X.env)).any (·.1) = false := by rfl) : QE X H0 (.Call (.Name f p) (e :: es) [] cpos) (rCallX sp tr R) := ⟨e_callX F hr hP ha.run hg hdb he hpl⟩
end
def Zx : Sp2 := fun ds Q => ∃ i : Int, ds = [.int i] /\ Q (.val (.bl true))
theorem Zn {f : Addr} {fd : FuncData} (F : Fun K "_law_whole" "_law_whole" Zp f fd)  (z_isinstance : mg "isinstance" = none) (z_bool : mg "bool" = none) (z_int : mg "int" = none)  : FnOk P w K mg base CX0 (0 + 1) f fd ["_law_thing"] (liftSp K Zx) := by
  refine Wr.fun_ok F Zy (by rintro ds Qd ⟨i, rfl, _⟩; rfl) (fun cdv A outer s H E hr ds Qd h => ?_); obtain ⟨i, rfl, q⟩ := h; refine ⟨_, (Wr.s_one (Wr.s_ret (Wr.e_and (Wr.e_isi (kind_int _) z_isinstance z_int (Wr.b_var 0)) (Wr.e_one (Wr.e_not (Wr.e_isi (kind_bool _) z_isinstance z_bool (Wr.b_var 0))))))), ?_⟩; exact ret_by (andV_tt (fun Q q => q) (fun Q q => q)) q
theorem str_ext {x y : Str} (h : x.cps.toList = y.cps.toList) : x = y := by
  cases x; cases y
  congr 1
  exact Array.ext' h
theorem split_ne (x y : Str) : Txt.split x y ≠ [] := by
  unfold Txt.split
  split
  · simp
  · split
    · simp
    · intro e
      have := congrArg List.length e; rw [length_partsBetween] at this; simp at this
abbrev numT (n : Int) : Str := Str.ofString (toString n)
theorem numT_nat (m : Nat) : (numT (m : Int)).cps.toList = (Nat.toDigits 10 m).map Char.toNat := PySem.W.KIN.signs_num m
theorem numT_neg (m : Nat) (h : 0 < m) : (numT (-(m : Int))).cps.toList = 45 :: (Nat.toDigits 10 m).map Char.toNat := by
  rw [PyProof.Rows.signs_ofString]; have e : toString (-(m : Int)) = "-" ++ Nat.repr m := by
    obtain ⟨k, rfl⟩ : ∃ k, m = k + 1 := ⟨m - 1, by omega⟩; rw [Int.toString_eq_repr, Int.repr_eq_if, if_neg (by omega)]
    congr 2
  rw [e, String.toList_append, Nat.toList_repr]; rfl
theorem digs_all (m : Nat) : NumText.AllDigits ((Nat.toDigits 10 m).map Char.toNat) := by
  intro c hc; obtain ⟨ch, hch, e⟩ := List.mem_map.mp hc; have r := PyProof.Rows.digit_range (Nat.isDigit_of_mem_toDigits (by decide) (by decide) hch); rw [<- e]; exact r
theorem digs_ne (m : Nat) : (Nat.toDigits 10 m).map Char.toNat ≠ [] := fun e => by
  have h := List.map_eq_nil_iff.mp e; have : (Nat.toDigits 10 m).length ≠ 0 := by
    intro z; have := (Nat.length_toDigits_le_iff (b := 10) (n := m) (k := (Nat.toDigits 10 m).length + 1) (by decide) (by omega)); exact absurd (Nat.length_toDigits_pos (b := 10) (n := m)) (by omega)
  rw [h] at this; exact this rfl
theorem digs_len {m k : Nat} (hk : 0 < k) (h : m < 10 ^ k) : ((Nat.toDigits 10 m).map Char.toNat).length <= k := by
  rw [List.length_map]; exact (Nat.length_toDigits_le_iff (by decide) hk).mpr h
theorem head_app {a b : List Nat} (h : a ≠ []) : (a ++ b).head? = a.head? := by
  cases a with
  | nil => exact absurd rfl h
  | cons x a => rfl
theorem digs_head : ∀ (m : Nat), 0 < m -> ((Nat.toDigits 10 m).map Char.toNat).head? ≠ some 48 := by
  intro m
  induction m using Nat.strongRecOn with
  | _ m ih =>
    intro hm
    by_cases h : m < 10
    · rw [Nat.toDigits_of_lt_base h]
      have : ∀ d : Nat, d < 10 -> 0 < d -> ([Nat.digitChar d].map Char.toNat).head? ≠ some 48 := by decide
      exact this m h hm
    · have hm2 : m % 10 < 10 := Nat.mod_lt m (by decide)
      have t : Nat.toDigits 10 (m / 10) ++ Nat.toDigits 10 (m % 10) = Nat.toDigits 10 (10 * (m / 10) + m % 10) := Nat.toDigits_append_toDigits (by decide) (by omega) hm2; rw [Nat.div_add_mod] at t; rw [<- t, List.map_append, head_app (digs_ne _)]; exact ih (m / 10) (by omega) (by omega)
theorem minus_cps : ("-" : Str) = (⟨#[45]⟩ : Str) := by decide +kernel
theorem nought_cps : ("0" : Str) = (⟨#[48]⟩ : Str) := by decide +kernel
theorem len_list (x : Str) : x.length = x.cps.toList.length := by simp [Str.length]
theorem sub1_yes {x : Str} {c : Nat} {cs : List Nat} (h : x.cps.toList = c :: cs) : Builtin.Str.subAt x ⟨#[c]⟩ 0 = true := ((StrLaws.subAt_one x c 0).mpr (by rw [h]; rfl)).2
theorem sub1_no {x : Str} {c : Nat} (h : x.cps.toList.head? ≠ some c) : ¬ Builtin.Str.subAt x ⟨#[c]⟩ 0 = true := fun e => by
  rw [StrLaws.subAt_eq] at e
  cases hx : x.cps.toList with
  | nil => rw [hx] at e; exact absurd (show ([] == [c]) = true from e) (by simp)
  | cons d ds =>
    rw [hx] at e h; have e : ([d] == [c]) = true := e; have : d = c := by simpa using e
    rw [this] at h; exact h rfl
theorem rempre_yes {x : Str} {c : Nat} {cs : List Nat} (h : x.cps.toList = c :: cs) : (Txt.removeprefix x ⟨#[c]⟩).cps.toList = cs := by
  unfold Txt.removeprefix; rw [if_pos (sub1_yes h)]; have hl : x.length = cs.length + 1 := by rw [len_list, h]; rfl
  show (if (x.length - 1 == x.length) = true then x else Builtin.Str.strSub x 1 x.length).cps.toList = cs
  rw [if_neg (by rw [hl]; simp), StrLaws.strSub_toList, h, hl]; simp
theorem rempre_no {x : Str} {c : Nat} (h : x.cps.toList.head? ≠ some c) : Txt.removeprefix x ⟨#[c]⟩ = x := by
  unfold Txt.removeprefix; rw [if_neg (sub1_no h)]; rfl
theorem starts_yes {x : Str} {c : Nat} {cs : List Nat} (h : x.cps.toList = c :: cs) : Txt.startswith x ⟨#[c]⟩ = true := by
  unfold Txt.startswith; rw [sub1_yes h, Bool.and_true, decide_eq_true_iff, len_list x, h]
  show 0 + 1 <= _
  simp
theorem starts_no {x : Str} {c : Nat} (h : x.cps.toList.head? ≠ some c) : Txt.startswith x ⟨#[c]⟩ = false := by
  unfold Txt.startswith; rw [Bool.eq_false_iff.mpr (sub1_no h), Bool.and_false]
theorem isdig_of {x : Str} (h : NumText.AllDigits x.cps.toList) (hn : x.cps.toList ≠ []) : Txt.isdigit x = true := by
  unfold Txt.isdigit; rw [Bool.and_eq_true, decide_eq_true_iff]
  constructor
  · rw [len_list]
    exact List.length_pos_iff.mpr hn
  · rw [<- Array.all_toList, List.all_eq_true]
    intro c hc; have r := h c hc; have : ∀ c : Fin 10, Unicode.isDigit (48 + c.val) = true := by decide +kernel
    have := this ⟨c - 48, by omega⟩; have e : 48 + (c - 48) = c := by omega
    rw [show (48 + (⟨c - 48, by omega⟩ : Fin 10).val) = c from e] at this; exact this
def isNumM (x : Str) : Bool := Txt.isdigit (Txt.removeprefix x "-") && (decide ((Txt.removeprefix x "-").length <= 12) && (decide (x = "0") || !Txt.startswith (Txt.removeprefix x "-") "0"))
theorem num_cases (n : Int) : (∃ m : Nat, n = m /\ (numT n).cps.toList = (Nat.toDigits 10 m).map Char.toNat) \/ ∃ m : Nat, 0 < m /\ n = -(m : Int) /\ (numT n).cps.toList = 45 :: (Nat.toDigits 10 m).map Char.toNat := by
  rcases Int.lt_or_le n 0 with h | h
  · obtain ⟨m, hm⟩ := Int.eq_ofNat_of_zero_le (show 0 <= -n by omega)
    have e : n = -(m : Int) := by omega
    subst e; exact .inr ⟨m, by omega, rfl, numT_neg m (by omega)⟩
  · obtain ⟨m, rfl⟩ := Int.eq_ofNat_of_zero_le h
    exact .inl ⟨m, rfl, numT_nat m⟩
theorem dig_head {cs : List Nat} (h : NumText.AllDigits cs) {c : Nat} (hc : c < 48 \/ 57 < c) : cs.head? ≠ some c := fun e => by
  cases cs with
  | nil => cases e
  | cons d ds =>
    have := h d (.head _); cases e; omega
theorem num_ok {n : Int} (h0 : -(10 ^ 12) < n) (h1 : n < 10 ^ 12) : isNumM (numT n) = true /\ intText? (numT n) = some n /\ (numT n).length <= 13 := by
  have fin : ∀ {x : Str} {m : Nat}, m < 10 ^ 12 -> (Txt.removeprefix x "-").cps.toList = (Nat.toDigits 10 m).map Char.toNat -> (m = 0 -> x = "0") -> isNumM x = true := fun {x m} hm hc hz => by
    unfold isNumM; rw [isdig_of (by rw [hc]; exact digs_all m) (by rw [hc]; exact digs_ne m), Bool.true_and, Bool.and_eq_true, decide_eq_true_iff]; refine ⟨by rw [len_list, hc]; exact digs_len (by decide) hm, ?_⟩
    by_cases e : m = 0
    · rw [decide_eq_true (hz e)]; rfl
    · rw [nought_cps, starts_no (by rw [hc]; exact digs_head m (by omega))]
      simp
  rcases num_cases n with ⟨m, e, hc⟩ | ⟨m, hm, e, hc⟩
  · have hp : Txt.removeprefix (numT n) "-" = numT n := by
      rw [minus_cps]; exact rempre_no (by rw [hc]; exact dig_head (digs_all m) (.inl (by decide)))
    have hl : (numT n).length <= 12 := by rw [len_list, hc]; exact digs_len (by decide) (by omega)
    refine ⟨fin (m := m) (by omega) (by rw [hp]; exact hc) (fun z => ?_), ?_, by omega⟩
    · subst z
      rw [e]; decide +kernel
    · have := PySem.intText_digits (x := numT n) (by rw [hc]; exact digs_all m) (by rw [hc]; exact digs_ne m) (by omega)
      rw [hc, PySem.W.KIN.val_back] at this; rw [this, e]
  · have hl : (numT n).length <= 13 := by
      rw [len_list, hc, List.length_cons]; have := digs_len (m := m) (k := 12) (by decide) (by omega); omega
    refine ⟨fin (m := m) (by omega) (by rw [minus_cps]; exact rempre_yes hc) (fun z => by omega), ?_, hl⟩; have := PySem.intText_neg (x := numT n) hc (digs_all m) (digs_ne m) (by omega); rw [PySem.W.KIN.val_back] at this; rw [this, e]
theorem num_free (n : Int) : 32 ∉ (numT n).cps.toList := PyProof.Rows.int_text_free' 32 ⟨by decide, by decide⟩ n
def Asc (x : Str) : Prop := ∀ c ∈ x.cps.toList, c < 128
theorem Asc.all {x : Str} (h : Asc x) : x.cps.all (· < 128) = true := by
  rw [<- Array.all_toList, List.all_eq_true]; intro c hc; exact decide_eq_true (h c hc)
theorem Asc.cat {x y : Str} (h : Asc x) (k : Asc y) : Asc (x ++ y) := fun c hc => (PyProof.Rows.mem_cps_append.mp hc).elim (h c) (k c)
theorem Asc.cut {x : Str} (h : Asc x) (lo hi : Option Int) : Asc (cutS x lo hi) := fun c hc => h c (List.mem_of_mem_drop (List.mem_of_mem_take (by simpa [cutS] using hc)))
theorem cut_len (x : Str) (lo hi : Option Int) : (cutS x lo hi).length <= x.length := by
  show ((x.cps.toList.drop _).take _).toArray.size <= x.length
  rw [List.size_toArray, List.length_take, List.length_drop]; simp [Str.length]; omega
theorem Asc.num (n : Int) : Asc (numT n) := fun c hc => by
  rcases num_cases n with ⟨m, _, e⟩ | ⟨m, _, _, e⟩
  · rw [e] at hc; have := digs_all m c hc; omega
  · rw [e] at hc
    rcases List.mem_cons.mp hc with rfl | hc
    · decide
    · have := digs_all m c hc; omega
theorem Asc.part {x : Str} (h : Asc x) {p : Str} (hp : p ∈ Txt.split x " ") : Asc p := fun c hc => h c (by
  have e := StrLaws.join_split x " "; rw [<- e]
  exact (PyProof.Rows.mem_join " " c _).mpr (.inl ⟨p, hp, hc⟩))
theorem Asc.join {xs : List Str} (h : ∀ x ∈ xs, Asc x) : Asc (Txt.join " " xs) := fun c hc => by
  have hc : c ∈ (Builtin.Str.glued " " xs).cps.toList := hc; rw [StrLaws.glued_eq_join] at hc
  rcases (PyProof.Rows.mem_join " " c xs).mp hc with ⟨t, ht, hc⟩ | ⟨_, hc⟩
  · exact h t ht c hc
  · have : ∀ c ∈ (" " : Str).cps.toList, c < 128 := by decide +kernel
    exact this c hc
theorem join_sum (xs : List Str) : (Txt.join " " xs).length <= (xs.map fun x => x.length + 1).sum := by
  show (Builtin.Str.glued " " xs).length <= _
  rw [StrLaws.glued_eq_join]; refine Nat.le_trans (StrLaws.join_length_le " " xs) ?_
  show (xs.map (·.length)).sum + xs.length * 1 <= _
  induction xs with
  | nil => simp
  | cons x xs ih => simp only [List.map_cons, List.sum_cons, List.length_cons]; omega
theorem split_sum (x : Str) : ((Txt.split x " ").map fun p => p.length + 1).sum = x.length + 1 := by
  have key : ∀ ts : List Str, ts ≠ [] -> (ts.map fun p => p.length + 1).sum = (Str.join " " ts).length + 1 := by
    intro ts
    induction ts with
    | nil => intro h; exact absurd rfl h
    | cons t ts ih =>
      intro _
      cases ts with
      | nil => simp [PyProof.Rows.join_one]
      | cons u r =>
        rw [PyProof.Rows.join_cons_cons, strLen_append, strLen_append, List.map_cons, List.sum_cons, ih (by simp)]
        show t.length + 1 + _ = t.length + 1 + _ + 1
        omega
  rw [key _ (split_ne _ _), StrLaws.join_split]
theorem repr_ch (q c : Nat) (h : c < 128) : (Builtin.Str.reprChar q c).length <= 4 := by
  have h2 : (Nat.toDigits 16 c).length <= 2 := (Nat.length_toDigits_le_iff (by decide) (by decide)).mpr (by omega); unfold Builtin.Str.reprChar; dsimp only
  repeat' split
  all_goals simp only [List.length_append, List.length_cons, List.length_nil, List.length_replicate, List.length_map]
  all_goals first | omega | (rename_i z; exact absurd (by simpa using z) (by simp; omega))
theorem repr_len {x : Str} (h : Asc x) : (reprText x).length <= 4 * x.length + 2 := by
  rw [<- reprLen_eq, <- Array.foldl_toList]; have : ∀ (l : List Nat) (n : Nat), (∀ c ∈ l, c < 128) -> l.foldl (fun n c => n + (Builtin.Str.reprChar (reprQuote x) c).length) n <= n + 4 * l.length := by
    intro l
    induction l with
    | nil => intro n _; simp
    | cons c l ih =>
      intro n hl; have h1 := ih (n + (Builtin.Str.reprChar (reprQuote x) c).length) fun d hd => hl d (.tail _ hd)
      have h2 := repr_ch (reprQuote x) c (hl c (.head _)); rw [List.foldl_cons, List.length_cons]; omega
  have := this x.cps.toList 2 h; rw [len_list x]; omega
theorem isdig_asc {x : Str} (h : Asc x) (hd : Txt.isdigit x = true) : NumText.AllDigits x.cps.toList /\ x.cps.toList ≠ [] := by
  unfold Txt.isdigit at hd; rw [Bool.and_eq_true, decide_eq_true_iff] at hd
  constructor
  · intro c hc
    have h1 := hd.2; rw [<- Array.all_toList, List.all_eq_true] at h1; have h2 := h1 c hc; have h3 := h c hc; have : ∀ c : Fin 128, Unicode.isDigit c.val = true -> 48 <= c.val /\ c.val <= 57 := by decide +kernel
    exact this ⟨c, h3⟩ h2
  · intro e
    have := hd.1; rw [len_list, e] at this; exact absurd this (by simp)
theorem rempre_asc {x : Str} (h : Asc x) : Asc (Txt.removeprefix x "-") := by
  by_cases hh : x.cps.toList.head? = some 45
  · cases hx : x.cps.toList with
    | nil => rw [hx] at hh; cases hh
    | cons c cs =>
      rw [hx] at hh; cases hh; intro d hd; rw [minus_cps, rempre_yes hx] at hd; exact h d (by rw [hx]; exact .tail _ hd)
  · rw [minus_cps, rempre_no hh]; exact h
theorem num_read {x : Str} (h : Asc x) (hn : isNumM x = true) : x.length <= 13 /\ ∃ n, intText? x = some n := by
  unfold isNumM at hn; rw [Bool.and_eq_true, Bool.and_eq_true, decide_eq_true_iff] at hn; obtain ⟨h1, h2, _⟩ := hn; obtain ⟨a1, a2⟩ := isdig_asc (rempre_asc h) h1
  by_cases hh : x.cps.toList.head? = some 45
  · cases hx : x.cps.toList with
    | nil => rw [hx] at hh; cases hh
    | cons c cs =>
      rw [hx] at hh; cases hh; rw [minus_cps, len_list, rempre_yes hx] at h2; rw [minus_cps, rempre_yes hx] at a1 a2; have hl : x.length <= 13 := by rw [len_list, hx, List.length_cons]; omega
      exact ⟨hl, _, PySem.intText_neg hx a1 a2 (by omega)⟩
  · rw [minus_cps, rempre_no hh] at h2 a1 a2
    exact ⟨by omega, _, PySem.intText_digits a1 a2 (by omega)⟩
abbrev Sm (n : Int) : Prop := n.natAbs.log2 < 1920
theorem small_log {x : Int} (h1 : -(10 ^ 12) <= x) (h2 : x <= 10 ^ 13) : Sm x := by
  by_cases h : x.natAbs = 0
  · show x.natAbs.log2 < 1920; rw [h]; decide
  · exact (Nat.log2_lt h).mpr (Nat.lt_of_le_of_lt (show x.natAbs <= 10 ^ 13 by omega) (by decide))
def tS (n : Int) : Str := Str.ofString (toString n)
theorem tS_len {n : Int} (h : Sm n) : (tS n).length <= 1950 := by
  have e := int_text_length_le (k := 1920) (by decide) h; unfold tS; rw [PySem.ofString_length]; omega
inductive Pt where
  | i (n : Int)
  | s (x : Str)
def Pt.d : Pt -> D
  | .i n => .int n
  | .s x => .str x
def Pt.t : Pt -> Str
  | .i n => tS n
  | .s x => x
def Pt.ok : Pt -> Prop
  | .i n => Sm n
  | .s x => x.length <= 100
theorem Pt.len {p : Pt} (h : p.ok) : p.t.length <= 2000 := by
  cases p with
  | i n => have := tS_len h; show (tS n).length <= 2000; omega
  | s x => have h : x.length <= 100 := h; show x.length <= 2000; omega
def Z9 : Sp2 := fun ds Q => ∃ ps : List Pt, ds = [.tup (ps.map Pt.d)] /\ ps.length <= 20 /\ (∀ p ∈ ps, p.ok) /\ Q (.val (.str (Txt.join " " (ps.map Pt.t))))
theorem seq_by {t u : RS} {E : Ends2} {δ : List Sl} (I : List Sl -> Prop) (h1 : ∀ L : List Sl -> Prop, (∀ δ', I δ' -> L δ') -> t { E with nx := L } δ) (h2 : ∀ δ', I δ' -> u E δ') : rSeq t u E δ := h1 _ h2
theorem nx_mk {f : List Sl -> Prop} {rt : Ret -> List Sl -> Prop} {bk ct : List Sl -> Prop} {δ : List Sl} (h : f δ) : Ends2.nx { nx := f, rt := rt, bk := bk, ct := ct } δ := h
theorem rnext_mk {f : List Sl -> Prop} {rt : Ret -> List Sl -> Prop} {bk ct : List Sl -> Prop} {δ : List Sl} (h : f δ) : rNext { nx := f, rt := rt, bk := bk, ct := ct } δ := h
theorem set_by {i : Nat} {te : RE} {E : Ends2} {δ : List Sl} {d : D} (h : RdE te δ d) (q : gSet i d δ E.nx) : rSet i te E δ := h _ q
theorem ret_val {Q : D -> Prop} {d : D} (h : Q d) : retQ Q (.val d) := h
theorem rempre_len (x : Str) : (Txt.removeprefix x "-").length <= x.length := by
  by_cases h : x.cps.toList.head? = some 45
  · cases hx : x.cps.toList with
    | nil => rw [hx] at h; cases h
    | cons c cs =>
      rw [hx] at h; cases h; rw [len_list, minus_cps, rempre_yes hx, len_list, hx, List.length_cons]; omega
  · rw [minus_cps, rempre_no h]
    exact Nat.le_refl _
def Z1g : Sp2 := fun ds Q => ∃ x : Str, ds = [.str x] /\ x.length <= 20000 /\ Q (.val (.bl (isNumM x)))
theorem Z16 {f : Addr} {fd : FuncData} (F : Fun K "is_number" "is_number" Z1b f fd)  (z_len : mg "len" = none) {tM : Nat} (m_MOST_FIGURES : mg "MOST_FIGURES" = some (.int 12 tM)) : FnOk P w K mg base CX0 (0 + 1) f fd ["text"] (liftSp K Z1g) := by
  refine Wr.fun_ok F Z1d (by rintro ds Qd ⟨x, rfl, _⟩; rfl) (fun cdv A outer s H E hr ds Qd h => ?_); obtain ⟨x, rfl, hl, q⟩ := h
  refine ⟨_, (Wr.s_cons (Wr.s_set 1 Z1d.nd (w_rempre (Wr.e_var 0) (Wr.e_str))) (Wr.s_cons (Wr.s_if (Wr.PW2_pt (Wr.t_or (Wr.t_not (Wr.t_val (w_isdigit (Wr.e_var 1)))) (Wr.t_or1 (Wr.t_cmp op_gt lf_gt (Wr.PE2_bo (w_lenS z_len (Wr.ab_cons (Wr.b_var 1) Wr.ab_nil))) (Wr.PE2_bo (w_gint m_MOST_FIGURES)) (nomark _))))) (Wr.s_one (Wr.s_ret (Wr.e_bl)))
      Wr.s_nil) (Wr.s_one (Wr.s_ret (Wr.e_or (Wr.e_cmp op_eq lf_eqS (Wr.b_var 0) (Wr.PE2_bo (Wr.e_str)) (nomark _)) (Wr.e_one (Wr.e_not (w_starts (Wr.e_var 1) (Wr.e_str))))))))), ?_⟩
  have hz : x.length <= sizeLine := Nat.le_trans hl (by decide); refine ⟨x, rfl, "-", rfl, hz, ?_⟩; have hfz : (Txt.removeprefix x "-").length <= sizeLine := Nat.le_trans (rempre_len x) hz; unfold isNumM at q; generalize hf : Txt.removeprefix x "-" = f at q hfz; refine if_by (or_by (b1 := !Txt.isdigit f) (b2 := decide (f.length > 12)) (not_by (fun Q q => ⟨f, congrArg D.str hf, q⟩)) (fun _ => RdT.eq (fun Q q => ⟨f, congrArg (fun z => [D.str z]) hf, hfz, q⟩) (by rw [decide_eq_decide]; omega))) (fun hc => ?_) (fun hc => ?_)
  · have e : (Txt.isdigit f && (decide (f.length <= 12) && (decide (x = "0") || !Txt.startswith f "0"))) = false := by
      rcases Bool.or_eq_true_iff.mp hc with z | z
      · rw [Bool.not_eq_true'] at z; rw [z]; rfl
      · have := of_decide_eq_true z
        rw [decide_eq_false (show ¬ f.length <= 12 by omega)]; simp
    rw [e] at q; exact q
  · rw [Bool.or_eq_false_iff] at hc
    have h1 : Txt.isdigit f = true := by simpa using hc.1
    have h2 : f.length <= 12 := by have := of_decide_eq_false hc.2; omega
    rw [h1, decide_eq_true h2, Bool.true_and, Bool.true_and] at q; refine rnext_mk ?_
    exact ret_by (orV_by (b1 := decide (x = "0")) (b2 := !Txt.startswith f "0") (RdE.eq (fun Q q => q) (by cases decide (x = "0") <;> rfl)) (fun _ => notV_by (fun Q q => ⟨f, congrArg D.str hf, "0", rfl, trivial, q⟩))) q
def fitsM (x sort : Str) : Bool := if sort = "way" then ["moves", "stays", "lapses"].any (fun z => z == x) else if sort = "rule" then ["fixed", "anchor"].any (fun z => z == x) else isNumM x
def Z1t : Sp2 := fun ds Q => ∃ x sort : Str, ds = [.str x, .str sort] /\ x.length <= 20000 /\ Q (.val (.bl (fitsM x sort)))
theorem Z1s {f : Addr} {fd : FuncData} (F : Fun K "fits" "fits" Z1v f fd) (Y9 : Fn2 P w K mg base 1 "is_number" Z1g) {aW aR : Addr} (m_WAYS : mg "WAYS" = some (.ref aW)) (m_RULES : mg "RULES" = some (.ref aR)) (gw : GTup K aW ["moves", "stays", "lapses"]) (gr : GTup K aR ["fixed", "anchor"]) : FnOk P w K mg base CX0 (1 + 1) f fd ["text", "sort"] (liftSp K Z1t) := by
  refine Wr.fun_ok F Z1u (by rintro ds Qd ⟨x, s, rfl, _⟩; rfl) (fun cdv A outer s H E hr ds Qd h => ?_); obtain ⟨x, sort, rfl, hl, q⟩ := h
  refine ⟨_, (Wr.s_cons (Wr.s_if (Wr.t_cmp op_eq lf_eqS (Wr.b_var 1) (Wr.PE2_bo (Wr.e_str)) (nomark _)) (Wr.s_one (Wr.s_ret (Wr.e_cmp op_in_seq lf_inT (Wr.b_var 0) (Wr.PE2_bo (w_gref m_WAYS)) rfl)))
      Wr.s_nil) (Wr.s_cons (Wr.s_if (Wr.t_cmp op_eq lf_eqS (Wr.b_var 1) (Wr.PE2_bo (Wr.e_str)) (nomark _)) (Wr.s_one (Wr.s_ret (Wr.e_cmp op_in_seq lf_inT (Wr.b_var 0) (Wr.PE2_bo (w_gref m_RULES)) rfl)))
      Wr.s_nil) (Wr.s_one (Wr.s_ret (Wr.e_call Y9 hr (Wr.a_cons (Wr.e_var 0) Wr.a_nil)))))), ?_⟩
  unfold fitsM at q; refine if_eq (p := sort = "way") (fun Q q => q) (fun hs => ?_) (fun hs => ?_)
  · rw [if_pos hs] at q
    exact ret_by (RdE.eq (fun Q q => ⟨x, aW, _, rfl, rfl, gw, q⟩) (by simp)) q
  rw [if_neg hs] at q; refine if_eq (p := sort = "rule") (fun Q q => q) (fun hs2 => ?_) (fun hs2 => ?_)
  · rw [if_pos hs2] at q
    exact ret_by (RdE.eq (fun Q q => ⟨x, aR, _, rfl, rfl, gr, q⟩) (by simp)) q
  rw [if_neg hs2] at q; exact ⟨x, rfl, hl, q⟩
def Reads (x sort : Str) (d : D) : Prop := (sort = "number" /\ ∃ n : Int, intText? x = some n /\ d = .int n) \/ (sort ≠ "number" /\ d = .str x)
inductive ReadsAll : List Str -> List Str -> List D -> Prop where
  | nil : ReadsAll [] [] []
  | cons {x sort : Str} {d : D} {xs ss : List Str} {ds : List D} (f : fitsM x sort = true) (l : x.length <= 600) (r : Reads x sort d) (t : ReadsAll xs ss ds) : ReadsAll (x :: xs) (sort :: ss) (d :: ds)
def sortsOf : List (Str × List Str) := [("year", ["number", "number"]), ("enter", ["number", "number", "way", "rule", "number", "number", "number"]), ("strike", ["number"]), ("rank", ["number", "number"]), ("shut", ["number", "number", "number"]), ("anchor", ["number", "number"]), ("seal", ["number"]), ("unseal", ["number"])]
def OrdT (K : PySem.W.Frag) : List (Str × Addr) -> Prop
  | [(_, o0), (_, o1), (_, o2), (_, o3), (_, o4), (_, o5), (_, o6), (_, o7)] => GTup K o0 ["number", "number"] /\ GTup K o1 ["number", "number", "way", "rule", "number", "number", "number"] /\ GTup K o2 ["number"] /\ GTup K o3 ["number", "number"] /\ GTup K o4 ["number", "number", "number"] /\ GTup K o5 ["number", "number"] /\ GTup K o6 ["number"] /\ GTup K o7 ["number"]
  | _ => False
theorem ordT_at {K : PySem.W.Frag} {o0 o1 o2 o3 o4 o5 o6 o7 : Addr} (h : OrdT K [("year", o0), ("enter", o1), ("strike", o2), ("rank", o3), ("shut", o4), ("anchor", o5), ("seal", o6), ("unseal", o7)]) {w : Str} {ss : List Str} (e : sortsOf.lookup w = some ss) :
 ∃ o, ([("year", o0), ("enter", o1), ("strike", o2), ("rank", o3), ("shut", o4), ("anchor", o5), ("seal", o6), ("unseal", o7)] : List (Str × Addr)).lookup w = some o /\ GTup K o ss := by
  obtain ⟨h0, h1, h2, h3, h4, h5, h6, h7⟩ := h; unfold sortsOf at e; simp only [List.lookup_cons, List.lookup_nil] at e ⊢
  split at e
  · cases e; exact ⟨o0, rfl, h0⟩
  split at e
  · cases e; exact ⟨o1, rfl, h1⟩
  split at e
  · cases e; exact ⟨o2, rfl, h2⟩
  split at e
  · cases e; exact ⟨o3, rfl, h3⟩
  split at e
  · cases e; exact ⟨o4, rfl, h4⟩
  split at e
  · cases e; exact ⟨o5, rfl, h5⟩
  split at e
  · cases e; exact ⟨o6, rfl, h6⟩
  split at e
  · cases e; exact ⟨o7, rfl, h7⟩
  · cases e
theorem ordT_no {o0 o1 o2 o3 o4 o5 o6 o7 : Addr} {w : Str} (e : sortsOf.lookup w = none) : ([("year", o0), ("enter", o1), ("strike", o2), ("rank", o3), ("shut", o4), ("anchor", o5), ("seal", o6), ("unseal", o7)] : List (Str × Addr)).lookup w = none := by
  unfold sortsOf at e; simp only [List.lookup_cons, List.lookup_nil] at e ⊢
  split at e
  · cases e
  split at e
  · cases e
  split at e
  · cases e
  split at e
  · cases e
  split at e
  · cases e
  split at e
  · cases e
  split at e
  · cases e
  split at e
  · cases e
  · rfl
theorem fits_len {x s : Str} (ha : Asc x) (h : fitsM x s = true) : x.length <= 600 := by
  unfold fitsM at h
  split at h
  · simp only [List.any_cons, List.any_nil, Bool.or_false, Bool.or_eq_true, beq_iff_eq] at h
    rcases h with rfl | rfl | rfl <;> decide +kernel
  · split at h
    · simp only [List.any_cons, List.any_nil, Bool.or_false, Bool.or_eq_true, beq_iff_eq] at h
      rcases h with rfl | rfl <;> decide +kernel
    · have := (num_read ha h).1
      omega
theorem fits_reads {x s : Str} (ha : Asc x) (h : fitsM x s = true) : ∃ d, Reads x s d := by
  by_cases hs : s = "number"
  · subst hs
    unfold fitsM at h; rw [if_neg (by decide), if_neg (by decide)] at h; obtain ⟨_, n, hn⟩ := num_read ha h; exact ⟨.int n, .inl ⟨rfl, n, hn, rfl⟩⟩
  · exact ⟨.str x, .inr ⟨hs, rfl⟩⟩
theorem Reads.uniq {x s : Str} {d d' : D} (h : Reads x s d) (h' : Reads x s d') : d = d' := by
  rcases h with ⟨h1, n, h2, rfl⟩ | ⟨h1, rfl⟩
  · rcases h' with ⟨_, n', h2', rfl⟩ | ⟨k1, rfl⟩
    · rw [h2] at h2'; cases h2'; rfl
    · exact absurd h1 k1
  · rcases h' with ⟨k1, _⟩ | ⟨_, rfl⟩
    · exact absurd k1 h1
    · rfl
theorem ReadsAll.lens {xs ss : List Str} {ds : List D} (h : ReadsAll xs ss ds) : xs.length = ss.length /\ ds.length = xs.length := by
  induction h with
  | nil => exact ⟨rfl, rfl⟩
  | cons _ _ _ _ ih => exact ⟨by simp [ih.1], by simp [ih.2]⟩
def RA (Q : List D -> Prop) (X : Prop) (xs ss : List Str) : Prop := (∃ outs, ReadsAll xs ss outs /\ Q outs) \/ ((¬ ∃ outs, ReadsAll xs ss outs) /\ X)
def spX_read_parts (K : PySem.W.Frag) : SpX := fun ds Q Xd => ∃ (xs ss : List Str) (d : D), ds = [.lst (xs.map D.str), d] /\ TupD K d (ss.map D.str) /\ xs.length <= 900 /\ ss.length <= 900 /\ (∀ x ∈ xs, Asc x /\ x.length <= 480) /\ (∀ s ∈ ss, s.length <= 100) /\ RA (fun outs => Q (.val (.tup outs))) (Xd "NoOrder") xs ss
theorem nat_log {n : Nat} (h : n <= 1000) : (n : Int).natAbs.log2 < 1920 := small_log (by omega) (by omega)
theorem okx_read_parts {f : Addr} {fd : FuncData} (F : Fun K "read_parts" "read_parts" Zo f fd) (Ye : Fn2 P w K mg base 2 "fits" Z1t) (z_len : mg "len" = none) (z_zip : mg "zip" = none) (z_int : mg "int" = none) (z_tuple : mg "tuple" = none) {C : Addr} {bm : List Value} (hmC : mg "NoOrder" = some (.ref C)) (Er : Err K mg base "NoOrder" C bm) :
 FnOk P w K mg base (CX1 P w) (2 + 1) f fd ["texts", "sorts"] (liftX K mg (spX_read_parts K)) := by
  refine fun_okX F Zq (by rintro ds Qd Xd ⟨x, s, d, rfl, _⟩; rfl) (fun cdv A outer s H E hr ds Qd Xd h hX => ?_); obtain ⟨xs, ss, d, rfl, hT, hl, hl2, hx, hs, hq⟩ := h
  refine ⟨_, ((Wr.s_cons (Wr.s_if (Wr.t_cmp op_ne lf_neS (Wr.PE2_bo (Wr.e_len z_len (Wr.ab_cons (Wr.b_var 0) Wr.ab_nil))) (Wr.PE2_bo (w_lenT z_len (Wr.ab_cons (Wr.b_var 1) Wr.ab_nil))) (nomark _)) (Wr.s_one (w_raise (R := Xd "NoOrder") Er (fun r => hX _ C hmC r) (Wr.a_cons (w_fstr (j_int ((Wr.e_len z_len (Wr.ab_cons (Wr.b_var 0) Wr.ab_nil))).run (j_str (j_int ((w_lenT z_len (Wr.ab_cons (Wr.b_var 1) Wr.ab_nil))).run j_nil)))) Wr.a_nil) rfl))
      Wr.s_nil) (Wr.s_cons (Wr.s_setN 2 Zq.nd (Wr.n_lst Wr.a_nil)) (Wr.s_cons (w_forZT PassesOwn.leaving rfl rfl z_zip (Wr.a_cons (Wr.e_var 0) (Wr.a_cons (Wr.e_var 1) Wr.a_nil)) (Wr.g_tup (n := 2) rfl (Wr.gs_cons (Wr.g_name 3 Zq.nd) (Wr.gs_cons (Wr.g_name 4 Zq.nd) Wr.gs_nil))) (Wr.s_cons (Wr.s_if (Wr.t_not (Wr.t_val (Wr.e_call Ye hr (Wr.a_cons (Wr.e_var 3) (Wr.a_cons (Wr.e_var 4) Wr.a_nil))))) (Wr.s_one (w_raise (R := Xd "NoOrder") Er (fun r => hX _ C hmC r) (Wr.a_cons (w_fstr (j_rep ((Wr.e_var 3)).run (j_str (j_strE ((Wr.e_var 4)).run j_nil)))) Wr.a_nil) rfl))
      Wr.s_nil) (Wr.s_one (Wr.s_app 2 (Wr.e_ifExp (Wr.t_cmp op_eq lf_eqS (Wr.b_var 4) (Wr.PE2_bo (Wr.e_str)) (nomark _)) (w_intS z_int (Wr.ab_cons (Wr.b_var 3) Wr.ab_nil)) (Wr.e_var 3)))))) (Wr.s_one (Wr.s_ret (w_tupOf z_tuple (Wr.ab_cons (Wr.b_var 2) Wr.ab_nil)))))))).run, ?_⟩
  refine if_by (b := decide (¬ xs.length = ss.length)) (RdT.eq (fun Q q => ⟨d, ss.map D.str, rfl, .inr hT, q⟩) (by by_cases e : xs.length = ss.length <;> simp [e] <;> omega)) (fun hc => ?_) (fun hc => ?_)
  · have hc := of_decide_eq_true hc
    rcases hq with ⟨outs, ra, _⟩ | ⟨_, xd⟩
    · exact absurd ra.lens.1 hc
    · exact ⟨_, rfl, nat_log (by rw [List.length_map]; omega), d, ss.map D.str, rfl, .inr hT, _, rfl, nat_log (by rw [List.length_map]; omega), (show 1 <= 9 by decide), xd⟩
  have hlen : xs.length = ss.length := Decidable.of_not_not (of_decide_eq_false hc); refine rnext_mk ?_; refine ⟨Nat.zero_le _, xs.map D.str, d, ss.map D.str, rfl, hT, ?_⟩; refine loop_ind (fun ds δ => ∃ (xr sr : List Str) (done : List D), ds = zipD (xr.map D.str) (sr.map D.str) /\ xr.length = sr.length /\ (∀ x ∈ xr, Asc x /\ x.length <= 480) /\ (∀ s ∈ sr, s.length <= 100) /\ RA (fun outs => Qd (.val (.tup (done ++ outs)))) (Xd "NoOrder") xr sr /\ done.length + xr.length <= 900 /\ δ = [.fr (.lst (xs.map D.str)), .fr d, .ow (.lst done), .un, .un]) ?_ ?_ _ _ ⟨xs, ss, [], rfl, hlen, hx, hs, hq, by simpa using hl, rfl⟩
  · rintro δ ⟨xr, sr, done, e, el, _, _, ra, _, rfl⟩
    cases xr with
    | cons x xr =>
      cases sr with
      | nil => cases el
      | cons s sr => cases e
    | nil =>
      cases sr with
      | cons s sr => cases el
      | nil =>
      rcases ra with ⟨outs, ra, q⟩ | ⟨no, _⟩
      · cases ra
        rw [List.append_nil] at q; exact ⟨_, rfl, q⟩
      · exact absurd ⟨[], .nil⟩ no
  · rintro d0 r δ L hL ⟨xr, sr, done, e, el, hxr, hsr, ra, hdl, rfl⟩
    cases xr with
    | nil => cases e
    | cons x xr =>
    cases sr with
    | nil => cases el
    | cons sort sr =>
    obtain ⟨rfl, rfl⟩ : d0 = .tup [.str x, .str sort] /\ r = zipD (xr.map D.str) (sr.map D.str) := by cases e; exact ⟨rfl, rfl⟩
    rw [List.length_cons] at hdl; obtain ⟨ax, lx⟩ := hxr x (.head _); refine ⟨rfl, ?_⟩; refine if_by (b := !fitsM x sort) (not_by (fun Q q => ⟨x, sort, rfl, by omega, q⟩)) (fun hc => ?_) (fun hc => ?_)
    · have hf : fitsM x sort = false := by simpa using hc
      rcases ra with ⟨outs, ra, _⟩ | ⟨_, xd⟩
      · cases ra with
        | cons f _ _ _ => rw [f] at hf; cases hf
      · exact ⟨x, rfl, by have := repr_len ax; omega, sort, rfl, by have := hsr sort (.head _); omega, (show 1 <= 9 by decide), xd⟩
    have hf : fitsM x sort = true := by simpa using hc
    obtain ⟨dd, rd⟩ := fits_reads ax hf; refine rnext_mk ?_; have go : (done.length < sizeLine /\ L [.fr (.lst (xs.map D.str)), .fr d, .ow (.lst (done ++ [dd])), .fr (.str x), .fr (.str sort)]) := by
      refine ⟨small1000 (by omega), hL _ _ ⟨xr, sr, done ++ [dd], rfl, by simpa using el, fun y hy => hxr y (.tail _ hy), fun y hy => hsr y (.tail _ hy), ?_, by simp; omega, rfl⟩ (by repeat constructor)⟩
      rcases ra with ⟨outs, ra, q⟩ | ⟨no, xd⟩
      · cases ra with
        | @cons _ _ d2 _ _ outs f l r t =>
          cases rd.uniq r; exact .inl ⟨outs, t, (by show Qd (.val (.tup (done ++ [dd] ++ outs))); rw [List.append_assoc]; exact q)⟩
      · exact .inr ⟨fun ⟨outs, t⟩ => no ⟨dd :: outs, .cons hf (fits_len ax hf) rd t⟩, xd⟩
    rcases rd with ⟨rfl, n, hn, rfl⟩ | ⟨hne, rfl⟩
    · exact ⟨fun _ => ⟨x, n, rfl, hn, by omega, go⟩, fun z => by simp at z⟩
    · exact ⟨fun z => by simp at z; exact absurd z hne, fun _ => go⟩
def Good (x w : Str) (outs : List D) : Prop := ∃ xs ss, Txt.split x " " = w :: xs /\ sortsOf.lookup w = some ss /\ ReadsAll xs ss outs
def spX_read : SpX := fun ds Q Xd => ∃ x : Str, ds = [.str x] /\ x.length <= 480 /\ Asc x /\ ((∃ w outs, Good x w outs /\ Q (.val (.tup (.str w :: outs)))) \/ ((¬ ∃ w outs, Good x w outs) /\ Xd "NoOrder"))
theorem split_cases (x : Str) : ∃ w xs, Txt.split x " " = w :: xs := by
  cases h : Txt.split x " " with
  | nil => exact absurd h (split_ne _ _)
  | cons w xs => exact ⟨w, xs, rfl⟩
theorem part_le {x p : Str} (h : p ∈ Txt.split x " ") : p.length <= x.length := by
  have e := split_sum x; have : ∀ ts : List Str, p ∈ ts -> p.length + 1 <= (ts.map fun p => p.length + 1).sum := by
    intro ts
    induction ts with
    | nil => intro z; cases z
    | cons t ts ih =>
      intro z; rw [List.map_cons, List.sum_cons]
      rcases List.mem_cons.mp z with rfl | z
      · omega
      · have := ih z; omega
  have := this _ h; omega
theorem parts_le (x : Str) : (Txt.split x " ").length <= x.length + 1 := by
  have e := split_sum x; have : ∀ ts : List Str, ts.length <= (ts.map fun p => p.length + 1).sum := by
    intro ts
    induction ts with
    | nil => simp
    | cons t ts ih => rw [List.map_cons, List.sum_cons, List.length_cons]; omega
  have := this (Txt.split x " "); omega
theorem sorts_of {w : Str} {ss : List Str} (h : sortsOf.lookup w = some ss) : 1 <= ss.length /\ ss.length <= 7 /\ ∀ s ∈ ss, s.length <= 100 := by
  have : ∀ q ∈ sortsOf, 1 <= q.2.length /\ q.2.length <= 7 /\ ∀ s ∈ q.2, s.length <= 100 := by decide +kernel
  have hm : ∀ (l : List (Str × List Str)), l.lookup w = some ss -> (w, ss) ∈ l := by
    intro l
    induction l with
    | nil => intro h; cases h
    | cons q l ih =>
      intro h; obtain ⟨a, b⟩ := q; rw [List.lookup_cons] at h
      split at h
      · rename_i z
        have z := eq_of_beq z; cases h; rw [z]; exact .head _
      · exact .tail _ (ih h)
  exact this (w, ss) (hm _ h)
theorem okx_read {f : Addr} {fd : FuncData} (F : Fun K "read" "read" Z1x f fd) (Y6 : FnX P w K mg base 3 "read_parts" (spX_read_parts K)) {o0 o1 o2 o3 o4 o5 o6 o7 : Addr} (T_ORDERS : GDic P w K mg "ORDERS" [("year", o0), ("enter", o1), ("strike", o2), ("rank", o3), ("shut", o4), ("anchor", o5), ("seal", o6), ("unseal", o7)]) (OT : OrdT K [("year", o0), ("enter", o1), ("strike", o2), ("rank", o3), ("shut", o4), ("anchor", o5), ("seal", o6), ("unseal", o7)]) {C : Addr} {bm : List Value} (hmC : mg "NoOrder" = some (.ref C)) (Er : Err K mg base "NoOrder" C bm) :
 FnOk P w K mg base (CX1 P w) (3 + 1) f fd ["text"] (liftX K mg spX_read) := by
  refine fun_okX3 F Z1w (by rintro ds Qd Xd ⟨x, rfl, _⟩; rfl) (fun cdv A outer s H E hr ds Qd Xd h hX hP => ?_); obtain ⟨x, rfl, hl, ha, hq⟩ := h
  refine ⟨_, ((Wr.s_cons (Wr.s_asg (Wr.PN2_fx (w_split (Wr.e_var 0) (Wr.e_str))) (w_star rfl (Wr.gs_cons (Wr.g_name 1 Z1w.nd) (w_gsS (Wr.g_name 2 Z1w.nd) Wr.gs_nil)))) (Wr.s_cons (Wr.s_if (w_gnotin T_ORDERS (Wr.e_var 1)) (Wr.s_one (w_raise (R := Xd "NoOrder") Er (fun r => hX _ C hmC r) (Wr.a_cons (w_fstr (j_rep ((Wr.e_var 1)).run (j_str j_nil))) Wr.a_nil) rfl))
      Wr.s_nil) (Wr.s_one (Wr.s_ret (w_catT (Wr.PE2_bo (Wr.e_tup (Wr.a_cons (Wr.e_var 1) Wr.a_nil))) (Wr.PE2_bo (w_callX (R := fun x => Xd x) Y6 hr (fun x r => hP x r) (Wr.a_cons (Wr.e_var 2) (Wr.a_cons (w_gtabS T_ORDERS.tab (Wr.e_var 1)) Wr.a_nil)))))))))).run, ?_⟩
  obtain ⟨w, xs, hsp⟩ := split_cases x; have hmem : ∀ y ∈ xs, y ∈ Txt.split x " " := fun y hy => by rw [hsp]; exact .tail _ hy
  have hpl := parts_le x; rw [hsp, List.length_cons] at hpl; refine ⟨x, rfl, " ", rfl, ⟨by decide, by omega⟩, ?_⟩; refine ⟨.str w, xs.map D.str, congrArg (fun z => D.lst (z.map D.str)) hsp, by rw [List.length_map]; omega, ?_⟩
  cases hs : sortsOf.lookup w with
  | none =>
    have hno := ordT_no (o0 := o0) (o1 := o1) (o2 := o2) (o3 := o3) (o4 := o4) (o5 := o5) (o6 := o6) (o7 := o7) hs; refine if_t (RdT.eq (fun Q q => ⟨w, rfl, q⟩) (by rw [hno]; rfl)) ?_
    rcases hq with ⟨w2, outs, ⟨xs2, ss2, e1, e2, _⟩, _⟩ | ⟨_, xd⟩
    · rw [hsp] at e1
      cases e1; rw [hs] at e2; cases e2
    · exact ⟨w, rfl, by have := repr_len (ha.part (p := w) (by rw [hsp]; exact .head _)); have := part_le (x := x) (p := w) (by rw [hsp]; exact .head _); omega, (show 1 <= 9 by decide), xd⟩
  | some ss =>
    obtain ⟨o, ho, hg⟩ := ordT_at OT hs; obtain ⟨s1, s2, s3⟩ := sorts_of hs; refine if_f (RdT.eq (fun Q q => ⟨w, rfl, q⟩) (by rw [ho]; rfl)) (rnext_mk ?_); refine ⟨sz1, w, o, rfl, ho, xs, ss, .adr o, rfl, .inr ⟨o, ss, rfl, hg, rfl⟩, by omega, by omega, fun y hy => ⟨ha.part (hmem y hy), by have := part_le (hmem y hy); omega⟩, s3, ?_⟩
    rcases hq with ⟨w2, outs, ⟨xs2, ss2, e1, e2, ra⟩, q⟩ | ⟨no, xd⟩
    · rw [hsp] at e1
      cases e1; rw [hs] at e2; cases e2; have hls := ra.lens; refine .inl ⟨outs, ra, _, rfl, [.str w], outs, rfl, rfl, by simp, ?_, ?_, q⟩
      · intro e
        rw [e] at hls; simp at hls; omega
      · exact Nat.le_trans (show 1 + outs.length <= 1000 by omega) (by decide)
    · exact .inr ⟨fun ⟨outs, ra⟩ => no ⟨w, outs, xs, ss, hsp, hs, ra⟩, xd⟩
theorem Drawn.eleven {s1 s2 s3 s4 s5 s6 s7 s8 s9 sA sB : Int} {P : List Int -> Prop} (h : ∀ a b c d e f g i j k l : Int, 0 <= a -> a < s1 -> 0 <= b -> b < s2 -> 0 <= c -> c < s3 -> 0 <= d -> d < s4 -> 0 <= e -> e < s5 -> 0 <= f -> f < s6 -> 0 <= g -> g < s7 -> 0 <= i -> i < s8 -> 0 <= j -> j < s9 -> 0 <= k -> k < sA -> 0 <= l -> l < sB -> P [a, b, c, d, e, f, g, i, j, k, l]) : ∀ out, Drawn out [s1, s2, s3, s4, s5, s6, s7, s8, s9, sA, sB] -> P out := fun out w => by
  cases w with | cons a0 a1 w => cases w with | cons b0 b1 w => cases w with | cons c0 c1 w => cases w with | cons d0 d1 w => cases w with | cons e0 e1 w => cases w with | cons f0 f1 w => cases w with | cons g0 g1 w => cases w with | cons i0 i1 w => cases w with | cons j0 j1 w => cases w with | cons k0 k1 w => cases w with | cons l0 l1 w => cases w with | nil => exact h _ _ _ _ _ _ _ _ _ _ _ a0 a1 b0 b1 c0 c1 d0 d1 e0 e1 f0 f1 g0 g1 i0 i1 j0 j1 k0 k1 l0 l1
def PtOk (p : Pt) (s : Str) : Prop := (s = "number" /\ ∃ n : Int, p = .i n /\ -(10 ^ 12) < n /\ n < 10 ^ 12) \/ (s = "way" /\ ∃ x : Str, p = .s x /\ (x = "moves" \/ x = "stays" \/ x = "lapses")) \/ (s = "rule" /\ ∃ x : Str, p = .s x /\ (x = "fixed" \/ x = "anchor"))
inductive PtsOk : List Pt -> List Str -> Prop where
  | nil : PtsOk [] []
  | cons {p : Pt} {s : Str} {ps : List Pt} {ss : List Str} (h : PtOk p s) (t : PtsOk ps ss) : PtsOk (p :: ps) (s :: ss)
theorem small200 {x : Int} (h : x <= 10 ^ 30) : x < 2 ^ 200 := Int.lt_of_le_of_lt h (by decide)
theorem pt_num {n : Int} (h0 : -(10 ^ 12) < n) (h1 : n < 10 ^ 12) : PtOk (.i n) "number" := .inl ⟨rfl, n, rfl, h0, h1⟩
abbrev LO (c near : Int) (dr : D) (what way rule a b cc dd sign ee len far : Int) (x y : Sl) : List Sl := [.fr (.int c), .fr (.int near), .fr dr, .fr (.int what), .fr (.int way), .fr (.int rule), .fr (.int a), .fr (.int b), .fr (.int cc), .fr (.int dd), .fr (.int sign), .fr (.int ee), .fr (.int len), .fr (.int far), x, y]
def Zt : Sp2 := fun ds Q => ∃ c near : Int, ds = [.int c, .int near] /\ 0 < near /\ near <= 5001 /\ ∀ w ss ps, sortsOf.lookup w = some ss -> PtsOk ps ss -> ps ≠ [] -> w.length <= 20 -> 32 ∉ w.cps.toList -> Q (.val (.tup ((Pt.s w :: ps).map Pt.d)))
theorem Zj {f : Addr} {fd : FuncData} (F : Fun K "_law_order" "_law_order" Zv f fd) (Y3 : Fn2 P w K mg base 2 "_law_digits" Zh)  : FnOk P w K mg base CX0 (2 + 1) f fd ["_law_cell_here", "_law_near"] (liftSp K Zt) := by
  refine Wr.fun_ok F Zs (by rintro ds Qd ⟨c, n, rfl, _⟩; rfl) (fun cdv A outer s H E hr ds Qd h => ?_); obtain ⟨c, near, rfl, n0, n1, q⟩ := h
  refine ⟨_, (Wr.s_cons (Wr.s_set 2 Zs.nd (Wr.e_call Y3 hr (Wr.a_cons (Wr.e_var 0) (Wr.a_cons (Wr.PN2_fx (Wr.n_lst (Wr.a_cons (Wr.e_int) (Wr.a_cons (Wr.e_int) (Wr.a_cons (Wr.e_int) (Wr.a_cons (Wr.e_var 1) (Wr.a_cons (Wr.e_var 1) (Wr.a_cons (Wr.e_var 1) (Wr.a_cons (Wr.e_int) (Wr.a_cons (Wr.e_int) (Wr.a_cons (Wr.e_var 1) (Wr.a_cons (Wr.e_int) (Wr.a_cons (Wr.e_pow (Wr.PE2_bo (Wr.e_int)) (Wr.PE2_bo (Wr.e_int))) Wr.a_nil))))))))))))) Wr.a_nil)))) (Wr.s_cons (Wr.s_asg (Wr.PN2_fx (Wr.n_slL (Wr.b_var 2) Wr.o_none (Wr.o_some (Wr.PE2_bo (Wr.e_int))))) (Wr.g_lst (n := 6) rfl (Wr.gs_cons (Wr.g_name 3 Zs.nd) (Wr.gs_cons (Wr.g_name 4 Zs.nd) (Wr.gs_cons (Wr.g_name 5 Zs.nd) (Wr.gs_cons (Wr.g_name 6 Zs.nd) (Wr.gs_cons (Wr.g_name 7 Zs.nd) (Wr.gs_cons (Wr.g_name 8 Zs.nd) Wr.gs_nil)))))))) (Wr.s_cons (Wr.s_asg (Wr.PN2_fx (Wr.n_slL (Wr.b_var 2) (Wr.o_some (Wr.PE2_bo (Wr.e_int))) Wr.o_none)) (Wr.g_lst (n := 5) rfl (Wr.gs_cons (Wr.g_name 9 Zs.nd) (Wr.gs_cons (Wr.g_name 10 Zs.nd) (Wr.gs_cons (Wr.g_name 11 Zs.nd) (Wr.gs_cons (Wr.g_name 12 Zs.nd) (Wr.gs_cons (Wr.g_name 13 Zs.nd) Wr.gs_nil))))))) (Wr.s_cons (Wr.s_if (Wr.t_cmp op_gt lf_gt (Wr.b_var 12) (Wr.PE2_bo (Wr.e_int)) (nomark _)) (Wr.s_one (Wr.s_set 6 Zs.nd (Wr.e_var 13)))
      Wr.s_nil) (Wr.s_cons (Wr.s_if (Wr.t_cmp op_eq lf_eqS (Wr.b_var 10) (Wr.PE2_bo (Wr.e_int)) (nomark _)) (Wr.s_one (Wr.s_set 7 Zs.nd (Wr.e_neg (Wr.b_var 7))))
      Wr.s_nil) (Wr.s_cons (Wr.s_set 14 Zs.nd (Wr.e_ix (Wr.PN2_bo (Wr.n_lst (Wr.a_cons (Wr.e_str) (Wr.a_cons (Wr.e_str) (Wr.a_cons (Wr.e_str) (Wr.a_cons (Wr.e_str) (Wr.a_cons (Wr.e_str) (Wr.a_cons (Wr.e_str) (Wr.a_cons (Wr.e_str) (Wr.a_cons (Wr.e_str) Wr.a_nil)))))))))) (Wr.b_var 3))) (Wr.s_cons (Wr.s_if (Wr.t_cmp op_eq lf_eqS (Wr.b_var 3) (Wr.PE2_bo (Wr.e_int)) (nomark _)) (Wr.s_cons (Wr.s_set 15 Zs.nd (Wr.e_ix (Wr.PN2_bo (Wr.n_lst (Wr.a_cons (Wr.e_str) (Wr.a_cons (Wr.e_str) (Wr.a_cons (Wr.e_str) Wr.a_nil))))) (Wr.b_var 4))) (Wr.s_one (Wr.s_ret (Wr.e_tup (Wr.a_cons (Wr.e_var 14) (Wr.a_cons (Wr.e_var 6) (Wr.a_cons (Wr.e_var 9) (Wr.a_cons (Wr.e_var 15) (Wr.a_cons (Wr.e_ix (Wr.PN2_bo (Wr.n_lst (Wr.a_cons (Wr.e_str) (Wr.a_cons (Wr.e_str) Wr.a_nil)))) (Wr.b_var 5)) (Wr.a_cons (Wr.e_var 7) (Wr.a_cons (Wr.e_var 8) (Wr.a_cons (Wr.e_var 11) Wr.a_nil))))))))))))
      Wr.s_nil) (Wr.s_cons (Wr.s_if (Wr.t_cmp (op_inQ hr.units) lf_inQ (Wr.b_var 3) (Wr.PE2_bo (Wr.e_tup (Wr.a_cons (Wr.e_int) (Wr.a_cons (Wr.e_int) (Wr.a_cons (Wr.e_int) Wr.a_nil))))) rfl) (Wr.s_one (Wr.s_ret (Wr.e_tup (Wr.a_cons (Wr.e_var 14) (Wr.a_cons (Wr.e_var 6) Wr.a_nil)))))
      Wr.s_nil) (Wr.s_cons (Wr.s_if (Wr.t_cmp op_eq lf_eqS (Wr.b_var 3) (Wr.PE2_bo (Wr.e_int)) (nomark _)) (Wr.s_one (Wr.s_ret (Wr.e_tup (Wr.a_cons (Wr.e_var 14) (Wr.a_cons (Wr.e_var 6) (Wr.a_cons (Wr.e_var 7) (Wr.a_cons (Wr.e_var 9) Wr.a_nil)))))))
      Wr.s_nil) (Wr.s_one (Wr.s_ret (Wr.e_tup (Wr.a_cons (Wr.e_var 14) (Wr.a_cons (Wr.e_var 7) (Wr.a_cons (Wr.e_var 6) Wr.a_nil))))))))))))))), ?_⟩
  have n2 : near < 2 ^ 200 := small200 (by omega); refine ⟨cpow, Nat.le_trans (show 11 <= 100 by decide) (by decide), c, [8, 3, 2, near, near, near, 10, 2, near, 13, 10 ^ 12], rfl, ?_, (by show 11 <= 100; decide), Drawn.eleven fun what way rule a b cc dd sign ee len far w0 w1 y0 y1 r0 r1 a0 a1 b0 b1 c0 c1 d0 d1 s0 s1 e0 e1 l0 l1 f0 f1 => ?_⟩
  · intro z hz
    simp only [List.mem_cons, List.not_mem_nil, or_false] at hz
    rcases hz with rfl | rfl | rfl | rfl | rfl | rfl | rfl | rfl | rfl | rfl | rfl <;> first | exact ⟨n0, n2⟩ | exact ⟨by decide, by decide⟩
  refine ⟨rfl, rfl, ?_⟩; have f1 : far < 10 ^ 12 := f1; generalize hdr : D.lst ([what, way, rule, a, b, cc, dd, sign, ee, len, far].map D.int) = dr
  show rSeq _ _ _ (LO c near dr what way rule a b cc dd sign ee len far .un .un)
  refine seq_by (fun δ => ∃ a' : Int, 0 <= a' /\ a' < 10 ^ 12 /\ δ = LO c near dr what way rule a' b cc dd sign ee len far .un .un) (fun L hL => ?_) ?_
  · refine if_by (fun Q q => q) (fun _ => ?_) (fun _ => hL _ ⟨a, a0, by omega, rfl⟩)
    exact hL _ ⟨far, f0, f1, rfl⟩
  rintro δ ⟨a', a'0, a'1, rfl⟩; refine seq_by (fun δ => ∃ b' : Int, -(10 ^ 12) < b' /\ b' < 10 ^ 12 /\ δ = LO c near dr what way rule a' b' cc dd sign ee len far .un .un) (fun L hL => ?_) ?_
  · refine if_by (fun Q q => q) (fun _ => ?_) (fun _ => hL _ ⟨b, by omega, by omega, rfl⟩)
    exact hL _ ⟨-b, by omega, by omega, rfl⟩
  rintro δ ⟨b', b'0, b'1, rfl⟩; have hw : what = 0 \/ what = 1 \/ what = 2 \/ what = 3 \/ what = 4 \/ what = 5 \/ what = 6 \/ what = 7 := by omega
  have pA : PtOk (.i a') "number" := pt_num (by omega) a'1; have pB : PtOk (.i b') "number" := pt_num b'0 b'1; have pD : PtOk (.i dd) "number" := pt_num (by omega) (by omega)
  clear hdr
  rcases hw with rfl | rfl | rfl | rfl | rfl | rfl | rfl | rfl
  · refine ⟨sz8, _, rfl, gSet_ok (l := .un) rfl rfl (nx_mk ?_)⟩
    refine if_f (RdT.eq (fun Q q => q) rfl) (rnext_mk ?_); refine if_f (RdT.eq (fun Q q => ⟨sz3, rfl, rfl, q⟩) rfl) (rnext_mk ?_); refine if_f (RdT.eq (fun Q q => q) rfl) (rnext_mk ?_); exact ⟨sz3, q "year" ["number", "number"] [.i b', .i a'] rfl (.cons pB (.cons pA .nil)) (by simp) (by decide +kernel) (by decide +kernel)⟩
  · refine ⟨sz8, _, rfl, gSet_ok (l := .un) rfl rfl (nx_mk ?_)⟩
    refine if_t (RdT.eq (fun Q q => q) rfl) ?_; obtain ⟨dw, e1, m1⟩ := atI_in (xs := [D.str "moves", .str "stays", .str "lapses"]) y0 y1; obtain ⟨dr2, e2, m2⟩ := atI_in (xs := [D.str "fixed", .str "anchor"]) r0 r1; refine ⟨sz3, dw, e1, gSet_ok (l := .un) rfl rfl (nx_mk ?_)⟩; simp only [List.mem_cons, List.not_mem_nil, or_false] at m1 m2; obtain ⟨xw, rfl, hxw⟩ : ∃ x : Str, dw = .str x /\ (x = "moves" \/ x = "stays" \/ x = "lapses") := by
      rcases m1 with rfl | rfl | rfl
      · exact ⟨_, rfl, .inl rfl⟩
      · exact ⟨_, rfl, .inr (.inl rfl)⟩
      · exact ⟨_, rfl, .inr (.inr rfl)⟩
    obtain ⟨xr, rfl, hxr⟩ : ∃ x : Str, dr2 = .str x /\ (x = "fixed" \/ x = "anchor") := by
      rcases m2 with rfl | rfl
      · exact ⟨_, rfl, .inl rfl⟩
      · exact ⟨_, rfl, .inr rfl⟩
    refine ⟨sz2, _, e2, sz8, ?_⟩; exact q "enter" ["number", "number", "way", "rule", "number", "number", "number"] [.i a', .i dd, .s xw, .s xr, .i b', .i cc, .i ee] rfl (.cons pA (.cons pD (.cons (.inr (.inl ⟨rfl, _, rfl, hxw⟩)) (.cons (.inr (.inr ⟨rfl, _, rfl, hxr⟩)) (.cons pB (.cons (pt_num (by omega) (by omega)) (.cons (pt_num (by omega) (by omega)) .nil))))))) (by simp) (by decide +kernel) (by decide +kernel)
  · refine ⟨sz8, _, rfl, gSet_ok (l := .un) rfl rfl (nx_mk ?_)⟩
    refine if_f (RdT.eq (fun Q q => q) rfl) (rnext_mk ?_); exact if_t (RdT.eq (fun Q q => ⟨sz3, rfl, rfl, q⟩) rfl) ⟨sz2, q "strike" ["number"] [.i a'] rfl (.cons pA .nil) (by simp) (by decide +kernel) (by decide +kernel)⟩
  · refine ⟨sz8, _, rfl, gSet_ok (l := .un) rfl rfl (nx_mk ?_)⟩
    refine if_f (RdT.eq (fun Q q => q) rfl) (rnext_mk ?_); refine if_f (RdT.eq (fun Q q => ⟨sz3, rfl, rfl, q⟩) rfl) (rnext_mk ?_); refine if_f (RdT.eq (fun Q q => q) rfl) (rnext_mk ?_); exact ⟨sz3, q "rank" ["number", "number"] [.i b', .i a'] rfl (.cons pB (.cons pA .nil)) (by simp) (by decide +kernel) (by decide +kernel)⟩
  · refine ⟨sz8, _, rfl, gSet_ok (l := .un) rfl rfl (nx_mk ?_)⟩
    refine if_f (RdT.eq (fun Q q => q) rfl) (rnext_mk ?_); refine if_f (RdT.eq (fun Q q => ⟨sz3, rfl, rfl, q⟩) rfl) (rnext_mk ?_); exact if_t (RdT.eq (fun Q q => q) rfl) ⟨sz4, q "shut" ["number", "number", "number"] [.i a', .i b', .i dd] rfl (.cons pA (.cons pB (.cons pD .nil))) (by simp) (by decide +kernel) (by decide +kernel)⟩
  · refine ⟨sz8, _, rfl, gSet_ok (l := .un) rfl rfl (nx_mk ?_)⟩
    refine if_f (RdT.eq (fun Q q => q) rfl) (rnext_mk ?_); refine if_f (RdT.eq (fun Q q => ⟨sz3, rfl, rfl, q⟩) rfl) (rnext_mk ?_); refine if_f (RdT.eq (fun Q q => q) rfl) (rnext_mk ?_); exact ⟨sz3, q "anchor" ["number", "number"] [.i b', .i a'] rfl (.cons pB (.cons pA .nil)) (by simp) (by decide +kernel) (by decide +kernel)⟩
  · refine ⟨sz8, _, rfl, gSet_ok (l := .un) rfl rfl (nx_mk ?_)⟩
    refine if_f (RdT.eq (fun Q q => q) rfl) (rnext_mk ?_); exact if_t (RdT.eq (fun Q q => ⟨sz3, rfl, rfl, q⟩) rfl) ⟨sz2, q "seal" ["number"] [.i a'] rfl (.cons pA .nil) (by simp) (by decide +kernel) (by decide +kernel)⟩
  · refine ⟨sz8, _, rfl, gSet_ok (l := .un) rfl rfl (nx_mk ?_)⟩
    refine if_f (RdT.eq (fun Q q => q) rfl) (rnext_mk ?_); exact if_t (RdT.eq (fun Q q => ⟨sz3, rfl, rfl, q⟩) rfl) ⟨sz2, q "unseal" ["number"] [.i a'] rfl (.cons pA .nil) (by simp) (by decide +kernel) (by decide +kernel)⟩
def Z0 : Sp2 := fun ds Q => ∃ ps : List Pt, ds = [.tup (ps.map Pt.d)] /\ ps ≠ [] /\ Q (.val (.bl true))
theorem Z1 {f : Addr} {fd : FuncData} (F : Fun K "_law_is_order" "_law_is_order" Z2 f fd) (Y5 : Fn2 P w K mg base 1 "_law_whole" Zx) (z_len : mg "len" = none) (z_isinstance : mg "isinstance" = none) (z_tuple : mg "tuple" = none) (z_str : mg "str" = none)  : FnOk P w K mg base CX0 (1 + 1) f fd ["_law_found"] (liftSp K Z0) := by
  refine Wr.fun_ok F Z3 (by rintro ds Qd ⟨c, rfl, _⟩; rfl) (fun cdv A outer s H E hr ds Qd h => ?_); obtain ⟨ps, rfl, hne, q⟩ := h
  refine ⟨_, (Wr.s_cons (Wr.s_if (Wr.PW2_pt (Wr.t_or (Wr.t_not (Wr.t_val (Wr.e_isi (kind_tuple _) z_isinstance z_tuple (Wr.b_var 0)))) (Wr.t_or1 (Wr.t_cmp op_eq lf_eqS (Wr.PE2_bo (Wr.e_len z_len (Wr.ab_cons (Wr.b_var 0) Wr.ab_nil))) (Wr.PE2_bo (Wr.e_int)) (nomark _))))) (Wr.s_one (Wr.s_ret (Wr.e_bl)))
      Wr.s_nil) (Wr.s_cons (Wr.s_forT PassesOwn.never rfl (Wr.e_var 0) (Wr.g_name 1 Z3.nd) (Wr.s_one (Wr.s_if (Wr.PW2_pt (Wr.t_and (Wr.t_not (Wr.t_val (Wr.e_isi (kind_str _) z_isinstance z_str (Wr.b_var 1)))) (Wr.t_and1 (Wr.t_not (Wr.t_val (Wr.e_call Y5 hr (Wr.a_cons (Wr.e_var 1) Wr.a_nil))))))) (Wr.s_one (Wr.s_ret (Wr.e_bl)))
      Wr.s_nil))) (Wr.s_one (Wr.s_ret (Wr.e_bl))))), ?_⟩
  refine if_f (or_ff (not_by (b1 := true) (fun Q q => q)) (RdT.eq (fun Q q => q) (by simp [hne]))) ?_; refine loop_ind (fun ds δ => ∃ todo : List Pt, ds = todo.map Pt.d /\ δ = [.fr (.tup (ps.map Pt.d)), .un]) ?_ ?_ _ _ ⟨ps, rfl, rfl⟩
  · rintro δ ⟨todo, e, rfl⟩
    exact q
  · rintro d r δ L hL ⟨todo, e, rfl⟩
    cases todo with
    | nil => cases e
    | cons p todo =>
      obtain ⟨rfl, rfl⟩ : d = p.d /\ r = todo.map Pt.d := by cases e; exact ⟨rfl, rfl⟩
      have nx : L [.fr (.tup (ps.map Pt.d)), .fr p.d] := hL _ _ ⟨todo, rfl, rfl⟩ (by repeat constructor)
      cases p with
      | i n => exact if_f (RdT.eq (and_by (b1 := true) (b2 := false) (not_by (b1 := false) (fun Q q => q)) (fun _ => not_by (b1 := true) (fun Q q => ⟨n, rfl, q⟩))) rfl) nx
      | s x => exact if_f (and_f (not_by (b1 := true) (fun Q q => q))) nx
theorem join_snoc {sep : Str} : ∀ (xs : List Str) (y : Str), xs ≠ [] -> Txt.join sep (xs ++ [y]) = Txt.join sep xs ++ sep ++ y := by
  intro xs y h
  show Builtin.Str.glued sep (xs ++ [y]) = Builtin.Str.glued sep xs ++ sep ++ y
  rw [StrLaws.glued_eq_join, StrLaws.glued_eq_join]
  induction xs with
  | nil => exact absurd rfl h
  | cons x xs ih =>
    cases xs with
    | nil => rfl
    | cons z r =>
      have := ih (by simp); rw [List.cons_append, List.cons_append, PyProof.Rows.join_cons_cons, <- List.cons_append, this, PyProof.Rows.join_cons_cons]; simp only [Str.append_assoc]
theorem join_len (B : Nat) (xs : List Str) (h : ∀ x ∈ xs, x.length <= B) : (Txt.join " " xs).length <= xs.length * (B + 1) := by
  show (Builtin.Str.glued " " xs).length <= _
  rw [StrLaws.glued_eq_join]; refine Nat.le_trans (StrLaws.join_length_le " " xs) ?_; have : (xs.map (·.length)).sum <= xs.length * B := by
    induction xs with
    | nil => simp
    | cons x xs ih =>
      have h1 := h x (.head _); have h2 := ih fun y hy => h y (.tail _ hy)
      rw [List.map_cons, List.sum_cons, List.length_cons, Nat.succ_mul]; omega
  show _ + xs.length * 1 <= _
  rw [Nat.mul_add]; omega
theorem plain_pts (ps : List Pt) : plainD 60 (.tup (ps.map Pt.d)) = true := by
  simp only [plainD, List.all_map, List.all_eq_true]; intro e _
  cases e <;> rfl
theorem PtsOk.len {ps : List Pt} {w : Str} {ss : List Str} (h : PtsOk ps ss) (hs : sortsOf.lookup w = some ss) : ps.length <= 7 := by
  have e : ps.length = ss.length := by
    clear hs
    induction h with
    | nil => rfl
    | cons _ _ ih => simp [ih]
  have : ∀ q ∈ sortsOf, q.2.length <= 7 := by decide
  have hm : (w, ss) ∈ sortsOf := by
    have : ∀ (l : List (Str × List Str)), l.lookup w = some ss -> (w, ss) ∈ l := by
      intro l
      induction l with
      | nil => intro h; cases h
      | cons q l ih =>
        intro h; obtain ⟨a, b⟩ := q; rw [List.lookup_cons] at h
        split at h
        · rename_i z
          have z := eq_of_beq z; cases h; rw [z]; exact .head _
        · exact .tail _ (ih h)
    exact this _ hs
  have : ss.length <= 7 := this _ hm; omega
theorem PtsOk.ok {ps : List Pt} {ss : List Str} (h : PtsOk ps ss) : ∀ p ∈ ps, p.ok /\ 32 ∉ p.t.cps.toList /\ p.t.length <= 20 := by
  induction h with
  | nil => intro _ z; cases z
  | @cons p s ps ss h t ih =>
    intro x hx
    rcases List.mem_cons.mp hx with rfl | hx
    · rcases h with ⟨_, n, rfl, h0, h1⟩ | ⟨_, y, rfl, hy⟩ | ⟨_, y, rfl, hy⟩
      · exact ⟨small_log (by omega) (by omega), num_free n, by have := (num_ok h0 h1).2.2; show (numT n).length <= 20; omega⟩
      · rcases hy with rfl | rfl | rfl <;> exact ⟨(by show _ <= 100; decide +kernel), (by show 32 ∉ _; decide +kernel), (by show _ <= 20; decide +kernel)⟩
      · rcases hy with rfl | rfl <;> exact ⟨(by show _ <= 100; decide +kernel), (by show 32 ∉ _; decide +kernel), (by show _ <= 20; decide +kernel)⟩
    · exact ih x hx
theorem gOwn_ok {i : Nat} {d : D} {δ : List Sl} {Q : List Sl -> Prop} {l : Sl} (e : δ[i]? = some l) (nl : l.locked = false) (q : Q (δ.set i (.ow d))) : gOwn i d δ Q := by
  unfold gOwn; rw [e]
  cases l with
  | lk p d' => cases nl
  | _ => exact q
def sgn : Str := " !\"#$&'()*+,-./0123456789:;<=>?@ABCDEFGHIJKLMNOPQRSTUVWXYZ[\\]^_`" ++ "abcdefghijklmnopqrstuvwxyz{|}~"
theorem sgn_len : sgn.length = 94 := by decide +kernel
theorem sgn_asc : Asc sgn := by unfold Asc; decide +kernel
def Zu : Sp2 := fun ds Q => ds = [] /\ Q (.val (.str sgn))
theorem Zk {f : Addr} {fd : FuncData} (F : Fun K "_law_signs" "_law_signs" Zm f fd)   : FnOk P w K mg base CX0 (0 + 1) f fd [] (liftSp K Zu) := by
  refine Wr.fun_ok F Zl (by rintro ds Qd ⟨rfl, _⟩; rfl) (fun cdv A outer s H E hr ds Qd h => ?_); obtain ⟨rfl, q⟩ := h
  refine ⟨_, (Wr.s_cons (Wr.s_set 0 Zl.nd (Wr.e_str)) (Wr.s_one (Wr.s_ret (w_catS (Wr.b_var 0) (Wr.PE2_bo (Wr.e_str)))))), ?_⟩
  exact ⟨(by decide +kernel), q⟩
theorem sum_set {f : Str -> Nat} : ∀ (l : List Str) (n : Nat) (a p : Str), l[n]? = some p -> ((l.set n a).map f).sum + f p = (l.map f).sum + f a
  | [], n, a, p, h => by cases h
  | x :: l, 0, a, p, h => by
    cases h; simp only [List.set_cons_zero, List.map_cons, List.sum_cons]; omega
  | x :: l, n + 1, a, p, h => by
    have := sum_set (f := f) l n a p h; simp only [List.set_cons_succ, List.map_cons, List.sum_cons]; omega
theorem sum_swap {f : Str -> Nat} {l : List Str} {n m : Nat} {p q : Str} (hn : l[n]? = some p) (hm : l[m]? = some q) : (((l.set n q).set m p).map f).sum = (l.map f).sum := by
  have h1 := sum_set (f := f) l n q p hn; have hm2 : (l.set n q)[m]? = some q := by
    rw [List.getElem?_set]
    split
    · rename_i e
      subst e; have := (List.getElem?_eq_some_iff.mp hn).1; rw [if_pos this]
    · exact hm
  have h2 := sum_set (f := f) (l.set n q) m p q hm2; omega
theorem sum_take {f : Str -> Nat} (l : List Str) (n : Nat) : ((l.take n).map f).sum + ((l.drop n).map f).sum = (l.map f).sum := by
  conv => rhs; rw [<- List.take_append_drop n l, List.map_append, List.sum_append]
theorem join_ok {xs : List Str} (h : ∀ y ∈ xs, y.length <= 1000) (hl : xs.length <= 1000) : JoinOk " " xs = true := by
  have hj := StrLaws.joinFits (sep := " ") (texts := xs) (B := 1000) h (by show xs.length * 1000 + xs.length * 1 <= 16777216; omega); unfold JoinOk; rw [hj]; rfl
theorem at_nat {α : Type} {l : List α} {n : Nat} (h : n < l.length) : atI l (n : Int) = some l[n] := atI_nat (List.getElem?_eq_getElem h)
theorem atI_str {ps : List Str} {n : Nat} (h : n < ps.length) : atI (ps.map D.str) (n : Int) = some (.str ps[n]) := atI_nat (by rw [List.getElem?_map, List.getElem?_eq_getElem h]; rfl)
abbrev LC (x : Str) (c what place sign other word : Int) (ps : List Str) (at_ one two : Sl) (kept some_ : Sl) : List Sl := [.fr (.str x), .fr (.int c), .fr (.int what), .fr (.int place), .fr (.int sign), .fr (.int other), .fr (.int word), .fr (.str sgn), .ow (.lst (ps.map D.str)), at_, one, two, kept, some_]
def words12 : List Str := ["", "-", "-0", "0", "00", "01", "-01", "+1", "1-", "--1", "1000000000000", "999999999999"]
def words20 : List Str := words12 ++ (["-999999999999", "moves", "stays", "fixed", "anchor", "seal", "strike", "Moves"] : List Str)
theorem words_ok : ∀ y ∈ words20, Asc y /\ y.length <= 13 := by unfold Asc; decide +kernel
def Z5 : Sp2 := fun ds Q => ∃ (x : Str) (c : Int), ds = [.str x, .int c] /\ Asc x /\ x.length <= 230 /\ ∀ y : Str, Asc y -> y.length <= 2 * x.length + 15 -> Q (.val (.str y))
theorem Z6 {f : Addr} {fd : FuncData} (F : Fun K "_law_changed" "_law_changed" Z7 f fd) (Y3 : Fn2 P w K mg base 2 "_law_digits" Zh) (Y7 : Fn2 P w K mg base 2 "_law_signs" Zu) (z_len : mg "len" = none)  : FnOk P w K mg base CX0 (2 + 1) f fd ["_law_text", "_law_cell_here"] (liftSp K Z5) := by
  refine Wr.fun_ok F Z8 (by rintro ds Qd ⟨x, c, rfl, _⟩; rfl) (fun cdv A outer s H E hr ds Qd h => ?_); obtain ⟨x, c, rfl, ha, hl, q⟩ := h
  refine ⟨_, (Wr.s_cons (Wr.s_asg (Wr.e_call Y3 hr (Wr.a_cons (Wr.e_var 1) (Wr.a_cons (Wr.PN2_fx (Wr.n_lst (Wr.a_cons (Wr.e_int) (Wr.a_cons (Wr.e_int) (Wr.a_cons (Wr.e_int) (Wr.a_cons (Wr.e_int) (Wr.a_cons (Wr.e_int) Wr.a_nil))))))) Wr.a_nil))) (Wr.g_lst (n := 5) rfl (Wr.gs_cons (Wr.g_name 2 Z8.nd) (Wr.gs_cons (Wr.g_name 3 Z8.nd) (Wr.gs_cons (Wr.g_name 4 Z8.nd) (Wr.gs_cons (Wr.g_name 5 Z8.nd) (Wr.gs_cons (Wr.g_name 6 Z8.nd) Wr.gs_nil))))))) (Wr.s_cons (Wr.s_set 7 Z8.nd (w_call0 Y7 hr)) (Wr.s_cons (Wr.s_setN 8 Z8.nd (w_split (Wr.e_var 0) (Wr.e_str))) (Wr.s_cons (Wr.s_set 9 Z8.nd (Wr.e_mod (Wr.b_var 3) (Wr.PE2_bo (Wr.e_add (Wr.PE2_bo (w_lenS z_len (Wr.ab_cons (Wr.b_var 0) Wr.ab_nil))) (Wr.PE2_bo (Wr.e_int)))))) (Wr.s_cons (Wr.s_if (Wr.t_cmp op_eq lf_eqS (Wr.b_var 2) (Wr.PE2_bo (Wr.e_int)) (nomark _)) (Wr.s_one (Wr.s_ret (w_catS (Wr.PE2_bo (w_catS (Wr.PE2_bo (w_slS (Wr.b_var 0) Wr.o_none (Wr.o_some (Wr.b_var 9)))) (Wr.PE2_bo (w_ixS (Wr.b_var 7) (Wr.b_var 4))))) (Wr.PE2_bo (w_slS (Wr.b_var 0) (Wr.o_some (Wr.b_var 9)) Wr.o_none)))))
      Wr.s_nil) (Wr.s_cons (Wr.s_if (Wr.t_cmp op_eq lf_eqS (Wr.b_var 2) (Wr.PE2_bo (Wr.e_int)) (nomark _)) (Wr.s_one (Wr.s_ret (w_catS (Wr.PE2_bo (w_slS (Wr.b_var 0) Wr.o_none (Wr.o_some (Wr.b_var 9)))) (Wr.PE2_bo (w_slS (Wr.b_var 0) (Wr.o_some (Wr.PE2_bo (Wr.e_add (Wr.b_var 9) (Wr.PE2_bo (Wr.e_int))))) Wr.o_none)))))
      Wr.s_nil) (Wr.s_cons (Wr.s_if (Wr.t_cmp op_eq lf_eqS (Wr.b_var 2) (Wr.PE2_bo (Wr.e_int)) (nomark _)) (Wr.s_one (Wr.s_ret (w_catS (Wr.PE2_bo (w_catS (Wr.PE2_bo (w_slS (Wr.b_var 0) Wr.o_none (Wr.o_some (Wr.b_var 9)))) (Wr.PE2_bo (w_ixS (Wr.b_var 7) (Wr.b_var 4))))) (Wr.PE2_bo (w_slS (Wr.b_var 0) (Wr.o_some (Wr.PE2_bo (Wr.e_add (Wr.b_var 9) (Wr.PE2_bo (Wr.e_int))))) Wr.o_none)))))
      Wr.s_nil) (Wr.s_cons (Wr.s_set 10 Z8.nd (Wr.e_mod (Wr.b_var 3) (Wr.PE2_bo (Wr.e_len z_len (Wr.ab_cons (Wr.b_var 8) Wr.ab_nil))))) (Wr.s_cons (Wr.s_set 11 Z8.nd (Wr.e_mod (Wr.b_var 5) (Wr.PE2_bo (Wr.e_len z_len (Wr.ab_cons (Wr.b_var 8) Wr.ab_nil))))) (Wr.s_cons (Wr.s_if (Wr.t_cmp op_eq lf_eqS (Wr.b_var 2) (Wr.PE2_bo (Wr.e_int)) (nomark _)) (Wr.s_one (Wr.s_ret (w_join (Wr.PN2_bo (Wr.n_cat (Wr.PN2_bo (Wr.n_slL (Wr.b_var 8) Wr.o_none (Wr.o_some (Wr.b_var 10)))) (Wr.PN2_bo (Wr.n_slL (Wr.b_var 8) (Wr.o_some (Wr.PE2_bo (Wr.e_add (Wr.b_var 10) (Wr.PE2_bo (Wr.e_int))))) Wr.o_none)))))))
      Wr.s_nil) (Wr.s_cons (Wr.s_if (Wr.t_cmp op_eq lf_eqS (Wr.b_var 2) (Wr.PE2_bo (Wr.e_int)) (nomark _)) (Wr.s_one (Wr.s_ret (w_join (Wr.PN2_bo (Wr.n_cat (Wr.PN2_bo (Wr.n_cat (Wr.PN2_bo (Wr.n_slL (Wr.b_var 8) Wr.o_none (Wr.o_some (Wr.b_var 10)))) (Wr.PN2_bo (Wr.n_lst (Wr.a_cons (Wr.e_ix (Wr.b_var 8) (Wr.b_var 10)) Wr.a_nil))))) (Wr.PN2_bo (Wr.n_slL (Wr.b_var 8) (Wr.o_some (Wr.b_var 10)) Wr.o_none)))))))
      Wr.s_nil) (Wr.s_cons (Wr.s_if (Wr.t_cmp op_eq lf_eqS (Wr.b_var 2) (Wr.PE2_bo (Wr.e_int)) (nomark _)) (Wr.s_cons (Wr.s_set 12 Z8.nd (Wr.e_ix (Wr.b_var 8) (Wr.b_var 10))) (Wr.s_cons (Wr.s_lput 8 (Wr.e_var 10) (Wr.e_ix (Wr.b_var 8) (Wr.b_var 11))) (Wr.s_cons (Wr.s_lput 8 (Wr.e_var 11) (Wr.e_var 12)) (Wr.s_one (Wr.s_ret (w_join (Wr.b_var 8)))))))
      Wr.s_nil) (Wr.s_cons (Wr.s_set 13 Z8.nd (Wr.PN2_fx (Wr.n_lst (Wr.a_cons (Wr.e_str) (Wr.a_cons (Wr.e_str) (Wr.a_cons (Wr.e_str) (Wr.a_cons (Wr.e_str) (Wr.a_cons (Wr.e_str) (Wr.a_cons (Wr.e_str) (Wr.a_cons (Wr.e_str) (Wr.a_cons (Wr.e_str) (Wr.a_cons (Wr.e_str) (Wr.a_cons (Wr.e_str) (Wr.a_cons (Wr.e_str) (Wr.a_cons (Wr.e_str) Wr.a_nil))))))))))))))) (Wr.s_cons (Wr.s_set 13 Z8.nd (Wr.PN2_fx (Wr.n_cat (Wr.b_var 13) (Wr.PN2_bo (Wr.n_lst (Wr.a_cons (Wr.e_str) (Wr.a_cons (Wr.e_str) (Wr.a_cons (Wr.e_str) (Wr.a_cons (Wr.e_str) (Wr.a_cons (Wr.e_str) (Wr.a_cons (Wr.e_str) (Wr.a_cons (Wr.e_str) (Wr.a_cons (Wr.e_str) Wr.a_nil))))))))))))) (Wr.s_cons (Wr.s_lput 8 (Wr.e_var 10) (Wr.e_ix (Wr.b_var 13) (Wr.b_var 6))) (Wr.s_one (Wr.s_ret (w_join (Wr.b_var 8))))))))))))))))))), ?_⟩
  have big : ∀ {n : Nat}, n <= 10000 -> n <= sizeLine := fun h => Nat.le_trans h (by decide)
  have hz : x.length <= sizeLine := big (by omega); refine ⟨sz5, c, [7, 61, 94, 11, 20], rfl, by decide, by decide, Drawn.five fun what place sign other word w0 w1 p0 p1 s0 s1 o0 o1 v0 v1 => ⟨rfl, ?_⟩⟩; refine ⟨rfl, _, rfl, ?_⟩; refine ⟨x, rfl, " ", rfl, ⟨by decide, by omega⟩, ?_⟩; have hne := split_ne x " "; have hsum := split_sum x; have hpl := parts_le x; have hpa : ∀ p ∈ Txt.split x " ", Asc p := fun p hp => ha.part hp
  have hple : ∀ p ∈ Txt.split x " ", p.length <= x.length := fun p hp => part_le hp
  generalize hps : Txt.split x " " = ps at hne hsum hpl hpa hple; have hpos : 0 < ps.length := List.length_pos_iff.mpr hne
  show gOwn 8 (D.lst ((Txt.split x " ").map D.str)) _ _
  rw [hps]; refine gOwn_ok (l := .un) rfl rfl (nx_mk ?_); refine ⟨x, rfl, hz, (by show (0 : Int) < (x.length : Int) + 1; omega), ?_⟩; obtain ⟨at_, eat⟩ : ∃ at_ : Nat, place % ((x.length : Int) + 1) = at_ := ⟨(place % ((x.length : Int) + 1)).toNat, by have := Int.emod_nonneg place (show (x.length : Int) + 1 ≠ 0 by omega); omega⟩; refine gSet_ok (l := .un) rfl rfl (nx_mk ?_)
  show rSeq _ _ _ (LC x c what place sign other word ps (.fr (.int (place % ((x.length : Int) + 1)))) .un .un .un .un)
  rw [eat]; obtain ⟨sn, rfl⟩ := Int.eq_ofNat_of_zero_le s0; have hsn : sn < sgn.cps.toList.length := by rw [<- len_list, sgn_len]; omega
  have hat : atI sgn.cps.toList (sn : Int) = some (sgn.cps.toList[sn]) := at_nat hsn; have asg : Asc ⟨#[sgn.cps.toList[sn]]⟩ := fun d hd => by
    have : d = sgn.cps.toList[sn] := by simpa using hd
    rw [this]; exact sgn_asc _ (List.getElem_mem hsn)
  have c1 : ∀ lo hi, (cutS x lo hi).length <= x.length := cut_len x; have two : ∀ (a b : Str), (a ++ b).length = a.length + b.length := strLen_append; have one1 : ∀ c : Nat, (⟨#[c]⟩ : Str).length = 1 := fun _ => rfl
  refine if_eq (p := what = 0) (fun Q q => q) (fun _ => ?_) (fun n0 => rnext_mk ?_)
  · have h1 := c1 none (some (at_ : Int))
    have h2 := c1 (some (at_ : Int)) none; refine ⟨x, rfl, hz, sgn, sn, _, rfl, rfl, (by rw [sgn_len]; decide), hat, big (by rw [one1]; omega), x, rfl, hz, big (by rw [two, one1]; omega), ?_⟩; exact q _ ((ha.cut _ _ |>.cat asg).cat (ha.cut _ _)) (by rw [two, two, one1]; omega)
  refine if_eq (p := what = 1) (fun Q q => q) (fun _ => ?_) (fun n1 => rnext_mk ?_)
  · have h1 := c1 none (some (at_ : Int))
    have h2 := c1 (some ((at_ : Int) + 1)) none; refine ⟨x, rfl, hz, x, rfl, hz, big (by omega), ?_⟩; exact q _ ((ha.cut _ _).cat (ha.cut _ _)) (by rw [two]; omega)
  refine if_eq (p := what = 2) (fun Q q => q) (fun _ => ?_) (fun n2 => rnext_mk ?_)
  · have h1 := c1 none (some (at_ : Int))
    have h2 := c1 (some ((at_ : Int) + 1)) none; refine ⟨x, rfl, hz, sgn, sn, _, rfl, rfl, (by rw [sgn_len]; decide), hat, big (by rw [one1]; omega), x, rfl, hz, big (by rw [two, one1]; omega), ?_⟩; exact q _ ((ha.cut _ _ |>.cat asg).cat (ha.cut _ _)) (by rw [two, two, one1]; omega)
  have hpi : (0 : Int) < ((ps.map D.str).length : Int) := by rw [List.length_map]; omega
  refine ⟨hpi, gSet_ok (l := .un) rfl rfl (nx_mk ?_)⟩; refine ⟨hpi, gSet_ok (l := .un) rfl rfl (nx_mk ?_)⟩
  obtain ⟨n, en, hn⟩ : ∃ n : Nat, place % ((ps.map D.str).length : Int) = n /\ n < ps.length := ⟨(place % ((ps.map D.str).length : Int)).toNat, by have := Int.emod_nonneg place (show ((ps.map D.str).length : Int) ≠ 0 by omega); omega, by
    have h1 := Int.emod_nonneg place (show ((ps.map D.str).length : Int) ≠ 0 by omega); have h2 := Int.emod_lt_of_pos place hpi; rw [List.length_map] at h1 h2 ⊢
    omega⟩
  obtain ⟨m, em, hm⟩ : ∃ n : Nat, other % ((ps.map D.str).length : Int) = n /\ n < ps.length := ⟨(other % ((ps.map D.str).length : Int)).toNat, by have := Int.emod_nonneg other (show ((ps.map D.str).length : Int) ≠ 0 by omega); omega, by
    have h1 := Int.emod_nonneg other (show ((ps.map D.str).length : Int) ≠ 0 by omega); have h2 := Int.emod_lt_of_pos other hpi; rw [List.length_map] at h1 h2 ⊢
    omega⟩
  show rSeq _ _ _ (LC x c what place sn other word ps (.fr (.int at_)) (.fr (.int (place % ((ps.map D.str).length : Int)))) (.fr (.int (other % ((ps.map D.str).length : Int)))) .un .un)
  rw [en, em]; have tk : ∀ k : Nat, cutD (ps.map D.str) none (some (k : Int)) = (ps.take k).map D.str := fun k => by rw [cut_to, List.map_take]
  have dp : ∀ k : Nat, cutD (ps.map D.str) (some (k : Int)) none = (ps.drop k).map D.str := fun k => by rw [cut_from, List.map_drop]
  have fin : ∀ ys : List Str, (∀ y ∈ ys, Asc y /\ y.length <= 1000) -> ys.length <= 1000 -> (ys.map fun p => p.length + 1).sum <= 2 * x.length + 15 -> ∃ xs : List Str, D.lst (ys.map D.str) = .lst (xs.map D.str) /\ JoinOk " " xs = true /\ Qd (.val (.str (Txt.join " " xs))) := fun ys h1 h2 h3 =>
    ⟨ys, rfl, join_ok (fun y hy => (h1 y hy).2) h2, q _ (Asc.join fun y hy => (h1 y hy).1) (Nat.le_trans (join_sum ys) h3)⟩
  have psok : ∀ p ∈ ps, Asc p /\ p.length <= 1000 := fun p hp => ⟨hpa p hp, by have := hple p hp; omega⟩
  refine if_eq (p := what = 3) (fun Q q => q) (fun _ => ?_) (fun n3 => rnext_mk ?_)
  · have hs := sum_take (f := fun p => p.length + 1) ps n
    have hd : ((ps.drop (n + 1)).map fun p => p.length + 1).sum <= ((ps.drop n).map fun p => p.length + 1).sum := by
      rw [List.drop_eq_getElem_cons hn, List.map_cons, List.sum_cons]; omega
    have e2 := dp (n + 1); rw [Int.natCast_add] at e2; have l1 : (ps.take n).length <= ps.length := by rw [List.length_take]; omega
    have l2 : (ps.drop (n + 1)).length <= ps.length := by rw [List.length_drop]; omega
    refine ⟨big (by rw [tk, show ((n : Int) + 1) = ((n : Nat) : Int) + ((1 : Nat) : Int) from rfl, e2, List.length_map, List.length_map]; omega), ?_⟩; rw [tk, show ((n : Int) + 1) = ((n : Nat) : Int) + ((1 : Nat) : Int) from rfl, e2, <- List.map_append]; exact fin _ (fun y hy => psok y ((List.mem_append.mp hy).elim List.mem_of_mem_take List.mem_of_mem_drop)) (by rw [List.length_append]; omega) (by rw [List.map_append, List.sum_append]; omega)
  refine if_eq (p := what = 4) (fun Q q => q) (fun _ => ?_) (fun n4 => rnext_mk ?_)
  · have hs := sum_take (f := fun p => p.length + 1) ps n
    have hd : ps[n].length + 1 <= ((ps.drop n).map fun p => p.length + 1).sum := by
      rw [List.drop_eq_getElem_cons hn, List.map_cons, List.sum_cons]; omega
    have l1 : (ps.take n).length <= ps.length := by rw [List.length_take]; omega
    have l2 : (ps.drop n).length <= ps.length := by rw [List.length_drop]; omega
    refine ⟨_, atI_str hn, sz1, big (by rw [tk, List.length_map]; show _ + 1 <= _; omega), big (by rw [tk, dp, List.length_append, List.length_map, List.length_map]; show _ + 1 + _ <= _; omega), ?_⟩; rw [tk, dp, show [D.str ps[n]] = [ps[n]].map D.str from rfl, <- List.map_append, <- List.map_append]; refine fin _ (fun y hy => psok y ?_) (by rw [List.length_append, List.length_append]; show _ + 1 + _ <= _; omega) (by rw [List.map_append, List.map_append, List.sum_append, List.sum_append]; show _ + (ps[n].length + 1 + 0) + _ <= _; omega)
    rcases List.mem_append.mp hy with h | h
    · rcases List.mem_append.mp h with h | h
      · exact List.mem_of_mem_take h
      · rw [List.mem_singleton.mp h]; exact List.getElem_mem hn
    · exact List.mem_of_mem_drop h
  have st : ∀ (l : List Str) (k : Nat) (a : Str), (l.map D.str).set k (.str a) = (l.set k a).map D.str := fun l k a => (List.map_set ..).symm
  refine if_eq (p := what = 5) (fun Q q => q) (fun _ => ?_) (fun n5 => rnext_mk ?_)
  · refine ⟨_, atI_str hn, gSet_ok (l := .un) rfl rfl (nx_mk ?_)⟩
    refine ⟨_, atI_str hm, (by show (0 : Int) <= (n : Int); omega), (by rw [List.length_map]; omega), ?_⟩
    show rSeq _ _ _ ((LC x c what place sn other word ps (.fr (.int at_)) (.fr (.int n)) (.fr (.int m)) (.fr (.str ps[n])) .un).set 8 (.ow (.lst ((ps.map D.str).set (n : Int).toNat (.str ps[m])))))
    rw [Int.toNat_natCast, st]; refine ⟨(by show (0 : Int) <= (m : Int); omega), (by rw [List.length_map, List.length_set]; omega), ?_⟩; refine nx_mk ?_; rw [Int.toNat_natCast, st]; refine fin ((ps.set n ps[m]).set m ps[n]) (fun y hy => psok y ?_) (by rw [List.length_set, List.length_set]; omega) ?_
    · rcases List.mem_or_eq_of_mem_set hy with h | h
      · rcases List.mem_or_eq_of_mem_set h with h | h
        · exact h
        · rw [h]; exact List.getElem_mem hm
      · rw [h]; exact List.getElem_mem hn
    · rw [sum_swap (List.getElem?_eq_getElem hn) (List.getElem?_eq_getElem hm)]; omega
  refine ⟨(by show 12 <= sizeLine; decide), gSet_ok (l := .un) rfl rfl (nx_mk ?_)⟩; refine ⟨sz8, (by show 12 + 8 <= sizeLine; decide), gSet_ok (l := .fr (.lst (words12.map D.str))) rfl rfl (nx_mk ?_)⟩; obtain ⟨dw, ew, mw⟩ := atI_in (xs := words20.map D.str) v0 (by show word < 20; exact v1); obtain ⟨y, my, rfl⟩ := List.mem_map.mp mw; obtain ⟨ya, yl⟩ := words_ok y my; refine ⟨_, ew, (by show (0 : Int) <= (n : Int); omega), (by rw [List.length_map]; omega), ?_⟩; refine nx_mk ?_; rw [Int.toNat_natCast, st]; have h1 := sum_set (f := fun p => p.length + 1) ps n y _ (List.getElem?_eq_getElem hn); refine fin (ps.set n y) (fun z hz => ?_) (by rw [List.length_set]; omega) (by omega)
  rcases List.mem_or_eq_of_mem_set hz with h | h
  · exact psok z h
  · rw [h]; exact ⟨ya, by omega⟩
theorem figs_cps : ("0123456789" : Str).cps.toList = [48, 49, 50, 51, 52, 53, 54, 55, 56, 57] := by decide +kernel
theorem fig_in (c : Nat) : (!(Builtin.Str.occurrences ("0123456789" : Str) ⟨#[c]⟩ 0 ("0123456789" : Str).length 1).isEmpty) = decide (48 <= c /\ c <= 57) := by
  rw [StrLaws.found_one, figs_cps, decide_eq_decide]; simp only [List.mem_cons, List.not_mem_nil, or_false]; omega
theorem cut1 {x : Str} {cs : List Nat} {c : Nat} (h : x.cps.toList = c :: cs) : (cutS x (some 1) none).cps.toList = cs := by
  have hl : x.length = cs.length + 1 := by rw [len_list, h]; rfl
  unfold cutS; rw [show (some (1 : Int)) = some ((1 : Nat) : Int) from rfl, sIx_nat, h, hl]; have e1 : min 1 (cs.length + 1) = 1 := by omega
  have e2 : HT.sIx (cs.length + 1) (cs.length + 1) none = cs.length + 1 := rfl; rw [e1, e2]; simp
theorem cut1_is {x : Str} {cs : List Nat} (h : x.cps.toList = 45 :: cs) : cutS x (some 1) none = Txt.removeprefix x "-" := str_ext (by rw [cut1 h, minus_cps, rempre_yes h])
theorem str1 {x : Str} {c : Nat} (h : x.cps.toList = [c]) : x = ⟨#[c]⟩ := str_ext (by rw [h])
def Ze : Sp2 := fun ds Q => ∃ x : Str, ds = [.str x] /\ Asc x /\ x.length <= 1000 /\ (isNumM x = true -> ∀ n, intText? x = some n -> Q (.val (.int n))) /\ (isNumM x = false -> Q (.val .non))
theorem Zi {f : Addr} {fd : FuncData} (F : Fun K "_law_number" "_law_number" Za f fd)  (z_len : mg "len" = none) (z_int : mg "int" = none)  : FnOk P w K mg base CX0 (0 + 1) f fd ["_law_word"] (liftSp K Ze) := by
  refine Wr.fun_ok F Zc (by rintro ds Qd ⟨x, rfl, _⟩; rfl) (fun cdv A outer s H E hr ds Qd h => ?_); obtain ⟨x, rfl, ha, hl, qt, qf⟩ := h
  refine ⟨_, (Wr.s_cons (Wr.s_set 1 Zc.nd (Wr.e_var 0)) (Wr.s_cons (Wr.s_if (Wr.PW2_pt (Wr.t_and (Wr.t_cmp op_ne lf_neS (Wr.b_var 0) (Wr.PE2_bo (Wr.e_str)) (nomark _)) (Wr.t_and1 (Wr.t_cmp op_eq lf_eqS (Wr.PE2_bo (w_ixS (Wr.b_var 0) (Wr.PE2_bo (Wr.e_int)))) (Wr.PE2_bo (Wr.e_str)) (nomark _))))) (Wr.s_one (Wr.s_set 1 Zc.nd (w_slS (Wr.b_var 0) (Wr.o_some (Wr.PE2_bo (Wr.e_int))) Wr.o_none)))
      Wr.s_nil) (Wr.s_cons (Wr.s_if (Wr.PW2_pt (Wr.t_or (Wr.t_cmp op_eq lf_eqS (Wr.b_var 1) (Wr.PE2_bo (Wr.e_str)) (nomark _)) (Wr.t_or (Wr.t_cmp op_gt lf_gt (Wr.PE2_bo (w_lenS z_len (Wr.ab_cons (Wr.b_var 1) Wr.ab_nil))) (Wr.PE2_bo (Wr.e_int)) (nomark _)) (Wr.t_or1 (Wr.t_cmp op_eq lf_eqS (Wr.b_var 0) (Wr.PE2_bo (Wr.e_str)) (nomark _)))))) (Wr.s_one (Wr.s_ret (Wr.e_non)))
      Wr.s_nil) (Wr.s_cons (w_forS PassesOwn.never rfl (Wr.e_var 1) (Wr.g_name 2 Zc.nd) (Wr.s_one (Wr.s_if (Wr.t_cmp op_notin_str lf_ninS (Wr.b_var 2) (Wr.PE2_bo (Wr.e_str)) rfl) (Wr.s_one (Wr.s_ret (Wr.e_non)))
      Wr.s_nil))) (Wr.s_cons (Wr.s_if (Wr.PW2_pt (Wr.t_and (Wr.t_cmp op_eq lf_eqS (Wr.PE2_bo (w_ixS (Wr.b_var 1) (Wr.PE2_bo (Wr.e_int)))) (Wr.PE2_bo (Wr.e_str)) (nomark _)) (Wr.t_and1 (Wr.t_cmp op_gt lf_gt (Wr.PE2_bo (w_lenS z_len (Wr.ab_cons (Wr.b_var 1) Wr.ab_nil))) (Wr.PE2_bo (Wr.e_int)) (nomark _))))) (Wr.s_one (Wr.s_ret (Wr.e_non)))
      Wr.s_nil) (Wr.s_one (Wr.s_ret (w_intS z_int (Wr.ab_cons (Wr.b_var 0) Wr.ab_nil))))))))), ?_⟩
  have hz : x.length <= sizeLine := Nat.le_trans hl (by decide); refine set_by (d := .str x) (fun Q q => q) (gSet_ok (l := .un) rfl rfl (nx_mk ?_)); refine seq_by (fun δ => δ = [.fr (.str x), .fr (.str (Txt.removeprefix x "-")), .un]) (fun L hL => ?_) ?_
  · cases hx : x.cps.toList with
    | nil =>
      have e0 : x = "" := str_ext (by rw [hx]; decide +kernel); refine if_f (and_f (RdT.eq (fun Q q => q) (by rw [decide_eq_true e0]; rfl))) (rnext_mk (hL _ ?_)); rw [minus_cps, rempre_no (by rw [hx]; exact fun z => by cases z)]; rfl
    | cons c cs =>
      have ne0 : ¬ x = "" := fun z => by
        have := congrArg (fun s : Str => s.cps.toList) z; rw [hx] at this
        exact absurd this (by have : ("" : Str).cps.toList = [] := by decide +kernel
                              rw [this]; simp)
      have at0 : atI x.cps.toList 0 = some c := by rw [hx]; exact atI_nat (j := 0) rfl
      have eqc : decide ((⟨#[c]⟩ : Str) = "-") = decide (c = 45) := by
        rw [decide_eq_decide, minus_cps]
        constructor
        · intro z; have := congrArg (fun s : Str => s.cps.toList) z; simpa using this
        · intro z; rw [z]
      refine if_by (b := decide (c = 45)) (RdT.eq (and_by (b1 := true) (b2 := decide (c = 45)) (RdT.eq (fun Q q => q) (by rw [decide_eq_false ne0]; rfl)) (fun _ => RdT.eq (fun Q q => ⟨x, 0, c, rfl, rfl, hz, at0, q⟩) (by rw [eqc]; cases decide (c = 45) <;> rfl))) (Bool.true_and _)) (fun hc => ?_) (fun hc => ?_)
      · have hc := of_decide_eq_true hc
        subst hc; refine ⟨x, rfl, hz, ?_⟩; refine gSet_ok (l := .fr (.str x)) rfl rfl (nx_mk (hL _ ?_)); rw [cut1_is hx]; rfl
      · have hc := of_decide_eq_false hc
        refine rnext_mk (hL _ ?_); rw [minus_cps, rempre_no (by rw [hx]; intro z; exact hc (Option.some.inj z))]; rfl
  rintro δ rfl; have fa := rempre_asc ha; have fl := rempre_len x; have hxf : (x.cps.toList.head? ≠ some 45 /\ x = Txt.removeprefix x "-") \/ x.cps.toList = 45 :: (Txt.removeprefix x "-").cps.toList := by
    by_cases hh : x.cps.toList.head? = some 45
    · cases hx : x.cps.toList with
      | nil => rw [hx] at hh; cases hh
      | cons c cs =>
        rw [hx] at hh; cases hh
        right
        rw [minus_cps, rempre_yes hx]
    · left
      exact ⟨hh, by rw [minus_cps, rempre_no hh]⟩
  unfold isNumM at qt qf; generalize Txt.removeprefix x "-" = f at fa fl hxf qt qf; have fz : f.length <= sizeLine := Nat.le_trans fl hz
  refine if_by (or_by (b1 := decide (f = "")) (b2 := decide (f.length > 12) || decide (x = "-0")) (RdT.eq (fun Q q => q) (by cases decide (f = "") <;> rfl)) (fun _ => or_by (b1 := decide (f.length > 12)) (b2 := decide (x = "-0")) (RdT.eq (fun Q q => ⟨f, rfl, fz, q⟩) (by rw [decide_eq_decide]; omega)) (fun _ => RdT.eq (fun Q q => q) (by cases decide (x = "-0") <;> rfl)))) (fun hc => ?_) (fun hc => rnext_mk ?_)
  · refine qf ?_
    rcases Bool.or_eq_true_iff.mp hc with z | z
    · rw [of_decide_eq_true z]
      have : Txt.isdigit "" = false := by decide +kernel
      rw [this]; rfl
    rcases Bool.or_eq_true_iff.mp z with z | z
    · have := of_decide_eq_true z
      rw [decide_eq_false (show ¬ f.length <= 12 by omega)]; simp
    · have z := of_decide_eq_true z
      have ef : f.cps.toList = [48] := by
        have hx : x.cps.toList = [45, 48] := by rw [z]; decide +kernel
        rcases hxf with ⟨e, _⟩ | e
        · rw [hx] at e; exact absurd rfl e
        · rw [hx] at e
          exact (List.cons.inj e).2.symm
      have e1 : decide (x = "0") = false := decide_eq_false (by rw [z]; decide +kernel); rw [e1, nought_cps, starts_yes ef]; simp
  rw [Bool.or_eq_false_iff, Bool.or_eq_false_iff] at hc; have hne : ¬ f = "" := of_decide_eq_false hc.1; have h12 : f.length <= 12 := by have := of_decide_eq_false hc.2.1; omega
  have hm0 : ¬ x = "-0" := of_decide_eq_false hc.2.2; have hnil : f.cps.toList ≠ [] := fun z => hne (str_ext (by rw [z]; decide +kernel))
  refine seq_by (fun δ => NumText.AllDigits f.cps.toList /\ ∃ a : Sl, δ = [.fr (.str x), .fr (.str f), a]) (fun L hL => ?_) ?_
  · refine ⟨f, rfl, fa.all, ?_⟩
    refine loop_ind (fun ds δ => ∃ done todo : List Nat, ds = todo.map (fun c => D.str ⟨#[c]⟩) /\ f.cps.toList = done ++ todo /\ NumText.AllDigits done /\ δ = [.fr (.str x), .fr (.str f), .un]) ?_ ?_ _ _ ⟨[], f.cps.toList, rfl, rfl, (fun _ z => by cases z), rfl⟩
    · rintro δ ⟨done, todo, e, ef, hd, rfl⟩
      cases todo with
      | cons c todo => cases e
      | nil =>
        rw [List.append_nil] at ef; rw [<- ef] at hd; exact hL _ ⟨hd, _, rfl⟩
    · rintro d r δ L2 hL2 ⟨done, todo, e, ef, hd, rfl⟩
      cases todo with
      | nil => cases e
      | cons c todo =>
      obtain ⟨rfl, rfl⟩ : d = .str ⟨#[c]⟩ /\ r = todo.map (fun c => D.str ⟨#[c]⟩) := by cases e; exact ⟨rfl, rfl⟩
      refine if_by (b := !decide (48 <= c /\ c <= 57)) (RdT.eq (fun Q q => ⟨_, _, rfl, rfl, q⟩) (by rw [fig_in])) (fun hb => ?_) (fun hb => ?_)
      · refine qf ?_
        have : Txt.isdigit f = false := by
          cases hi : Txt.isdigit f with
          | false => rfl
          | true =>
            have := (isdig_asc fa hi).1 c (by rw [ef]; simp); rw [decide_eq_true this] at hb; cases hb
        rw [this]; rfl
      · have hb : 48 <= c /\ c <= 57 := by simpa using hb
        refine rnext_mk (hL2 _ _ ⟨done ++ [c], todo, rfl, by rw [ef]; simp, fun z hz => ?_, rfl⟩ (by repeat constructor))
        rcases List.mem_append.mp hz with h | h
        · exact hd z h
        · rw [List.mem_singleton.mp h]; exact hb
  rintro δ ⟨had, a, rfl⟩; have hid : Txt.isdigit f = true := isdig_of had hnil; rw [hid, decide_eq_true h12, Bool.true_and, Bool.true_and] at qt qf
  cases hf : f.cps.toList with
  | nil => exact absurd hf hnil
  | cons c cs =>
  have at0 : atI f.cps.toList 0 = some c := by rw [hf]; exact atI_nat (j := 0) rfl
  have eqc : decide ((⟨#[c]⟩ : Str) = "0") = decide (c = 48) := by
    rw [decide_eq_decide, nought_cps]
    constructor
    · intro z; have := congrArg (fun s : Str => s.cps.toList) z; simpa using this
    · intro z; rw [z]
  have flen : f.length = cs.length + 1 := by rw [len_list, hf]; rfl
  refine if_by (b := decide (c = 48) && decide (cs ≠ [])) (and_by (b1 := decide (c = 48)) (b2 := decide (cs ≠ [])) (RdT.eq (fun Q q => ⟨f, 0, c, rfl, rfl, fz, at0, q⟩) (by rw [eqc]; cases decide (c = 48) <;> rfl)) (fun _ => RdT.eq (fun Q q => ⟨f, rfl, fz, q⟩) (by
      rw [decide_eq_decide, flen]
      cases cs with
      | nil => simp
      | cons y cs => simp; omega))) (fun hb => ?_) (fun hb => rnext_mk ?_)
  · rw [Bool.and_eq_true, decide_eq_true_iff, decide_eq_true_iff] at hb
    obtain ⟨rfl, hcs⟩ := hb; refine qf ?_; rw [nought_cps, starts_yes hf, decide_eq_false (fun z => ?_)]
    · rfl
    · have hx : x.cps.toList = [48] := by rw [z]
      rcases hxf with ⟨_, e⟩ | e
      · rw [<- e, hx] at hf
        cases hf; exact hcs rfl
      · rw [hx, hf] at e; cases e
  · have good : (decide (x = "0") || !Txt.startswith f "0") = true := by
      by_cases hc0 : c = 48
      · subst hc0
        have hcs : cs = [] := by simpa using hb
        subst hcs
        rcases hxf with ⟨_, e⟩ | e
        · rw [decide_eq_true (by rw [e, str1 hf, nought_cps])]; rfl
        · exact absurd (str_ext (by rw [e, hf]; decide +kernel)) hm0
      · rw [nought_cps, starts_no (by rw [hf]; intro z; exact hc0 (Option.some.inj z))]
        simp
    have hnum : isNumM x = true \/ True := .inr trivial; obtain ⟨n, hn, hxl⟩ : ∃ n, intText? x = some n /\ x.length <= 640 := by
      rcases hxf with ⟨_, e⟩ | e
      · exact ⟨_, PySem.intText_digits (by rw [e]; exact had) (by rw [e]; exact hnil) (by rw [e]; omega), by rw [e]; omega⟩
      · have xl : x.length <= 13 := by rw [len_list, e, List.length_cons, <- len_list]; omega
        exact ⟨_, PySem.intText_neg e had hnil (by omega), by omega⟩
    exact ⟨x, n, rfl, hn, hxl, qt good n hn⟩
def sgOf (s : Str) : Nat := if s = "number" then 110 else if s = "way" then 119 else 114
def formOf (ss : List Str) : Str := ⟨(ss.map sgOf).toArray⟩
def names8 : List Str := ["year", "enter", "strike", "rank", "shut", "anchor", "seal", "unseal"]
def forms8 : List Str := ["nn", "nnwrnnn", "n", "nn", "nnn", "nn", "n", "n"]
theorem inD_str (x : Str) (ys : List Str) : inD (.str x) (ys.map D.str) = ys.any fun z => z == x := by
  unfold inD; rw [List.any_map]; rfl
theorem form_cases (w : Str) : (∃ (j : Nat) (ss : List Str), names8[j]? = some w /\ (∀ m, m < j -> names8[m]? ≠ some w) /\ sortsOf.lookup w = some ss /\ forms8[j]? = some (formOf ss)) \/ ((names8.any fun z => z == w) = false /\ sortsOf.lookup w = none) := by
  by_cases h : w ∈ names8
  · left
    have : ∀ w ∈ names8, ∃ j : Fin 8, names8[j.val]? = some w /\ (∀ m : Fin 8, m.val < j.val -> names8[m.val]? ≠ some w) /\ (sortsOf.lookup w).isSome = true /\ forms8[j.val]? = (sortsOf.lookup w).map formOf := by decide +kernel
    obtain ⟨j, h1, h2, h3, h4⟩ := this w h; obtain ⟨ss, hs⟩ := Option.isSome_iff_exists.mp h3; refine ⟨j.val, ss, h1, fun m hm => h2 ⟨m, by omega⟩ hm, hs, by rw [h4, hs]; rfl⟩
  · right
    constructor
    · rw [Bool.eq_false_iff]
      intro z; obtain ⟨y, hy, e⟩ := List.any_eq_true.mp z; rw [eq_of_beq e] at hy; exact h hy
    · cases hs : sortsOf.lookup w with
      | none => rfl
      | some ss =>
        exfalso
        apply h; have hm : ∀ (l : List (Str × List Str)), l.lookup w = some ss -> w ∈ l.map (·.1) := by
          intro l
          induction l with
          | nil => intro h; cases h
          | cons q l ih =>
            intro h; obtain ⟨a, b⟩ := q; rw [List.lookup_cons] at h
            split at h
            · rename_i z
              rw [eq_of_beq z]; exact .head _
            · exact .tail _ (ih h)
        have := hm _ hs; have e : sortsOf.map (·.1) = names8 := by decide +kernel
        rw [e] at this; exact this
theorem plain_strs (ys : List Str) : (ys.map D.str).all (plainD 50) = true := by
  rw [List.all_map, List.all_eq_true]; intro _ _; rfl
def Z1c : Sp2 := fun ds Q => ∃ w : Str, ds = [.str w] /\ (∀ ss, sortsOf.lookup w = some ss -> Q (.val (.str (formOf ss)))) /\ (sortsOf.lookup w = none -> Q (.val .non))
theorem Z15 {f : Addr} {fd : FuncData} (F : Fun K "_law_form" "_law_form" Z1f f fd)   : FnOk P w K mg base CX0 (0 + 1) f fd ["_law_name"] (liftSp K Z1c) := by
  refine Wr.fun_ok F Z14 (by rintro ds Qd ⟨x, rfl, _⟩; rfl) (fun cdv A outer s H E hr ds Qd h => ?_); obtain ⟨w, rfl, q1, q2⟩ := h
  refine ⟨_, (Wr.s_cons (Wr.s_set 1 Z14.nd (Wr.PN2_fx (Wr.n_lst (Wr.a_cons (Wr.e_str) (Wr.a_cons (Wr.e_str) (Wr.a_cons (Wr.e_str) (Wr.a_cons (Wr.e_str) (Wr.a_cons (Wr.e_str) (Wr.a_cons (Wr.e_str) (Wr.a_cons (Wr.e_str) (Wr.a_cons (Wr.e_str) Wr.a_nil))))))))))) (Wr.s_cons (Wr.s_set 2 Z14.nd (Wr.PN2_fx (Wr.n_lst (Wr.a_cons (Wr.e_str) (Wr.a_cons (Wr.e_str) (Wr.a_cons (Wr.e_str) (Wr.a_cons (Wr.e_str) (Wr.a_cons (Wr.e_str) (Wr.a_cons (Wr.e_str) (Wr.a_cons (Wr.e_str) (Wr.a_cons (Wr.e_str) Wr.a_nil))))))))))) (Wr.s_cons (Wr.s_if (Wr.t_cmp (op_notInP hr.units) lf_inP (Wr.b_var 0) (Wr.b_var 1) rfl) (Wr.s_one (Wr.s_ret (Wr.e_non)))
      Wr.s_nil) (Wr.s_one (Wr.s_ret (Wr.e_ix (Wr.b_var 2) (Wr.PE2_bo (w_index (Wr.e_var 1) (Wr.e_var 0))))))))), ?_⟩
  refine ⟨sz8, gSet_ok (l := .un) rfl rfl (nx_mk ?_)⟩; refine ⟨sz8, gSet_ok (l := .un) rfl rfl (nx_mk ?_)⟩
  show rSeq _ _ _ [.fr (.str w), .fr (.lst (names8.map D.str)), .fr (.lst (forms8.map D.str))]
  rcases form_cases w with ⟨j, ss, h1, h2, h3, h4⟩ | ⟨h1, h2⟩
  · have hin : inD (.str w) (names8.map D.str) = true := by
      rw [inD_str]; exact List.any_eq_true.mpr ⟨w, List.mem_of_getElem? h1, by simp⟩
    refine if_f (RdT.eq (fun Q q => ⟨rfl, plain_strs names8, q⟩) (by rw [hin]; rfl)) (rnext_mk ?_); exact ⟨names8, rfl, w, j, rfl, h1, h2, _, atI_nat (by rw [List.getElem?_map, h4]; rfl), q1 ss h3⟩
  · refine if_t (RdT.eq (fun Q q => ⟨rfl, plain_strs names8, q⟩) (by rw [inD_str, h1]; rfl)) ?_
    exact q2 h2
theorem form_len (ss : List Str) : (formOf ss).length = ss.length := by
  show ((ss.map sgOf).toArray).size = _
  simp
theorem form_asc (ss : List Str) : (formOf ss).cps.all (· < 128) = true := by
  refine Asc.all fun c hc => ?_
  have hc : c ∈ ss.map sgOf := by simpa [formOf] using hc
  obtain ⟨s, _, rfl⟩ := List.mem_map.mp hc; unfold sgOf
  split
  · decide
  · split <;> decide
theorem form_signs (ss : List Str) : signsD (formOf ss) = ss.map fun s => D.str ⟨#[sgOf s]⟩ := by
  unfold signsD formOf; simp
theorem sorts3 {w : Str} {ss : List Str} (h : sortsOf.lookup w = some ss) : ∀ s ∈ ss, s = "number" \/ s = "way" \/ s = "rule" := by
  have : ∀ q ∈ sortsOf, ∀ s ∈ q.2, s = "number" \/ s = "way" \/ s = "rule" := by decide +kernel
  have hm : ∀ (l : List (Str × List Str)), l.lookup w = some ss -> (w, ss) ∈ l := by
    intro l
    induction l with
    | nil => intro h; cases h
    | cons q l ih =>
      intro h; obtain ⟨a, b⟩ := q; rw [List.lookup_cons] at h
      split at h
      · rename_i z
        have z := eq_of_beq z; cases h; rw [z]; exact .head _
      · exact .tail _ (ih h)
  exact this (w, ss) (hm _ h)
def Z1m : Sp2 := fun ds Q => ∃ x : Str, ds = [.str x] /\ Asc x /\ x.length <= 480 /\ (∀ w outs, Good x w outs -> Q (.val (.tup (.str w :: outs)))) /\ ((¬ ∃ w outs, Good x w outs) -> Q (.val .non))
theorem Z1l {f : Addr} {fd : FuncData} (F : Fun K "_law_due" "_law_due" Z1o f fd) (Ya : Fn2 P w K mg base 1 "_law_form" Z1c) (Y2 : Fn2 P w K mg base 1 "_law_number" Ze) (z_len : mg "len" = none) (z_zip : mg "zip" = none) (z_tuple : mg "tuple" = none)  : FnOk P w K mg base CX0 (1 + 1) f fd ["_law_text"] (liftSp K Z1m) := by
  refine Wr.fun_ok F Z1k (by rintro ds Qd ⟨x, rfl, _⟩; rfl) (fun cdv A outer s H E hr ds Qd h => ?_); obtain ⟨x, rfl, ha, hl, q1, q2⟩ := h
  refine ⟨_, (Wr.s_cons (Wr.s_set 1 Z1k.nd (Wr.PN2_fx (w_split (Wr.e_var 0) (Wr.e_str)))) (Wr.s_cons (Wr.s_set 2 Z1k.nd (Wr.e_call Ya hr (Wr.a_cons (Wr.e_ix (Wr.b_var 1) (Wr.PE2_bo (Wr.e_int))) Wr.a_nil))) (Wr.s_cons (Wr.s_if (Wr.PW2_pt (Wr.t_or (Wr.t_cmp op_isN lf_isN (Wr.b_var 2) (Wr.PE2_bo (Wr.e_non)) (nomark _)) (Wr.t_or1 (Wr.t_cmp op_ne lf_neS (Wr.PE2_bo (Wr.e_len z_len (Wr.ab_cons (Wr.b_var 1) Wr.ab_nil))) (Wr.PE2_bo (Wr.e_add (Wr.PE2_bo (w_lenS z_len (Wr.ab_cons (Wr.b_var 2) Wr.ab_nil))) (Wr.PE2_bo (Wr.e_int)))) (nomark _))))) (Wr.s_one (Wr.s_ret (Wr.e_non)))
      Wr.s_nil) (Wr.s_cons (Wr.s_setN 3 Z1k.nd (Wr.n_lst (Wr.a_cons (Wr.e_ix (Wr.b_var 1) (Wr.PE2_bo (Wr.e_int))) Wr.a_nil))) (Wr.s_cons (w_forZS PassesOwn.never rfl rfl z_zip (Wr.a_cons (Wr.e_var 2) (Wr.a_cons (Wr.PN2_fx (Wr.n_slL (Wr.b_var 1) (Wr.o_some (Wr.PE2_bo (Wr.e_int))) Wr.o_none)) Wr.a_nil)) (Wr.g_tup (n := 2) rfl (Wr.gs_cons (Wr.g_name 4 Z1k.nd) (Wr.gs_cons (Wr.g_name 5 Z1k.nd) Wr.gs_nil))) (Wr.s_one (Wr.s_if (Wr.t_cmp op_eq lf_eqS (Wr.b_var 4) (Wr.PE2_bo (Wr.e_str)) (nomark _)) (Wr.s_cons (Wr.s_if (Wr.t_cmp op_isN lf_isN (Wr.PE2_bo (Wr.e_call Y2 hr (Wr.a_cons (Wr.e_var 5) Wr.a_nil))) (Wr.PE2_bo (Wr.e_non)) (nomark _)) (Wr.s_one (Wr.s_ret (Wr.e_non)))
      Wr.s_nil) (Wr.s_one (Wr.s_app 3 (Wr.e_call Y2 hr (Wr.a_cons (Wr.e_var 5) Wr.a_nil))))) (Wr.s_cons (Wr.s_set 6 Z1k.nd (Wr.PN2_fx (Wr.n_lst (Wr.a_cons (Wr.e_str) (Wr.a_cons (Wr.e_str) Wr.a_nil))))) (Wr.s_cons (Wr.s_if (Wr.t_cmp op_eq lf_eqS (Wr.b_var 4) (Wr.PE2_bo (Wr.e_str)) (nomark _)) (Wr.s_one (Wr.s_set 6 Z1k.nd (Wr.PN2_fx (Wr.n_lst (Wr.a_cons (Wr.e_str) (Wr.a_cons (Wr.e_str) (Wr.a_cons (Wr.e_str) Wr.a_nil)))))))
      Wr.s_nil) (Wr.s_cons (Wr.s_if (Wr.t_cmp (op_notInP hr.units) lf_inP (Wr.b_var 5) (Wr.b_var 6) rfl) (Wr.s_one (Wr.s_ret (Wr.e_non)))
      Wr.s_nil) (Wr.s_one (Wr.s_app 3 (Wr.e_var 5))))))))) (Wr.s_one (Wr.s_ret (w_tupOf z_tuple (Wr.ab_cons (Wr.b_var 3) Wr.ab_nil))))))))), ?_⟩
  obtain ⟨w, xs, hsp⟩ := split_cases x; have hmem : ∀ y ∈ xs, y ∈ Txt.split x " " := fun y hy => by rw [hsp]; exact .tail _ hy
  have hpl := parts_le x; rw [hsp, List.length_cons] at hpl; have hxs : ∀ y ∈ xs, Asc y /\ y.length <= 480 := fun y hy => ⟨ha.part (hmem y hy), by have := part_le (hmem y hy); omega⟩
  refine ⟨x, rfl, " ", rfl, ⟨by decide, by omega⟩, ?_⟩
  show gSet 1 (D.lst ((Txt.split x " ").map D.str)) _ _
  rw [hsp]; refine gSet_ok (l := .un) rfl rfl (nx_mk ?_); have hat : atI ((w :: xs).map D.str) 0 = some (.str w) := atI_nat (j := 0) rfl; refine ⟨_, hat, w, rfl, fun ss hs => ?_, fun hs => ?_⟩
  rotate_left
  · refine ret_val (gSet_ok (l := .un) rfl rfl (nx_mk ?_))
    refine if_t (or_t (RdT.eq (fun Q q => q) rfl)) ?_; refine q2 fun ⟨w2, outs, xs2, ss2, e1, e2, _⟩ => ?_
    rw [hsp] at e1; cases e1; rw [hs] at e2; cases e2
  refine ret_val (gSet_ok (l := .un) rfl rfl (nx_mk ?_)); obtain ⟨s1, s2, s3⟩ := sorts_of hs; have s33 := sorts3 hs; have hfz : (formOf ss).length <= sizeLine := by rw [form_len]; exact Nat.le_trans s2 (by decide)
  refine if_by (b := decide (¬ xs.length = ss.length)) (RdT.eq (or_by (b1 := false) (b2 := decide (¬ xs.length = ss.length)) (RdT.eq (fun Q q => q) rfl) (fun _ => RdT.eq (fun Q q => ⟨_, rfl, hfz, q⟩) (by
      rw [form_len]
      by_cases e : xs.length = ss.length <;> simp [e] <;> omega))) (Bool.false_or _)) (fun hc => ?_) (fun hc => rnext_mk ?_)
  · have hc := of_decide_eq_true hc
    refine q2 fun ⟨w2, outs, xs2, ss2, e1, e2, ra⟩ => ?_
    rw [hsp] at e1; cases e1; rw [hs] at e2; cases e2; exact hc ra.lens.1
  have hlen : xs.length = ss.length := Decidable.of_not_not (of_decide_eq_false hc); have ra0 : RA (fun outs => Qd (.val (.tup (.str w :: outs)))) (Qd (.val .non)) xs ss := by
    by_cases h : ∃ outs, ReadsAll xs ss outs
    · obtain ⟨outs, ra⟩ := h
      exact .inl ⟨outs, ra, q1 w outs ⟨xs, ss, hsp, hs, ra⟩⟩
    · refine .inr ⟨h, q2 fun ⟨w2, outs, xs2, ss2, e1, e2, ra⟩ => ?_⟩
      rw [hsp] at e1; cases e1; rw [hs] at e2; cases e2; exact h ⟨outs, ra⟩
  refine ⟨_, hat, sz1, gOwn_ok (l := .un) rfl rfl (nx_mk ?_)⟩; refine ⟨formOf ss, xs.map D.str, ?_, form_asc ss, ?_⟩
  · have e := cut_from (xs := (w :: xs).map D.str) (n := 1)
    exact congrArg (fun z => [D.str (formOf ss), D.lst z]) e
  rw [form_signs]; refine loop_ind (fun ds δ => ∃ (xr sr : List Str) (done : List D) (a : Sl), ds = zipD (sr.map fun s => D.str ⟨#[sgOf s]⟩) (xr.map D.str) /\ xr.length = sr.length /\ (∀ x ∈ xr, Asc x /\ x.length <= 480) /\ (∀ s ∈ sr, s = "number" \/ s = "way" \/ s = "rule") /\ RA (fun outs => Qd (.val (.tup (done ++ outs)))) (Qd (.val .non)) xr sr /\ done.length + xr.length <= 900 /\ a.locked = false /\ δ = [.fr (.str x), .fr (.lst ((w :: xs).map D.str)), .fr (.str (formOf ss)), .ow (.lst done), .un, .un, .un]) ?_ ?_ _ _ ⟨xs, ss, [.str w], .un, rfl, hlen, hxs, s33, ra0, by simp; omega, rfl, rfl⟩
  · rintro δ ⟨xr, sr, done, a, e, el, _, _, ra, _, _, rfl⟩
    cases xr with
    | cons x xr =>
      cases sr with
      | nil => cases el
      | cons s sr => cases e
    | nil =>
      cases sr with
      | cons s sr => cases el
      | nil =>
      rcases ra with ⟨outs, ra, q⟩ | ⟨no, _⟩
      · cases ra
        rw [List.append_nil] at q; exact ⟨_, rfl, q⟩
      · exact absurd ⟨[], .nil⟩ no
  · rintro d0 r δ L hL ⟨xr, sr, done, a, e, el, hxr, hsr, ra, hdl, _, rfl⟩
    cases sr with
    | nil => cases e
    | cons sort sr =>
    cases xr with
    | nil => cases el
    | cons y xr =>
    obtain ⟨rfl, rfl⟩ : d0 = .tup [.str ⟨#[sgOf sort]⟩, .str y] /\ r = zipD (sr.map fun s => D.str ⟨#[sgOf s]⟩) (xr.map D.str) := by cases e; exact ⟨rfl, rfl⟩
    rw [List.length_cons] at hdl; obtain ⟨ay, ly⟩ := hxr y (.head _); refine ⟨rfl, ?_⟩; have bad : fitsM y sort = false -> Qd (.val .non) := fun hf => by
      rcases ra with ⟨outs, ra, _⟩ | ⟨_, xd⟩
      · cases ra with
        | cons f _ _ _ => rw [f] at hf; cases hf
      · exact xd
    have go : fitsM y sort = true -> ∀ dd, Reads y sort dd -> ∀ b : Sl, (b = .un \/ ∃ d, b = .fr d) -> (done.length < sizeLine /\ L [.fr (.str x), .fr (.lst ((w :: xs).map D.str)), .fr (.str (formOf ss)), .ow (.lst (done ++ [dd])), .fr (.str ⟨#[sgOf sort]⟩), .fr (.str y), b]) := fun hf dd rd b hb => by
      refine ⟨small1000 (by omega), hL _ _ ⟨xr, sr, done ++ [dd], .un, rfl, by simpa using el, fun z hz => hxr z (.tail _ hz), fun z hz => hsr z (.tail _ hz), ?_, by simp; omega, rfl, rfl⟩ ?_⟩
      · rcases ra with ⟨outs, ra, q⟩ | ⟨no, xd⟩
        · cases ra with
          | @cons _ _ d2 _ _ outs f l r t =>
            cases rd.uniq r; exact .inl ⟨outs, t, (by show Qd (.val (.tup (done ++ [dd] ++ outs))); rw [List.append_assoc]; exact q)⟩
        · exact .inr ⟨fun ⟨outs, t⟩ => no ⟨dd :: outs, .cons hf (fits_len ay hf) rd t⟩, xd⟩
      · rcases hb with rfl | ⟨d, rfl⟩ <;> repeat constructor
    have sgn_eq : ∀ c : Nat, ∀ z : Str, z = ⟨#[c]⟩ -> decide ((⟨#[sgOf sort]⟩ : Str) = z) = decide (sgOf sort = c) := fun c z hz => by
      rw [decide_eq_decide, hz]
      constructor
      · intro z; have := congrArg (fun s : Str => s.cps.toList) z; simpa using this
      · intro z; rw [z]
    have en : ("n" : Str) = ⟨#[110]⟩ := by decide +kernel
    have ew : ("w" : Str) = ⟨#[119]⟩ := by decide +kernel
    rcases hsr sort (.head _) with rfl | rfl | rfl
    · refine if_t (RdT.eq (fun Q q => q) (by rw [sgn_eq 110 _ en]; rfl)) ?_
      cases hn : isNumM y with
      | false =>
        refine if_t (fun Q q => ⟨y, rfl, ay, by omega, (fun z => by rw [hn] at z; cases z), (fun _ => q)⟩) ?_; exact bad (by unfold fitsM; rw [if_neg (by decide), if_neg (by decide)]; exact hn)
      | true =>
        have hf : fitsM y "number" = true := by unfold fitsM; rw [if_neg (by decide), if_neg (by decide)]; exact hn
        refine if_f (fun Q q => ⟨y, rfl, ay, by omega, (fun _ n _ => q), (fun z => by rw [hn] at z; cases z)⟩) (rnext_mk ?_); exact ⟨y, rfl, ay, by omega, (fun _ n hn2 => go hf _ (.inl ⟨rfl, n, hn2, rfl⟩) _ (.inl rfl)), (fun z => by rw [hn] at z; cases z)⟩
    · refine if_f (RdT.eq (fun Q q => q) (by rw [sgn_eq 110 _ en]; rfl)) ?_
      refine ⟨sz2, gSet_ok (l := .un) rfl rfl (nx_mk ?_)⟩; refine seq_by (fun δ => δ = [.fr (.str x), .fr (.lst ((w :: xs).map D.str)), .fr (.str (formOf ss)), .ow (.lst done), .fr (.str ⟨#[sgOf "way"]⟩), .fr (.str y), .fr (.lst ((["moves", "stays", "lapses"] : List Str).map D.str))]) (fun L2 hL2 => ?_) ?_
      · refine if_t (RdT.eq (fun Q q => q) (by rw [sgn_eq 119 _ ew]; rfl)) ?_
        exact ⟨sz3, gSet_ok (l := .fr (.lst ((["fixed", "anchor"] : List Str).map D.str))) rfl rfl (nx_mk (hL2 _ rfl))⟩
      rintro δ rfl; have hfe : fitsM y "way" = (["moves", "stays", "lapses"] : List Str).any fun z => z == y := by unfold fitsM; rw [if_pos rfl]; rfl
      refine if_by (b := !fitsM y "way") (RdT.eq (fun Q q => ⟨rfl, plain_strs _, q⟩) (by rw [inD_str, hfe]; cases ((["moves", "stays", "lapses"] : List Str).any fun z => z == y) <;> rfl)) (fun hc => bad (by simpa using hc)) (fun hc => rnext_mk ?_); exact go (by simpa using hc) _ (.inr ⟨by decide, rfl⟩) _ (.inr ⟨_, rfl⟩)
    · refine if_f (RdT.eq (fun Q q => q) (by rw [sgn_eq 110 _ en]; rfl)) ?_
      refine ⟨sz2, gSet_ok (l := .un) rfl rfl (nx_mk ?_)⟩; refine seq_by (fun δ => δ = [.fr (.str x), .fr (.lst ((w :: xs).map D.str)), .fr (.str (formOf ss)), .ow (.lst done), .fr (.str ⟨#[sgOf "rule"]⟩), .fr (.str y), .fr (.lst ((["fixed", "anchor"] : List Str).map D.str))]) (fun L2 hL2 => ?_) ?_
      · exact if_f (RdT.eq (fun Q q => q) (by rw [sgn_eq 119 _ ew]; rfl)) (rnext_mk (hL2 _ rfl))
      rintro δ rfl; have hfe : fitsM y "rule" = (["fixed", "anchor"] : List Str).any fun z => z == y := by unfold fitsM; rw [if_neg (by decide), if_pos rfl]; rfl
      refine if_by (b := !fitsM y "rule") (RdT.eq (fun Q q => ⟨rfl, plain_strs _, q⟩) (by rw [inD_str, hfe]; cases ((["fixed", "anchor"] : List Str).any fun z => z == y) <;> rfl)) (fun hc => bad (by simpa using hc)) (fun hc => rnext_mk ?_); exact go (by simpa using hc) _ (.inr ⟨by decide, rfl⟩) _ (.inr ⟨_, rfl⟩)
theorem word_ok {w : Str} {ss : List Str} (h : sortsOf.lookup w = some ss) : w.length <= 6 /\ Asc w := by
  have hm : ∀ (l : List (Str × List Str)), l.lookup w = some ss -> w ∈ l.map (·.1) := by
    intro l
    induction l with
    | nil => intro h; cases h
    | cons q l ih =>
      intro h; obtain ⟨a, b⟩ := q; rw [List.lookup_cons] at h
      split at h
      · rename_i z
        rw [eq_of_beq z]; exact .head _
      · exact .tail _ (ih h)
  have : ∀ w ∈ sortsOf.map (·.1), w.length <= 6 /\ ∀ c ∈ w.cps.toList, c < 128 := by decide +kernel
  exact this w (hm _ h)
theorem PtsOk.ok2 {ps : List Pt} {ss : List Str} (h : PtsOk ps ss) : ∀ p ∈ ps, p.t.length <= 13 /\ Asc p.t := by
  induction h with
  | nil => intro _ z; cases z
  | @cons p s ps ss h t ih =>
    intro x hx
    rcases List.mem_cons.mp hx with rfl | hx
    · rcases h with ⟨_, n, rfl, h0, h1⟩ | ⟨_, y, rfl, hy⟩ | ⟨_, y, rfl, hy⟩
      · exact ⟨(num_ok h0 h1).2.2, Asc.num n⟩
      · have : ∀ y ∈ (["moves", "stays", "lapses"] : List Str), y.length <= 13 /\ ∀ c ∈ y.cps.toList, c < 128 := by decide +kernel
        exact this y (by rcases hy with rfl | rfl | rfl <;> simp)
      · have : ∀ y ∈ (["fixed", "anchor"] : List Str), y.length <= 13 /\ ∀ c ∈ y.cps.toList, c < 128 := by decide +kernel
        exact this y (by rcases hy with rfl | rfl <;> simp)
    · exact ih x hx
theorem ReadsAll.uniq {xs ss : List Str} {a b : List D} (h : ReadsAll xs ss a) (k : ReadsAll xs ss b) : a = b := by
  induction h generalizing b with
  | nil => cases k; rfl
  | cons f l r t ih =>
    cases k with
    | cons f2 l2 r2 t2 => rw [r.uniq r2, ih t2]
theorem ReadsAll.pts {xs ss : List Str} {a : List D} (h : ReadsAll xs ss a) : ∃ qs : List Pt, a = qs.map Pt.d := by
  induction h with
  | nil => exact ⟨[], rfl⟩
  | cons f l r t ih =>
    obtain ⟨qs, rfl⟩ := ih
    rcases r with ⟨_, n, _, rfl⟩ | ⟨_, rfl⟩
    · exact ⟨.i n :: qs, rfl⟩
    · exact ⟨.s _ :: qs, rfl⟩
theorem Good.uniq {x w w' : Str} {a b : List D} (h : Good x w a) (k : Good x w' b) : w = w' /\ a = b := by
  obtain ⟨xs, ss, e1, e2, ra⟩ := h; obtain ⟨xs', ss', f1, f2, rb⟩ := k; rw [e1] at f1; cases f1; rw [e2] at f2; cases f2; exact ⟨rfl, ra.uniq rb⟩
theorem Good.pts {x w : Str} {a : List D} (h : Good x w a) : ∃ qs : List Pt, a = qs.map Pt.d := by
  obtain ⟨xs, ss, e1, e2, ra⟩ := h; exact ra.pts
structure EK (K : PySem.W.Frag) (C Cf Cs : Addr) : Prop where
  k : ErrK K C
  v : PySem.W.kitOne K (.ref C) (.type "ValueError") = some true
  n : PySem.W.kitOne K (.ref C) (.ref C) = some true
  f : PySem.W.kitOne K (.ref C) (.ref Cf) = some false
  s : PySem.W.kitOne K (.ref C) (.ref Cs) = some false
def Z21 : Sp2 := fun ds Q => ∃ ns : List Int, ds = [.lst (ns.map D.int)] /\ ns.length <= 63 /\ Q (.val (.bl true))
theorem Z20 {f : Addr} {fd : FuncData} (F : Fun K "law" "law" Z1y f fd) (Y4 : Fn2 P w K mg base 4 "_law_order" Zt) (Yb : Fn2 P w K mg base 4 "_law_cell" Z1h) (Y1 : Fn2 P w K mg base 4 "_law_changed" Z5) (Y3 : Fn2 P w K mg base 4 "_law_digits" Zh) (Yd : FnX P w K mg base 4 "read" spX_read) (Yc : Fn2 P w K mg base 4 "_law_due" Z1m) (Y0 : Fn2 P w K mg base 4 "_law_is_order" Z0) (z_str : mg "str" = none) (z_isinstance : mg "isinstance" = none) (z_ve : mg "ValueError" = none) (kin : K.In base) {C CF Cf Cs : Addr} {bm bmF : List Value} (Er : Err K mg base "NoOrder" C bm) (ErF : Err K mg base "FeastError" CF bmF) (hup : PySem.W.mroIn K C (.ref CF) = some true) (hY : mg "NoFeast" = some (.ref Cf)) (hB : mg "Sealed" = some (.ref Cs)) (nd : ∀ C2, mg "NoOrder" = some (.ref C2) -> EK K C2 Cf Cs) :
 FnOk P w K mg base CX0 (4 + 1) f fd ["_law_script"] (liftSp K Z21) := by
  refine Wr.fun_ok F Z22 (by rintro ds Qd ⟨ns, rfl, _⟩; rfl) (fun cdv A outer s H E hr ds Qd h => ?_); obtain ⟨ns, rfl, hlen, h⟩ := h
  refine ⟨_, (Wr.s_cons (Wr.s_set 1 Z22.nd (Wr.e_call Y4 hr (Wr.a_cons (Wr.e_call Yb hr (Wr.a_cons (Wr.e_var 0) (Wr.a_cons (Wr.e_int) Wr.a_nil))) (Wr.a_cons (Wr.e_int) Wr.a_nil)))) (Wr.s_cons (Wr.s_set 2 Z22.nd (Wr.e_ix (Wr.b_var 1) (Wr.PE2_bo (Wr.e_int)))) (Wr.s_cons (Wr.s_forT PassesOwn.never rfl (Wr.e_slT (Wr.b_var 1) (Wr.o_some (Wr.PE2_bo (Wr.e_int))) Wr.o_none) (Wr.g_name 3 Z22.nd) (Wr.s_one (Wr.s_set 2 Z22.nd (w_catS (Wr.PE2_bo (w_catS (Wr.b_var 2) (Wr.PE2_bo (Wr.e_str)))) (Wr.PE2_bo (w_strOf z_str (Wr.ab_cons (Wr.b_var 3) Wr.ab_nil))))))) (Wr.s_cons (Wr.s_set 2 Z22.nd (Wr.e_call Y1 hr (Wr.a_cons (Wr.e_var 2) (Wr.a_cons (Wr.e_call Yb hr (Wr.a_cons (Wr.e_var 0) (Wr.a_cons (Wr.e_int) Wr.a_nil))) Wr.a_nil)))) (Wr.s_cons (Wr.s_if (Wr.t_cmp op_eq lf_eqS (Wr.PE2_bo (Wr.e_ix (Wr.PE2_bo (Wr.e_call Y3 hr (Wr.a_cons (Wr.e_call Yb hr (Wr.a_cons (Wr.e_var 0) (Wr.a_cons (Wr.e_int) Wr.a_nil))) (Wr.a_cons (Wr.PN2_fx (Wr.n_lst (Wr.a_cons (Wr.e_int) Wr.a_nil))) Wr.a_nil)))) (Wr.PE2_bo (Wr.e_int)))) (Wr.PE2_bo (Wr.e_int)) (nomark _)) (Wr.s_one (Wr.s_set 2 Z22.nd (Wr.e_call Y1 hr (Wr.a_cons (Wr.e_var 2) (Wr.a_cons (Wr.e_call Yb hr (Wr.a_cons (Wr.e_var 0) (Wr.a_cons (Wr.e_int) Wr.a_nil))) Wr.a_nil)))))
      Wr.s_nil) (Wr.s_cons (Wr.s_set 4 Z22.nd (Wr.e_non)) (Wr.s_cons (Wr.s_set 5 Z22.nd (Wr.e_non)) (Wr.s_cons (w_tryAsS (c := "NoOrder") 4 7 Yd hr (Wr.a_cons (Wr.e_var 2) Wr.a_nil) (Mat.up kin Er ErF hup) (fun ea ob C2 h1 h2 => Wr.s_one (Wr.s_set 5 Z22.nd (Wr.e_tup (Wr.a_cons (w_isiB (List.mem_cons_self ..) h2 (nd C2 h1).k z_ve (nd C2 h1).v z_isinstance (Wr.e_var 7)) (Wr.a_cons (w_isiO (List.mem_cons_self ..) h2 (nd C2 h1).k h1 (nd C2 h1).n z_isinstance (Wr.e_var 7)) (Wr.a_cons (w_isiO (List.mem_cons_self ..) h2 (nd C2 h1).k hY (nd C2 h1).f z_isinstance (Wr.e_var 7)) (Wr.a_cons (w_isiO (List.mem_cons_self ..) h2 (nd C2 h1).k hB (nd C2 h1).s z_isinstance (Wr.e_var 7)) Wr.a_nil))))))) Z22.nd rfl rfl) (Wr.s_cons (Wr.s_set 6 Z22.nd (Wr.e_call Yc hr (Wr.a_cons (Wr.e_var 2) Wr.a_nil))) (Wr.s_cons (Wr.s_if (Wr.t_cmp op_isN lf_isN (Wr.b_var 6) (Wr.PE2_bo (Wr.e_non)) (nomark _)) (Wr.s_one (Wr.s_ret (Wr.e_cmp (op_eqD hr.units) lf_eqU (Wr.b_var 5) (Wr.PE2_bo (Wr.e_tup (Wr.a_cons (Wr.e_bl) (Wr.a_cons (Wr.e_bl) (Wr.a_cons (Wr.e_bl) (Wr.a_cons (Wr.e_bl) Wr.a_nil)))))) (nomark _))))
      Wr.s_nil) (Wr.s_one (Wr.s_ret (Wr.e_and (Wr.e_cmp op_isN lf_isN (Wr.b_var 5) (Wr.PE2_bo (Wr.e_non)) (nomark _)) (Wr.e_and (Wr.e_call Y0 hr (Wr.a_cons (Wr.e_var 4) Wr.a_nil)) (Wr.e_one (Wr.e_cmp (op_eqD hr.units) lf_eqU (Wr.b_var 4) (Wr.b_var 6) (nomark _))))))))))))))))), ?_⟩
  refine ⟨ns, 0, rfl, by decide, fun v0 => ⟨v0, 5001, rfl, by decide, by decide, fun w ss ps hs hp hne hwl hwf => ?_⟩⟩; refine ret_val (gSet_ok (l := .un) rfl rfl (nx_mk ?_)); have hps := hp.len hs; have hpo := hp.ok; have hp13 := hp.ok2; obtain ⟨wl6, wa⟩ := word_ok hs; refine ⟨.str w, atI_nat (j := 0) rfl, gSet_ok (l := .un) rfl rfl (nx_mk ?_)⟩; have szT : (Txt.join " " ((Pt.s w :: ps).map Pt.t)).length <= 107 := by
    refine Nat.le_trans (join_sum _) ?_; rw [List.map_cons, List.map_cons, List.sum_cons]; have : ∀ l : List Pt, (∀ p ∈ l, p.t.length <= 13) -> ((l.map Pt.t).map fun x => x.length + 1).sum <= 14 * l.length := by
      intro l
      induction l with
      | nil => intro _; simp
      | cons p l ih =>
        intro h; have h1 := ih fun q hq => h q (.tail _ hq)
        have h2 := h p (.head _); simp only [List.map_cons, List.sum_cons, List.length_cons]; omega
    have := this ps fun p hp => (hp13 p hp).1
    show w.length + 1 + _ <= 107
    omega
  have ascT : Asc (Txt.join " " ((Pt.s w :: ps).map Pt.t)) := Asc.join fun y hy => by
    obtain ⟨p, h1, rfl⟩ := List.mem_map.mp hy
    rcases List.mem_cons.mp h1 with rfl | h1
    · exact wa
    · exact (hp13 p h1).2
  refine seq_by (fun δ => δ = [.fr (.lst (ns.map D.int)), .fr (.tup ((Pt.s w :: ps).map Pt.d)), .fr (.str (Txt.join " " ((Pt.s w :: ps).map Pt.t))), .un, .un, .un, .un, .un]) (fun L2 hL2 => ?_) ?_
  · refine ⟨fun z => ?_, ?_⟩
    · have z := z.1
      unfold HT.sIx at z; simp at z
    show loop _ _ _ (cutD ((Pt.s w :: ps).map Pt.d) (some ((1 : Nat) : Int)) none) _
    rw [cut_from]
    show loop _ _ _ (ps.map Pt.d) _
    refine loop_ind (fun ds δ => ∃ done todo : List Pt, ds = todo.map Pt.d /\ ps = done ++ todo /\ δ = [.fr (.lst (ns.map D.int)), .fr (.tup ((Pt.s w :: ps).map Pt.d)), .fr (.str (Txt.join " " ((Pt.s w :: done).map Pt.t))), .un, .un, .un, .un, .un]) ?_ ?_ _ _ ⟨[], ps, rfl, rfl, rfl⟩
    · rintro δ ⟨done, todo, e, ep, rfl⟩
      cases todo with
      | cons x todo => cases e
      | nil =>
        rw [List.append_nil] at ep; subst ep; exact hL2 _ rfl
    · rintro d r δ L3 hL3 ⟨done, todo, e, ep, rfl⟩
      cases todo with
      | nil => cases e
      | cons x todo =>
      obtain ⟨rfl, rfl⟩ : d = x.d /\ r = todo.map Pt.d := by cases e; exact ⟨rfl, rfl⟩
      have hx := hpo x (by rw [ep]; simp); have hdl : done.length <= 8 := by have := congrArg List.length ep; simp at this; omega
      have jl : (Txt.join " " ((Pt.s w :: done).map Pt.t)).length <= 20000 := by
        refine Nat.le_trans (join_len 2000 _ (fun y hy => ?_)) ?_
        · obtain ⟨p, h1, rfl⟩ := List.mem_map.mp hy
          rcases List.mem_cons.mp h1 with rfl | h1
          · show w.length <= 2000; omega
          · exact Pt.len (hpo p (by rw [ep]; exact List.mem_append_left _ h1)).1
        · rw [List.length_map, List.length_cons]; omega
      have xl := Pt.len hx.1; have big : ∀ {n : Nat}, n <= 40000 -> n <= sizeLine := fun h => Nat.le_trans h (by decide)
      have e9 : Txt.join " " ((Pt.s w :: (done ++ [x])).map Pt.t) = Txt.join " " ((Pt.s w :: done).map Pt.t) ++ " " ++ x.t := by
        rw [<- List.cons_append, List.map_append]; exact join_snoc _ _ (by simp)
      have go : L3 [.fr (.lst (ns.map D.int)), .fr (.tup ((Pt.s w :: ps).map Pt.d)), .fr (.str (Txt.join " " ((Pt.s w :: done).map Pt.t) ++ " " ++ x.t)), .fr x.d, .un, .un, .un, .un] :=
        hL3 _ _ ⟨done ++ [x], todo, rfl, by rw [ep]; simp, by rw [e9]⟩ (by repeat constructor)
      have l2 : (Txt.join " " ((Pt.s w :: done).map Pt.t) ++ " ").length <= 20001 := by rw [strLen_append]; show _ + 1 <= 20001; omega
      cases x with
      | i n =>
        have xl : (Str.ofString (toString n)).length <= 2000 := xl; exact ⟨big (by show _ + 1 <= 40000; omega), hx.1, big (by omega), go⟩
      | s y =>
        have xl : y.length <= 2000 := xl; exact ⟨big (by show _ + 1 <= 40000; omega), big (by omega), go⟩
  rintro δ rfl; generalize Txt.join " " ((Pt.s w :: ps).map Pt.t) = T at szT ascT; refine ⟨ns, 1, rfl, by decide, fun v1 => ⟨T, v1, rfl, ascT, by omega, fun y1 a1 l1 => ?_⟩⟩; refine ret_val (gSet_ok (l := .fr (.str T)) rfl rfl (nx_mk ?_)); refine seq_by (fun δ => ∃ y : Str, Asc y /\ y.length <= 480 /\ δ = [.fr (.lst (ns.map D.int)), .fr (.tup ((Pt.s w :: ps).map Pt.d)), .fr (.str y), .un, .un, .un, .un, .un]) (fun L2 hL2 => ?_) ?_
  · refine ⟨ns, 2, rfl, by decide, fun v2 => ⟨sz1, v2, [2], rfl, by decide, by decide, Drawn.one fun dg g0 g1 => ?_⟩⟩
    refine ⟨_, rfl, ?_⟩; refine Two.of ?_
    split
    · refine ⟨ns, 3, rfl, by decide, fun v3 => ⟨y1, v3, rfl, a1, by omega, fun y2 a2 l2 => ?_⟩⟩
      exact ret_val (gSet_ok (l := .fr (.str y1)) rfl rfl (nx_mk (hL2 _ ⟨y2, a2, by omega, rfl⟩)))
    · exact rnext_mk (hL2 _ ⟨y1, a1, by omega, rfl⟩)
  rintro δ ⟨y, ya, yl, rfl⟩; refine set_by (d := .non) (fun Q q => q) (gSet_ok (l := .un) rfl rfl (nx_mk ?_)); refine set_by (d := .non) (fun Q q => q) (gSet_ok (l := .un) rfl rfl (nx_mk ?_))
  by_cases hG : ∃ w outs, Good y w outs
  · obtain ⟨w2, outs, good⟩ := hG
    obtain ⟨qs, eqs⟩ := good.pts; refine ⟨y, rfl, yl, ya, .inl ⟨w2, outs, good, _, rfl, gSet_ok (l := .fr .non) rfl rfl (nx_mk ?_)⟩⟩; refine ⟨y, rfl, ya, yl, fun w3 outs3 good3 => ?_, fun no => absurd ⟨w2, outs, good⟩ no⟩; obtain ⟨rfl, rfl⟩ := good.uniq good3; refine ret_val (gSet_ok (l := .un) rfl rfl (nx_mk ?_)); refine if_f (RdT.eq (fun Q q => q) rfl) (rnext_mk ?_); have pl : plainD 60 (.tup (.str w2 :: outs)) = true := by
      rw [eqs]; exact plain_pts (.s w2 :: qs)
    refine ret_by (andV_tt (RdE.eq (fun Q q => q) rfl) (andV_tt (fun Q q => ⟨.s w2 :: qs, by rw [eqs]; rfl, by simp, q⟩) (RdE.eq (fun Q q => ⟨pl, pl, q⟩) (by rw [eq_self60 pl]; rfl)))) h
  · refine ⟨y, rfl, yl, ya, .inr ⟨hG, rfl, ⟨_, rfl, rfl⟩, fun ea => ?_⟩⟩
    refine ⟨rfl, rfl, rfl, rfl, sz4, ⟨_, rfl⟩, ?_⟩; refine ⟨y, rfl, ya, yl, fun w3 outs3 good3 => absurd ⟨w3, outs3, good3⟩ hG, fun _ => ?_⟩; refine ret_val (gSet_ok (l := .un) rfl rfl (nx_mk ?_)); refine if_t (RdT.eq (fun Q q => q) rfl) ?_; exact ⟨sz4, rfl, rfl, h⟩
end
theorem lenS {n : Nat} {us : List Value} (h : us.length = n + 1) : ∃ a vs, us = a :: vs /\ vs.length = n := by
  cases us with
  | nil => exact absurd h (fun z => by cases z)
  | cons a vs => exact ⟨a, vs, rfl, Nat.succ.inj h⟩
theorem lenIs0 {us : List Value} (h : us.length = 0) : us = [] := List.eq_nil_of_length_eq_zero h
theorem lenIs1 {us : List Value} (h : us.length = 1) : ∃ a0, us = [a0] := by
  obtain ⟨a, vs, rfl, h2⟩ := lenS (n := 0) h; obtain rfl := lenIs0 h2; exact ⟨a, rfl⟩
theorem lenIs2 {us : List Value} (h : us.length = 2) : ∃ a0 a1, us = [a0, a1] := by
  obtain ⟨a, vs, rfl, h2⟩ := lenS (n := 1) h; obtain ⟨a1, rfl⟩ := lenIs1 h2; exact ⟨a, a1, rfl⟩
abbrev bmVE : List Value := [.type "ValueError", .type "Exception", .type "BaseException", .type "object"]
abbrev LkF (K : PySem.W.Frag) (n : Str) (st : Stmt) (f : Addr) (oc : Value) (od : Option Addr) (kV dc pm : Value) (an : Option Addr) (cd ct : Value) (sl : Array (Option Value)) : Prop := K.lookup f = some ⟨oc, od, .func (PySem.W.fnOf n n (defArgs st) (defBody st) (defScope st) .none kV dc pm an cd ct), sl⟩
theorem mkF2 {P : Program} {w : World} {K : PySem.W.Frag} {mg : Str -> Option Value} {base : Heap} {i j : Nat} {n : Str} {sp : Sp2} {f : Addr} {fd : FuncData} {ps : List Str} (g : ∀ base : Heap, FnOk P w K mg base CX0 j f fd ps (liftSp K sp)) (m : mg n = some (.ref f)) (k : PySem.W.keepIn K (.ref f) = true) (b : Binds K fd ps []) (h : j <= i) : Fn2 P w K mg base i n sp := ⟨⟨f, fd, ps, (g base).mono h, m, k, b⟩⟩
theorem mkF3 {P : Program} {w : World} {K : PySem.W.Frag} {mg : Str -> Option Value} {base : Heap} {i j : Nat} {n : Str} {sp : Sp3} {f : Addr} {fd : FuncData} {ps : List Str} (g : ∀ base : Heap, FnOk P w K mg base CX0 j f fd ps (liftSp3 K sp)) (m : mg n = some (.ref f)) (k : PySem.W.keepIn K (.ref f) = true) (b : Binds K fd ps []) (h : j <= i) : Fn3 P w K mg base i n sp := ⟨⟨f, fd, ps, (g base).mono h, m, k, b⟩⟩
theorem all_mk {l : PySem.W.OpenLaw} {w : World} {K : PySem.W.Frag} {h : Heap} {mg : Str -> Option Value} {fa : Addr} (X : K.In h) (G : h.Ns mainGlobals mg) (hfa : mg "law" = some (.ref fa))
 {od0 an0 : Option Addr} {sl0 : Array (Option Value)} {oc0 kV0 dc0 pm0 cd0 ct0 : Value} {f0 : Addr}
 (a0 : PySem.W.nsIn K mainGlobals "is_number" = some (some (.ref f0))) (l0 : LkF K "is_number" Z1b f0 oc0 od0 kV0 dc0 pm0 an0 cd0 ct0 sl0) (c0 : PySem.W.codeIn K cd0 "is_number" = true) (k0 : PySem.W.keepIn K (.ref f0) = true)
{od1 an1 : Option Addr} {sl1 : Array (Option Value)} {oc1 kV1 dc1 pm1 cd1 ct1 : Value} {f1 : Addr}
 (a1 : PySem.W.nsIn K mainGlobals "fits" = some (some (.ref f1))) (l1 : LkF K "fits" Z1v f1 oc1 od1 kV1 dc1 pm1 an1 cd1 ct1 sl1) (c1 : PySem.W.codeIn K cd1 "fits" = true) (k1 : PySem.W.keepIn K (.ref f1) = true)
{od2 an2 : Option Addr} {sl2 : Array (Option Value)} {oc2 kV2 dc2 pm2 cd2 ct2 : Value} {f2 : Addr}
 (a2 : PySem.W.nsIn K mainGlobals "read_parts" = some (some (.ref f2))) (l2 : LkF K "read_parts" Zo f2 oc2 od2 kV2 dc2 pm2 an2 cd2 ct2 sl2) (c2 : PySem.W.codeIn K cd2 "read_parts" = true) (k2 : PySem.W.keepIn K (.ref f2) = true)
{od3 an3 : Option Addr} {sl3 : Array (Option Value)} {oc3 kV3 dc3 pm3 cd3 ct3 : Value} {f3 : Addr}
 (a3 : PySem.W.nsIn K mainGlobals "read" = some (some (.ref f3))) (l3 : LkF K "read" Z1x f3 oc3 od3 kV3 dc3 pm3 an3 cd3 ct3 sl3) (c3 : PySem.W.codeIn K cd3 "read" = true) (k3 : PySem.W.keepIn K (.ref f3) = true)
{od4 an4 : Option Addr} {sl4 : Array (Option Value)} {oc4 kV4 dc4 pm4 cd4 ct4 : Value} {f4 : Addr}
 (a4 : PySem.W.nsIn K mainGlobals "_law_cell" = some (some (.ref f4))) (l4 : LkF K "_law_cell" Z10 f4 oc4 od4 kV4 dc4 pm4 an4 cd4 ct4 sl4) (c4 : PySem.W.codeIn K cd4 "_law_cell" = true) (k4 : PySem.W.keepIn K (.ref f4) = true)
{od5 an5 : Option Addr} {sl5 : Array (Option Value)} {oc5 kV5 dc5 pm5 cd5 ct5 : Value} {f5 : Addr}
 (a5 : PySem.W.nsIn K mainGlobals "_law_seed" = some (some (.ref f5))) (l5 : LkF K "_law_seed" Z1e f5 oc5 od5 kV5 dc5 pm5 an5 cd5 ct5 sl5) (c5 : PySem.W.codeIn K cd5 "_law_seed" = true) (k5 : PySem.W.keepIn K (.ref f5) = true)
{od6 an6 : Option Addr} {sl6 : Array (Option Value)} {oc6 kV6 dc6 pm6 cd6 ct6 : Value} {f6 : Addr}
 (a6 : PySem.W.nsIn K mainGlobals "_law_digits" = some (some (.ref f6))) (l6 : LkF K "_law_digits" Zb f6 oc6 od6 kV6 dc6 pm6 an6 cd6 ct6 sl6) (c6 : PySem.W.codeIn K cd6 "_law_digits" = true) (k6 : PySem.W.keepIn K (.ref f6) = true)
{od7 an7 : Option Addr} {sl7 : Array (Option Value)} {oc7 kV7 dc7 pm7 cd7 ct7 : Value} {f7 : Addr}
 (a7 : PySem.W.nsIn K mainGlobals "_law_whole" = some (some (.ref f7))) (l7 : LkF K "_law_whole" Zp f7 oc7 od7 kV7 dc7 pm7 an7 cd7 ct7 sl7) (c7 : PySem.W.codeIn K cd7 "_law_whole" = true) (k7 : PySem.W.keepIn K (.ref f7) = true)
{od8 an8 : Option Addr} {sl8 : Array (Option Value)} {oc8 kV8 dc8 pm8 cd8 ct8 : Value} {f8 : Addr}
 (a8 : PySem.W.nsIn K mainGlobals "_law_order" = some (some (.ref f8))) (l8 : LkF K "_law_order" Zv f8 oc8 od8 kV8 dc8 pm8 an8 cd8 ct8 sl8) (c8 : PySem.W.codeIn K cd8 "_law_order" = true) (k8 : PySem.W.keepIn K (.ref f8) = true)
{od9 an9 : Option Addr} {sl9 : Array (Option Value)} {oc9 kV9 dc9 pm9 cd9 ct9 : Value} {f9 : Addr}
 (a9 : PySem.W.nsIn K mainGlobals "_law_is_order" = some (some (.ref f9))) (l9 : LkF K "_law_is_order" Z2 f9 oc9 od9 kV9 dc9 pm9 an9 cd9 ct9 sl9) (c9 : PySem.W.codeIn K cd9 "_law_is_order" = true) (k9 : PySem.W.keepIn K (.ref f9) = true)
{od10 an10 : Option Addr} {sl10 : Array (Option Value)} {oc10 kV10 dc10 pm10 cd10 ct10 : Value} {f10 : Addr}
 (a10 : PySem.W.nsIn K mainGlobals "_law_signs" = some (some (.ref f10))) (l10 : LkF K "_law_signs" Zm f10 oc10 od10 kV10 dc10 pm10 an10 cd10 ct10 sl10) (c10 : PySem.W.codeIn K cd10 "_law_signs" = true) (k10 : PySem.W.keepIn K (.ref f10) = true)
{od11 an11 : Option Addr} {sl11 : Array (Option Value)} {oc11 kV11 dc11 pm11 cd11 ct11 : Value} {f11 : Addr}
 (a11 : PySem.W.nsIn K mainGlobals "_law_changed" = some (some (.ref f11))) (l11 : LkF K "_law_changed" Z7 f11 oc11 od11 kV11 dc11 pm11 an11 cd11 ct11 sl11) (c11 : PySem.W.codeIn K cd11 "_law_changed" = true) (k11 : PySem.W.keepIn K (.ref f11) = true)
{od12 an12 : Option Addr} {sl12 : Array (Option Value)} {oc12 kV12 dc12 pm12 cd12 ct12 : Value} {f12 : Addr}
 (a12 : PySem.W.nsIn K mainGlobals "_law_number" = some (some (.ref f12))) (l12 : LkF K "_law_number" Za f12 oc12 od12 kV12 dc12 pm12 an12 cd12 ct12 sl12) (c12 : PySem.W.codeIn K cd12 "_law_number" = true) (k12 : PySem.W.keepIn K (.ref f12) = true)
{od13 an13 : Option Addr} {sl13 : Array (Option Value)} {oc13 kV13 dc13 pm13 cd13 ct13 : Value} {f13 : Addr}
 (a13 : PySem.W.nsIn K mainGlobals "_law_form" = some (some (.ref f13))) (l13 : LkF K "_law_form" Z1f f13 oc13 od13 kV13 dc13 pm13 an13 cd13 ct13 sl13) (c13 : PySem.W.codeIn K cd13 "_law_form" = true) (k13 : PySem.W.keepIn K (.ref f13) = true)
{od14 an14 : Option Addr} {sl14 : Array (Option Value)} {oc14 kV14 dc14 pm14 cd14 ct14 : Value} {f14 : Addr}
 (a14 : PySem.W.nsIn K mainGlobals "_law_due" = some (some (.ref f14))) (l14 : LkF K "_law_due" Z1o f14 oc14 od14 kV14 dc14 pm14 an14 cd14 ct14 sl14) (c14 : PySem.W.codeIn K cd14 "_law_due" = true) (k14 : PySem.W.keepIn K (.ref f14) = true)
{od15 an15 : Option Addr} {sl15 : Array (Option Value)} {oc15 kV15 dc15 pm15 cd15 ct15 : Value} {f15 : Addr}
 (a15 : PySem.W.nsIn K mainGlobals "law" = some (some (.ref f15))) (l15 : LkF K "law" Z1y f15 oc15 od15 kV15 dc15 pm15 an15 cd15 ct15 sl15) (c15 : PySem.W.codeIn K cd15 "law" = true) (k15 : PySem.W.keepIn K (.ref f15) = true)
 (z_len : PySem.W.nsIn K mainGlobals "len" = some none)
 (z_zip : PySem.W.nsIn K mainGlobals "zip" = some none)
 (z_int : PySem.W.nsIn K mainGlobals "int" = some none)
 (z_tuple : PySem.W.nsIn K mainGlobals "tuple" = some none)
 (z_enumerate : PySem.W.nsIn K mainGlobals "enumerate" = some none)
 (z_isinstance : PySem.W.nsIn K mainGlobals "isinstance" = some none)
 (z_bool : PySem.W.nsIn K mainGlobals "bool" = some none)
    (z_str : PySem.W.nsIn K mainGlobals "str" = some none)
    {aO o0 o1 o2 o3 o4 o5 o6 o7 nO tk0 tk1 tk2 tk3 tk4 tk5 tk6 tk7 u0_0 u0_1 u1_0 u1_1 u1_2 u1_3 u1_4 u1_5 u1_6 u2_0 u3_0 u3_1 u4_0 u4_1 u4_2 u5_0 u5_1 u6_0 u7_0 n0 n1 n2 n3 n4 n5 n6 n7 aW aR nW nR tM v0 v1 v2 v3 v4 : Nat} (gO : PySem.W.nsIn K mainGlobals "ORDERS" = some (some (.ref aO)))
    (sO : (aO == sysModules) = false)
    (dO : K.lookup aO = some ⟨.type "dict", none, .dict #[⟨PySem.PyData.keyHash w.params "year", .str "year" tk0, .ref o0⟩, ⟨PySem.PyData.keyHash w.params "enter", .str "enter" tk1, .ref o1⟩, ⟨PySem.PyData.keyHash w.params "strike", .str "strike" tk2, .ref o2⟩, ⟨PySem.PyData.keyHash w.params "rank", .str "rank" tk3, .ref o3⟩, ⟨PySem.PyData.keyHash w.params "shut", .str "shut" tk4, .ref o4⟩, ⟨PySem.PyData.keyHash w.params "anchor", .str "anchor" tk5, .ref o5⟩, ⟨PySem.PyData.keyHash w.params "seal", .str "seal" tk6, .ref o6⟩, ⟨PySem.PyData.keyHash w.params "unseal", .str "unseal" tk7, .ref o7⟩] nO, #[]⟩)
    (dO0 : K.lookup o0 = some ⟨.type "tuple", none, .seq #[.str "number" u0_0, .str "number" u0_1] n0, #[]⟩)
    (dO1 : K.lookup o1 = some ⟨.type "tuple", none, .seq #[.str "number" u1_0, .str "number" u1_1, .str "way" u1_2, .str "rule" u1_3, .str "number" u1_4, .str "number" u1_5, .str "number" u1_6] n1, #[]⟩)
    (dO2 : K.lookup o2 = some ⟨.type "tuple", none, .seq #[.str "number" u2_0] n2, #[]⟩)
    (dO3 : K.lookup o3 = some ⟨.type "tuple", none, .seq #[.str "number" u3_0, .str "number" u3_1] n3, #[]⟩)
    (dO4 : K.lookup o4 = some ⟨.type "tuple", none, .seq #[.str "number" u4_0, .str "number" u4_1, .str "number" u4_2] n4, #[]⟩)
    (dO5 : K.lookup o5 = some ⟨.type "tuple", none, .seq #[.str "number" u5_0, .str "number" u5_1] n5, #[]⟩)
    (dO6 : K.lookup o6 = some ⟨.type "tuple", none, .seq #[.str "number" u6_0] n6, #[]⟩)
    (dO7 : K.lookup o7 = some ⟨.type "tuple", none, .seq #[.str "number" u7_0] n7, #[]⟩)
    (gW : PySem.W.nsIn K mainGlobals "WAYS" = some (some (.ref aW)))
    (dW : K.lookup aW = some ⟨.type "tuple", none, .seq #[.str "moves" v0, .str "stays" v1, .str "lapses" v2] nW, #[]⟩)
    (gR : PySem.W.nsIn K mainGlobals "RULES" = some (some (.ref aR)))
    (dR : K.lookup aR = some ⟨.type "tuple", none, .seq #[.str "fixed" v3, .str "anchor" v4] nR, #[]⟩)
    (gM : PySem.W.nsIn K mainGlobals "MOST_FIGURES" = some (some (.int 12 tM)))
    (z_ve : PySem.W.nsIn K mainGlobals "ValueError" = some none) {CQ CN CF CS : Addr} (aQ : PySem.W.nsIn K mainGlobals "NoOrder" = some (some (.ref CQ))) (aN : PySem.W.nsIn K mainGlobals "NoFeast" = some (some (.ref CN))) (aF : PySem.W.nsIn K mainGlobals "FeastError" = some (some (.ref CF))) (aS : PySem.W.nsIn K mainGlobals "Sealed" = some (some (.ref CS))) (qQ : PySem.W.excIn K CQ bmVE "ValueError.__new__" = true) (qF : PySem.W.excIn K CF bmVE "ValueError.__new__" = true) (hupQ : PySem.W.mroIn K CQ (.ref CF) = some true) (ekd : PySem.W.specialIn K (.builtin "object.__class__") "__get__" = some (some (.builtin "getset_descriptor.__get__"))) (eke : PySem.W.takesIn K (.builtin "object.__class__") = some true) (ekQ1 : PySem.W.hasDictIn K CQ = true) (ekQ2 : PySem.W.findIn K (.ref CQ) "__getattribute__" = some (some (.builtin "BaseException.__getattribute__"))) (ekQ7 : PySem.W.findIn K (.ref CQ) "__getattr__" = some none) (ekQ3 : PySem.W.findIn K (.ref CQ) "__class__" = some (some (.builtin "object.__class__"))) (ekQ6 : PySem.W.mroIn K CQ (.type "object") = some true) (ekQ8 : PySem.W.mroIn K CQ (.type "BaseException") = some true) (qv : PySem.W.kitOne K (.ref CQ) (.type "ValueError") = some true) (qq : PySem.W.kitOne K (.ref CQ) (.ref CQ) = some true) (qn : PySem.W.kitOne K (.ref CQ) (.ref CN) = some false) (qs : PySem.W.kitOne K (.ref CQ) (.ref CS) = some false) :
    ∃ fd : FuncData, (∀ (s : Shared) (v : Value), BindsTo s fd ⟨[v], []⟩ [("_law_script", v)]) /\ ∀ base : Heap, K.In base -> base.Ns mainGlobals mg -> FnOk l.prog w K mg base CX0 5 fa fd ["_law_script"] (liftSp K Z21) := by
  have e : f15 = fa := by
    have e := hfa.symm.trans (PySem.W.mg_of X G a15); cases e; rfl
  subst e; have T_ORDERS : GDic l.prog w K mg "ORDERS" [("year", o0), ("enter", o1), ("strike", o2), ("rank", o3), ("shut", o4), ("anchor", o5), ("seal", o6), ("unseal", o7)] := ⟨⟨aO, _, nO, PySem.W.mg_of X G gO, dO, (keys_of [("year", o0), ("enter", o1), ("strike", o2), ("rank", o3), ("shut", o4), ("anchor", o5), ("seal", o6), ("unseal", o7)] [tk0, tk1, tk2, tk3, tk4, tk5, tk6, tk7] rfl).1, (keys_of [("year", o0), ("enter", o1), ("strike", o2), ("rank", o3), ("shut", o4), ("anchor", o5), ("seal", o6), ("unseal", o7)] [tk0, tk1, tk2, tk3, tk4, tk5, tk6, tk7] rfl).2, by show (["year", "enter", "strike", "rank", "shut", "anchor", "seal", "unseal"] : List Str).Nodup; decide⟩, fun a e => by rw [PySem.W.mg_of X G gO] at e; cases e; exact sO⟩; have go0 : GTup K o0 ["number", "number"] := ⟨_, _, _, dO0, rfl, rfl, (by decide : 2 <= sizeLine), (.cons ⟨_, rfl⟩ (.cons ⟨_, rfl⟩ .nil))⟩; have go1 : GTup K o1 ["number", "number", "way", "rule", "number", "number", "number"] := ⟨_, _, _, dO1, rfl, rfl, (by decide : 7 <= sizeLine), (.cons ⟨_, rfl⟩ (.cons ⟨_, rfl⟩ (.cons ⟨_, rfl⟩ (.cons ⟨_, rfl⟩ (.cons ⟨_, rfl⟩ (.cons ⟨_, rfl⟩ (.cons ⟨_, rfl⟩ .nil)))))))⟩; have go2 : GTup K o2 ["number"] := ⟨_, _, _, dO2, rfl, rfl, (by decide : 1 <= sizeLine), (.cons ⟨_, rfl⟩ .nil)⟩; have go3 : GTup K o3 ["number", "number"] := ⟨_, _, _, dO3, rfl, rfl, (by decide : 2 <= sizeLine), (.cons ⟨_, rfl⟩ (.cons ⟨_, rfl⟩ .nil))⟩; have go4 : GTup K o4 ["number", "number", "number"] := ⟨_, _, _, dO4, rfl, rfl, (by decide : 3 <= sizeLine), (.cons ⟨_, rfl⟩ (.cons ⟨_, rfl⟩ (.cons ⟨_, rfl⟩ .nil)))⟩; have go5 : GTup K o5 ["number", "number"] := ⟨_, _, _, dO5, rfl, rfl, (by decide : 2 <= sizeLine), (.cons ⟨_, rfl⟩ (.cons ⟨_, rfl⟩ .nil))⟩; have go6 : GTup K o6 ["number"] := ⟨_, _, _, dO6, rfl, rfl, (by decide : 1 <= sizeLine), (.cons ⟨_, rfl⟩ .nil)⟩; have go7 : GTup K o7 ["number"] := ⟨_, _, _, dO7, rfl, rfl, (by decide : 1 <= sizeLine), (.cons ⟨_, rfl⟩ .nil)⟩; have OT : OrdT K [("year", o0), ("enter", o1), ("strike", o2), ("rank", o3), ("shut", o4), ("anchor", o5), ("seal", o6), ("unseal", o7)] := ⟨go0, go1, go2, go3, go4, go5, go6, go7⟩; have gw : GTup K aW ["moves", "stays", "lapses"] := ⟨_, _, _, dW, rfl, rfl, (by decide : 3 <= sizeLine), (.cons ⟨_, rfl⟩ (.cons ⟨_, rfl⟩ (.cons ⟨_, rfl⟩ .nil)))⟩; have gr : GTup K aR ["fixed", "anchor"] := ⟨_, _, _, dR, rfl, rfl, (by decide : 2 <= sizeLine), (.cons ⟨_, rfl⟩ (.cons ⟨_, rfl⟩ .nil))⟩; have m_WAYS := PySem.W.mg_of X G gW; have m_RULES := PySem.W.mg_of X G gR; have m_MOST_FIGURES := PySem.W.mg_of X G gM; have z_len := PySem.W.mg_none_of X G z_len; have z_zip := PySem.W.mg_none_of X G z_zip; have z_int := PySem.W.mg_none_of X G z_int; have z_tuple := PySem.W.mg_none_of X G z_tuple; have z_enumerate := PySem.W.mg_none_of X G z_enumerate; have z_isinstance := PySem.W.mg_none_of X G z_isinstance; have z_bool := PySem.W.mg_none_of X G z_bool; have z_str := PySem.W.mg_none_of X G z_str; have z_ve := PySem.W.mg_none_of X G z_ve; have hQ := PySem.W.mg_of X G aQ
  have hN := PySem.W.mg_of X G aN; have hF := PySem.W.mg_of X G aF; have hS := PySem.W.mg_of X G aS; have ekQ : ErrK K CQ := ⟨ekQ1, ekQ2, ekQ7, ekQ3, ekd, eke, ekQ6, ekQ8⟩; have ndQ : ∀ C2, mg "NoOrder" = some (.ref C2) -> EK K C2 CN CS := fun C2 h2 => by have e := h2.symm.trans hQ; cases e; exact ⟨ekQ, qv, qq, qn, qs⟩
  have m0 := PySem.W.mg_of X G a0; have T0 := fun_mk (st := Z1b) l0 c0 k0; have b0 := T0.binds (ps := ["text"]) fun _ _ _ _ _ _ us hl => by obtain ⟨_, rfl⟩ := lenIs1 hl; rfl
  have m1 := PySem.W.mg_of X G a1; have T1 := fun_mk (st := Z1v) l1 c1 k1; have b1 := T1.binds (ps := ["text", "sort"]) fun _ _ _ _ _ _ us hl => by obtain ⟨_, _, rfl⟩ := lenIs2 hl; rfl
  have m2 := PySem.W.mg_of X G a2; have T2 := fun_mk (st := Zo) l2 c2 k2; have b2 := T2.binds (ps := ["texts", "sorts"]) fun _ _ _ _ _ _ us hl => by obtain ⟨_, _, rfl⟩ := lenIs2 hl; rfl
  have m3 := PySem.W.mg_of X G a3; have T3 := fun_mk (st := Z1x) l3 c3 k3; have b3 := T3.binds (ps := ["text"]) fun _ _ _ _ _ _ us hl => by obtain ⟨_, rfl⟩ := lenIs1 hl; rfl
  have m4 := PySem.W.mg_of X G a4; have T4 := fun_mk (st := Z10) l4 c4 k4; have b4 := T4.binds (ps := ["_law_script", "_law_place"]) fun _ _ _ _ _ _ us hl => by obtain ⟨_, _, rfl⟩ := lenIs2 hl; rfl
  have m5 := PySem.W.mg_of X G a5; have T5 := fun_mk (st := Z1e) l5 c5 k5; have b5 := T5.binds (ps := ["_law_cell_here"]) fun _ _ _ _ _ _ us hl => by obtain ⟨_, rfl⟩ := lenIs1 hl; rfl
  have m6 := PySem.W.mg_of X G a6; have T6 := fun_mk (st := Zb) l6 c6 k6; have b6 := T6.binds (ps := ["_law_cell_here", "_law_sizes"]) fun _ _ _ _ _ _ us hl => by obtain ⟨_, _, rfl⟩ := lenIs2 hl; rfl
  have m7 := PySem.W.mg_of X G a7; have T7 := fun_mk (st := Zp) l7 c7 k7; have b7 := T7.binds (ps := ["_law_thing"]) fun _ _ _ _ _ _ us hl => by obtain ⟨_, rfl⟩ := lenIs1 hl; rfl
  have m8 := PySem.W.mg_of X G a8; have T8 := fun_mk (st := Zv) l8 c8 k8; have b8 := T8.binds (ps := ["_law_cell_here", "_law_near"]) fun _ _ _ _ _ _ us hl => by obtain ⟨_, _, rfl⟩ := lenIs2 hl; rfl
  have m9 := PySem.W.mg_of X G a9; have T9 := fun_mk (st := Z2) l9 c9 k9; have b9 := T9.binds (ps := ["_law_found"]) fun _ _ _ _ _ _ us hl => by obtain ⟨_, rfl⟩ := lenIs1 hl; rfl
  have m10 := PySem.W.mg_of X G a10; have T10 := fun_mk (st := Zm) l10 c10 k10; have b10 := T10.binds (ps := []) fun _ _ _ _ _ _ us hl => by obtain rfl := lenIs0 hl; rfl
  have m11 := PySem.W.mg_of X G a11; have T11 := fun_mk (st := Z7) l11 c11 k11; have b11 := T11.binds (ps := ["_law_text", "_law_cell_here"]) fun _ _ _ _ _ _ us hl => by obtain ⟨_, _, rfl⟩ := lenIs2 hl; rfl
  have m12 := PySem.W.mg_of X G a12; have T12 := fun_mk (st := Za) l12 c12 k12; have b12 := T12.binds (ps := ["_law_word"]) fun _ _ _ _ _ _ us hl => by obtain ⟨_, rfl⟩ := lenIs1 hl; rfl
  have m13 := PySem.W.mg_of X G a13; have T13 := fun_mk (st := Z1f) l13 c13 k13; have b13 := T13.binds (ps := ["_law_name"]) fun _ _ _ _ _ _ us hl => by obtain ⟨_, rfl⟩ := lenIs1 hl; rfl
  have m14 := PySem.W.mg_of X G a14; have T14 := fun_mk (st := Z1o) l14 c14 k14; have b14 := T14.binds (ps := ["_law_text"]) fun _ _ _ _ _ _ us hl => by obtain ⟨_, rfl⟩ := lenIs1 hl; rfl
  have m15 := PySem.W.mg_of X G a15; have T15 := fun_mk (st := Z1y) l15 c15 k15; have b15 := T15.binds (ps := ["_law_script"]) fun _ _ _ _ _ _ us hl => by obtain ⟨_, rfl⟩ := lenIs1 hl; rfl
  have G0 : ∀ base : Heap, FnOk l.prog w K mg base CX0 (0 + 1) f0 _ _ (liftSp K Z1g) := fun base => Z16 T0  z_len m_MOST_FIGURES
  have G4 : ∀ base : Heap, FnOk l.prog w K mg base CX0 (0 + 1) f4 _ _ (liftSp K Z1h) := fun base => Zz T4  z_len
  have G5 : ∀ base : Heap, FnOk l.prog w K mg base CX0 (0 + 1) f5 _ _ (liftSp K Z13) := fun base => Z1a T5
  have G7 : ∀ base : Heap, FnOk l.prog w K mg base CX0 (0 + 1) f7 _ _ (liftSp K Zx) := fun base => Zn T7  z_isinstance z_bool z_int
  have G10 : ∀ base : Heap, FnOk l.prog w K mg base CX0 (0 + 1) f10 _ _ (liftSp K Zu) := fun base => Zk T10
  have G12 : ∀ base : Heap, FnOk l.prog w K mg base CX0 (0 + 1) f12 _ _ (liftSp K Ze) := fun base => Zi T12  z_len z_int
  have G13 : ∀ base : Heap, FnOk l.prog w K mg base CX0 (0 + 1) f13 _ _ (liftSp K Z1c) := fun base => Z15 T13
  have G1 : ∀ base : Heap, FnOk l.prog w K mg base CX0 (1 + 1) f1 _ _ (liftSp K Z1t) := fun base => Z1s T1 (mkF2 G0 m0 k0 b0 (by decide))  m_WAYS m_RULES gw gr
  have G6 : ∀ base : Heap, FnOk l.prog w K mg base CX0 (1 + 1) f6 _ _ (liftSp K Zh) := fun base => Zf T6 (mkF2 G5 m5 k5 b5 (by decide)) z_enumerate
  have G9 : ∀ base : Heap, FnOk l.prog w K mg base CX0 (1 + 1) f9 _ _ (liftSp K Z0) := fun base => Z1 T9 (mkF2 G7 m7 k7 b7 (by decide)) z_len z_isinstance z_tuple z_str
  have G14 : ∀ base : Heap, FnOk l.prog w K mg base CX0 (1 + 1) f14 _ _ (liftSp K Z1m) := fun base => Z1l T14 (mkF2 G13 m13 k13 b13 (by decide)) (mkF2 G12 m12 k12 b12 (by decide)) z_len z_zip z_tuple
  have G8 : ∀ base : Heap, FnOk l.prog w K mg base CX0 (2 + 1) f8 _ _ (liftSp K Zt) := fun base => Zj T8 (mkF2 G6 m6 k6 b6 (by decide))
  have G11 : ∀ base : Heap, FnOk l.prog w K mg base CX0 (2 + 1) f11 _ _ (liftSp K Z5) := fun base => Z6 T11 (mkF2 G6 m6 k6 b6 (by decide)) (mkF2 G10 m10 k10 b10 (by decide)) z_len
  have GXp : ∀ base : Heap, K.In base -> base.Ns mainGlobals mg -> FnOk l.prog w K mg base (CX1 l.prog w) (2 + 1) f2 _ _ (liftX K mg (spX_read_parts K)) := fun base kb gb => okx_read_parts T2 (mkF2 G1 m1 k1 b1 (by decide)) z_len z_zip z_int z_tuple hQ (err_of kb gb PySem.F.excBase_ValueError aQ qQ)
  have GXr : ∀ base : Heap, K.In base -> base.Ns mainGlobals mg -> FnOk l.prog w K mg base (CX1 l.prog w) (3 + 1) f3 _ _ (liftX K mg spX_read) := fun base kb gb => okx_read T3 (mkBX (GXp base kb gb) m2 k2 b2 (by decide)) T_ORDERS OT hQ (err_of kb gb PySem.F.excBase_ValueError aQ qQ)
  have G15 : ∀ base : Heap, K.In base -> base.Ns mainGlobals mg -> FnOk l.prog w K mg base CX0 (4 + 1) f15 _ _ (liftSp K Z21) := fun base kb gb => Z20 T15 (mkF2 G8 m8 k8 b8 (by decide)) (mkF2 G4 m4 k4 b4 (by decide)) (mkF2 G11 m11 k11 b11 (by decide)) (mkF2 G6 m6 k6 b6 (by decide)) (mkBX (GXr base kb gb) m3 k3 b3 (by decide)) (mkF2 G14 m14 k14 b14 (by decide)) (mkF2 G9 m9 k9 b9 (by decide)) z_str z_isinstance z_ve kb (err_of kb gb PySem.F.excBase_ValueError aQ qQ) (err_of kb gb PySem.F.excBase_ValueError aF qF) hupQ hN hS ndQ
  exact ⟨PySem.W.fnOf "law" "law" (defArgs Z1y) (defBody Z1y) (defScope Z1y) .none kV15 dc15 pm15 an15 cd15 ct15, fun s v => .of_eq rfl, fun base kb gb => G15 base kb gb⟩
theorem law_sp {K : PySem.W.Frag} {H : Hp} {a : Addr} {ns : List Int} (hl : ns.length <= 63) (hS : SqL K H a (ns.map V.int)) : liftSp K Z21 [.ref a] H (fun v _ => v = .bl true) E0 :=
  ⟨[.lst (ns.map .int)], fun r => r = .val (.bl true), Reps.cons (by simp only [Rep]; exact ⟨a, _, rfl, hS, Reps.ints ns⟩) Reps.nil, ⟨ns, rfl, hl, rfl⟩, fun v H' r ok e => by subst e; exact (by simpa only [Rep] using ok.2)⟩
theorem walk {l : PySem.W.OpenLaw} {q : Program} {loose : List Str} {XP : (Str -> Option Value) -> Heap -> Prop} {YP : World -> Heap -> Prop} {d : DefRec} {K : Params -> PySem.W.Frag} (hn : l.most = some 63) (hdf : d.params.defaults = [])
 (hY : ∀ (w : World) (h : Heap), YP w h -> (K w.params).In h)
 (F : ∀ (w : World) (mg : Str -> Option Value) (fa : Addr) (h : Heap), (K w.params).In h -> h.Ns mainGlobals mg -> mg d.name = some (.ref fa) ->
 ∃ fd : FuncData, (∀ (s : Shared) (u : Value), BindsTo s fd ⟨[u], []⟩ [("_law_script", u)]) /\ ∀ base : Heap, (K w.params).In base -> base.Ns mainGlobals mg -> FnOk l.prog w (K w.params) mg base CX0 5 fa fd ["_law_script"] (liftSp (K w.params) Z21)) :
 PySem.W.WalkO q loose XP YP l.row.toRowW d [] (fun f vs => PySem.call f vs) :=
  L2.walk_of (n := 63) (k := 5) (x := "_law_script") (CX := fun _ => CX0) (sp := fun w => liftSp (K w.params) Z21) hn (by decide) hdf ⟨rfl, by decide, by decide⟩ hY F (fun _ _ a ns hl _ hS => law_sp hl hS) fun _ _ _ _ _ z => z
end My
open PySem PySem.W PyProof.Rows
local macro_rules | `(tactic| refine $e) => do
  let e' <- e.raw.replaceM fun x => if x.isIdent && x.getId == `hl then pure (some (Lean.mkIdent `hq).raw) else pure none
  if e' == e.raw then Lean.Macro.throwUnsupported else
    let e' : Lean.TSyntax `term := ⟨e'⟩
    `(tactic| refine $e')
set_option maxRecDepth 100000 in
set_option maxHeartbeats 0 in
theorem PySem.Challenge.cw_feastfall_k36_texts_that_write_no_order_holds : PySem.Challenge.rw_feastfall_k36_texts_that_write_no_order.Holds := by
  w_on; o_law; k_head; (case hq => refine PySem.W.LeftO.of_split "special-get-raises" ?_; intro w; kernel_rfl); (case hw => w_witness2)
  k_fill
  refine My.walk (l := PySem.Challenge.rw_feastfall_k36_texts_that_write_no_order) rfl rfl (fun w h Y => PySem.W.kIn_of Y) ?F
  case F =>
    intro w mg fa h KX G hmg; refine' My.all_mk KX G hmg ?a0 ?l0 ?c0 ?k0 ?a1 ?l1 ?c1 ?k1 ?a2 ?l2 ?c2 ?k2 ?a3 ?l3 ?c3 ?k3 ?a4 ?l4 ?c4 ?k4 ?a5 ?l5 ?c5 ?k5 ?a6 ?l6 ?c6 ?k6 ?a7 ?l7 ?c7 ?k7 ?a8 ?l8 ?c8 ?k8 ?a9 ?l9 ?c9 ?k9 ?a10 ?l10 ?c10 ?k10 ?a11 ?l11 ?c11 ?k11 ?a12 ?l12 ?c12 ?k12 ?a13 ?l13 ?c13 ?k13 ?a14 ?l14 ?c14 ?k14 ?a15 ?l15 ?c15 ?k15 ?z_len ?z_zip ?z_int ?z_tuple ?z_enumerate ?z_isinstance ?z_bool ?z_str ?gO ?sO ?dO ?dO0 ?dO1 ?dO2 ?dO3 ?dO4 ?dO5 ?dO6 ?dO7 ?gW ?dW ?gR ?dR ?gM ?z_ve ?aQ ?aN ?aF ?aS ?qQ ?qF ?hupQ ?ekd ?eke ?ekQ1 ?ekQ2 ?ekQ7 ?ekQ3 ?ekQ6 ?ekQ8 ?qv ?qq ?qn ?qs
    (case a0 => k_is); (case l0 => unfold My.LkF; k_is); (case c0 => k_is); (case k0 => k_is); (case a1 => k_is); (case l1 => unfold My.LkF; k_is); (case c1 => k_is); (case k1 => k_is); (case a2 => k_is); (case l2 => unfold My.LkF; k_is); (case c2 => k_is); (case k2 => k_is); (case a3 => k_is); (case l3 => unfold My.LkF; k_is); (case c3 => k_is); (case k3 => k_is); (case a4 => k_is); (case l4 => unfold My.LkF; k_is); (case c4 => k_is); (case k4 => k_is); (case a5 => k_is); (case l5 => unfold My.LkF; k_is); (case c5 => k_is); (case k5 => k_is); (case a6 => k_is); (case l6 => unfold My.LkF; k_is); (case c6 => k_is); (case k6 => k_is); (case a7 => k_is); (case l7 => unfold My.LkF; k_is); (case c7 => k_is); (case k7 => k_is); (case a8 => k_is); (case l8 => unfold My.LkF; k_is); (case c8 => k_is); (case k8 => k_is); (case a9 => k_is); (case l9 => unfold My.LkF; k_is); (case c9 => k_is); (case k9 => k_is); (case a10 => k_is); (case l10 => unfold My.LkF; k_is); (case c10 => k_is); (case k10 => k_is); (case a11 => k_is); (case l11 => unfold My.LkF; k_is); (case c11 => k_is); (case k11 => k_is); (case a12 => k_is); (case l12 => unfold My.LkF; k_is); (case c12 => k_is); (case k12 => k_is); (case a13 => k_is); (case l13 => unfold My.LkF; k_is); (case c13 => k_is); (case k13 => k_is); (case a14 => k_is); (case l14 => unfold My.LkF; k_is); (case c14 => k_is); (case k14 => k_is); (case a15 => k_is); (case l15 => unfold My.LkF; k_is); (case c15 => k_is); (case k15 => k_is); (case z_len => k_is); (case z_zip => k_is); (case z_int => k_is); (case z_tuple => k_is); (case z_enumerate => k_is); (case z_isinstance => k_is); (case z_bool => k_is); (case z_str => k_is); (case gO => k_is); (case sO => rfl); (case dO => k_is); (case dO0 => k_is); (case dO1 => k_is); (case dO2 => k_is); (case dO3 => k_is); (case dO4 => k_is); (case dO5 => k_is); (case dO6 => k_is); (case dO7 => k_is); (case gW => k_is); (case dW => k_is); (case gR => k_is); (case dR => k_is); (case gM => k_is); (case z_ve => k_is); (case aQ => k_is); (case aN => k_is); (case aF => k_is); (case aS => k_is); (case qQ => k_exc); (case qF => k_exc); (case hupQ => k_is); (case ekd => k_is); (case eke => k_is); (case ekQ1 => k_is); (case ekQ2 => k_is); (case ekQ7 => k_is); (case ekQ3 => k_is); (case ekQ6 => k_is); (case ekQ8 => k_is); (case qv => kit_is); (case qq => kit_is); (case qn => kit_is); (case qs => kit_is)
