import PyProof.Rows.All
import Wide.All
import OpenK.AllK
import Wide.FinOn
import Lean
import PyProof.EqAt
import PyProof.EqKinds
import PyProof.TupleCall
import PySem.Challenge.RW_feastfall_k57_refusals_by_their_classes
set_option Elab.async false
set_option linter.all false
set_option maxRecDepth 100000
namespace L2
open PySem PySem.Spec PyProof.Rows
abbrev Key := Sum Int Str
def keyIs : Key -> Value -> Bool
  | .inl k, v => Value.isInt k v
  | .inr x, v => Value.isStrOf x v
def keyH (w : World) : Key -> Int
  | .inl k => hashInt k
  | .inr x => hashStr w x
theorem keyIs_shape : ∀ {k : Key} {v : Value}, keyIs k v = true -> (∃ i t, k = Sum.inl i /\ v = Value.int i t) \/ (∃ x t, k = Sum.inr x /\ v = Value.str x t)
  | .inl i, v, h => by
    obtain ⟨t, e⟩ := Value.isInt_shape (k := i) (v := v) h; exact .inl ⟨i, t, rfl, e⟩
  | .inr x, v, h => by
    obtain ⟨t, e⟩ := Value.isStrOf_shape (x := x) (v := v) h; exact .inr ⟨x, t, rfl, e⟩
theorem keyIs_int (i : Int) (t : Tok) : keyIs (.inl i) (.int i t) = true := by simp [keyIs, Value.isInt]
theorem keyIs_str (x : Str) (t : Tok) : keyIs (.inr x) (.str x t) = true := by simp [keyIs, Value.isStrOf]
theorem key_ll (a b : Int) : decide ((Sum.inl a : Key) = Sum.inl b) = (a == b) := by
  by_cases e : a = b
  · subst e; simp
  · have h : ¬ (Sum.inl a : Key) = Sum.inl b := fun q => e (Sum.inl.inj q)
    rw [decide_eq_false h]; exact (beq_eq_false_iff_ne.mpr e).symm
theorem key_rr (a b : Str) : decide ((Sum.inr a : Key) = Sum.inr b) = decide (a = b) := by
  by_cases e : a = b
  · subst e; simp
  · have h : ¬ (Sum.inr a : Key) = Sum.inr b := fun q => e (Sum.inr.inj q)
    rw [decide_eq_false h, decide_eq_false e]
theorem key_lr (a : Int) (b : Str) : decide ((Sum.inl a : Key) = Sum.inr b) = false := decide_eq_false (fun q => nomatch q)
theorem key_rl (a : Str) (b : Int) : decide ((Sum.inr a : Key) = Sum.inl b) = false := decide_eq_false (fun q => nomatch q)
def mixKind (prog : Program) (w : World) : PySem.KeyKind prog w Key where
  is := keyIs
  hash := keyH w
  inj := fun v a b ha hb => by
    rcases keyIs_shape ha with ⟨i, t, rfl, rfl⟩ | ⟨x, t, rfl, rfl⟩
    · rcases keyIs_shape hb with ⟨j, u, rfl, e⟩ | ⟨y, u, rfl, e⟩
      · injection e with e1 _; rw [e1]
      · exact nomatch e
    · rcases keyIs_shape hb with ⟨j, u, rfl, e⟩ | ⟨y, u, rfl, e⟩
      · exact nomatch e
      · injection e with e1 _; rw [e1]
  byValue := fun k v h => by
    rcases keyIs_shape h with ⟨i, t, rfl, rfl⟩ | ⟨x, t, rfl, rfl⟩ <;> rfl
  pyHash := fun hv h => by
    rcases keyIs_shape hv with ⟨i, t, rfl, rfl⟩ | ⟨x, t, rfl, rfl⟩
    · exact wpAny_pyHash_int h
    · exact wpAny_pyHash_str h
  eqBool := fun hu hv h => by
    rcases keyIs_shape hu with ⟨i, t, rfl, rfl⟩ | ⟨x, t, rfl, rfl⟩
    · rcases keyIs_shape hv with ⟨j, u, rfl, rfl⟩ | ⟨y, u, rfl, rfl⟩
      · rw [key_ll] at h; exact wpAny_eqBool_int h
      · rw [key_lr] at h; exact SeqAt.EqAt.int_str i t y u _ _ _ _ h
    · rcases keyIs_shape hv with ⟨j, u, rfl, rfl⟩ | ⟨y, u, rfl, rfl⟩
      · rw [key_rl] at h; exact SeqAt.EqAt.str_int x t j u _ _ _ _ h
      · rw [key_rr] at h; exact wpAny_eqBool_str h
  «strs» := fun k x t v h => by
    rcases keyIs_shape h with ⟨i, u, rfl, e⟩ | ⟨y, u, rfl, e⟩
    · exact nomatch e
    · injection e with e1 _
      subst e1
      cases v <;> rfl
theorem mixKind_int (prog : Program) (w : World) (i : Int) (t : Tok) : (mixKind prog w).is (.inl i) (.int i t) = true := keyIs_int i t
theorem mixKind_str (prog : Program) (w : World) (x : Str) (t : Tok) : (mixKind prog w).is (.inr x) (.str x t) = true := keyIs_str x t
inductive V where
  | non | bl (b : Bool) | int (i : Int) | str (x : Str) | byt (b : Array UInt8) | flt (b : UInt64) | ref (a : Addr) | ty (n : String)
  deriving DecidableEq
def RelV : V -> Value -> Prop
  | .non, u => u = Value.none
  | .bl b, u => u = Value.bool b
  | .int i, u => ∃ t, u = Value.int i t
  | .str x, u => ∃ t, u = Value.str x t
  | .byt b, u => ∃ t, u = Value.bytes b t
  | .flt b, u => ∃ t, u = Value.float b t
  | .ref a, u => u = Value.ref a
  | .ty n, u => u = Value.type n
abbrev Vals : List V -> List Value -> Prop := Paired RelV
theorem Vals.length {xs : List V} {us : List Value} (r : Vals xs us) : xs.length = us.length := Paired.length r
theorem Vals.get : ∀ {xs : List V} {us : List Value} {i : Nat} {x : V}, Vals xs us -> xs[i]? = some x -> ∃ u, us[i]? = some u /\ RelV x u
  | _, _, _, _, .nil, e => by simp at e
  | _, _, 0, _, .cons r _, e => by simp at e; subst e; exact ⟨_, rfl, r⟩
  | _, _, i + 1, x, .cons _ t, e => by
    obtain ⟨u, h1, h2⟩ := Vals.get (i := i) (x := x) t (by simpa using e); exact ⟨u, by simpa using h1, h2⟩
theorem Vals.append : ∀ {xs ys : List V} {us ws : List Value}, Vals xs us -> Vals ys ws -> Vals (xs ++ ys) (us ++ ws)
  | _, _, _, _, .nil, s => s
  | _, _, _, _, .cons r t, s => .cons r (Vals.append t s)
def RelO : Option V -> Option Value -> Prop
  | some v, some u => RelV v u
  | none, none => True
  | _, _ => False
def KV {κ : Type} : List (κ × V) -> List (κ × Value) -> Prop := Paired fun (p : κ × V) (q : κ × Value) => p.1 = q.1 /\ RelV p.2 q.2
def kV : Key -> V
  | .inl i => .int i
  | .inr x => .str x
inductive HO where
  | lst (xs : List V)
  | tup (xs : List V)
  | dK (kvs : List (Key × V)) | dT (kvs : List (List Key × V))
  | set (S : Int -> Bool) (n : Nat)
  | ins (C dx : Addr) (fs : List (Str × V))
  | own (x : Addr)
  | xd (fs : List (Str × V))
  | met (f x : Addr)
  | rng (lo hi : Int)
  | frz (o : Obj) (u : HO)
  | tbl (ps : Array Value)
  | ext (φ : Heap -> Prop)
abbrev Hp := Addr -> Option HO
def upd (H : Hp) (a : Addr) (o : HO) : Hp := fun b => if b = a then some o else H b
theorem upd_same {H : Hp} {a : Addr} {o : HO} : upd H a o a = some o := by unfold upd; rw [if_pos rfl]
theorem upd_ne {H : Hp} {a b : Addr} {o : HO} (h : b ≠ a) : upd H a o b = H b := by unfold upd; rw [if_neg h]
theorem upd_upd {H : Hp} {a : Addr} {o u : HO} : upd (upd H a o) a u = upd H a u := by
  funext b; unfold upd; split <;> rfl
theorem ne_of_none {H : Hp} {a b : Addr} {o : HO} (h : H a = some o) (h' : H b = none) : a ≠ b := by
  intro e; subst e; rw [h] at h'; cases h'
section
variable (P : Program) (w : World)
def ObjOk (H : Hp) (h : Heap) (a : Addr) : HO -> Prop
  | .lst xs => xs.length <= sizeLine /\ ∃ (its : List Value) (n : Nat), Vals xs its /\ h.get? a = some { cls := .type "list", data := .seq its.toArray n }
  | .tup xs => xs.length <= sizeLine /\ ∃ its : List Value, Vals xs its /\ IsTup h a its.toArray
  | .dK kvs => kvs.length <= sizeLine /\ (a == sysModules) = false /\ ∃ vs, KV kvs vs /\ h.DictOf (mixKind P w) a vs
  | .dT kvs => kvs.length <= sizeLine /\ (a == sysModules) = false /\ ∃ xs : List (List Key × Addr × Value),
      Paired (fun (p : List Key × V) (q : List Key × Addr × Value) => p.1 = q.1 /\ H q.2.1 = some (.tup (p.1.map kV)) /\ RelV p.2 q.2.2) kvs xs /\
      ∃ o es ep, h.get? a = some o /\ o.ExactDict /\ o.data = .dict es ep /\ es.toList = xs.map (entryOfKey (tupleKind (mixKind P w))) /\ (xs.map (·.1)).Nodup
  | .set S n => h.SetOf (intKind P w) a S n
  | .ins C dx fs => H dx = some (.own a) /\ fs.length <= 1000 /\ dx ≠ a /\ h.get? a = some (PySem.W.instObj C dx) /\
      ∃ mA, h.Ns1 dx mA /\ (∀ f, RelO (fs.lookup f) (mA f)) /\ PySem.Within mA (fs.map (·.1))
  | .own _ => ∃ o, h.get? a = some o
  | .xd fs => ∃ mA, h.Ns1 a mA /\ ∀ f, RelO (fs.lookup f) (mA f)
  | .rng lo hi => ∃ t u v, h.get? a = some { cls := .type "range", data := .fields #[.int lo t, .int hi u, .int 1 v] }
  | .frz o u => h.get? a = some o /\ ObjOk H h a u
  | .tbl ps => h.get? a = some { cls := .none, data := .fields ps }
  | .met f x => h.get? a = some (PySem.W.methodObj (.ref f) (.ref x))
  | .ext φ => φ h /\ (∃ o, h.get? a = some o) /\ ∀ h1 h2 : Heap, φ h1 -> (∀ o, h1.get? a = some o -> h2.get? a = some o) -> φ h2
def HOk (H : Hp) (h : Heap) : Prop := ∀ a o, H a = some o -> ObjOk P w H h a o
end
section
variable {P : Program} {w : World} {H H' : Hp} {h h' : Heap} {a : Addr} {o : HO}
theorem ObjOk.lt (x : ObjOk P w H h a o) : a < h.objs.size := by
  cases o with
  | lst xs => obtain ⟨_, _, _, _, e⟩ := x; exact Heap.lt_size e
  | tup xs => obtain ⟨_, _, _, p⟩ := x; exact p.lt
  | dK kvs => obtain ⟨_, _, _, _, o, _, _, e, _⟩ := x; exact Heap.lt_size e
  | dT kvs => obtain ⟨_, _, _, _, o, _, _, e, _⟩ := x; exact Heap.lt_size e
  | set S n => obtain ⟨o, _, _, _, e, _⟩ := x; exact Heap.lt_size e
  | ins C dx fs => obtain ⟨_, _, _, e, _⟩ := x; exact Heap.lt_size e
  | own y => obtain ⟨_, e⟩ := x; exact Heap.lt_size e
  | xd fs => obtain ⟨_, ⟨_, _, _, e, _⟩, _⟩ := x; exact Heap.lt_size e
  | rng lo hi => obtain ⟨_, _, _, e⟩ := x; exact Heap.lt_size e
  | frz ob u => obtain ⟨e, _⟩ := x; exact Heap.lt_size e
  | tbl ps => exact Heap.lt_size (show h.get? a = some _ from x)
  | met f y => exact Heap.lt_size (show h.get? a = some _ from x)
  | ext φ => obtain ⟨_, ⟨_, e⟩, _⟩ := x; exact Heap.lt_size e
theorem Paired.mapP {α β : Type} {F G : α -> β -> Prop} : ∀ {l₁ : List α} {l₂ : List β}, Paired F l₁ l₂ -> (∀ a b, F a b -> G a b) -> Paired G l₁ l₂
  | _, _, .nil, _ => .nil
  | _, _, .cons r t, f => .cons (f _ _ r) (Paired.mapP t f)
theorem ObjOk.stay (x : ObjOk P w H h a o) (k : ∀ b u, (b = a \/ H b = some (.own a)) -> h.get? b = some u -> h'.get? b = some u)
 (ho : ∀ b, H b = some (.own a) -> H' b = some (.own a)) (ht : ∀ b xs, H b = some (.tup xs) -> H' b = some (.tup xs)) : ObjOk P w H' h' a o := by
  induction o with
  | lst xs => obtain ⟨z, its, n, r, e⟩ := x; exact ⟨z, its, n, r, k _ _ (.inl rfl) e⟩
  | tup xs => obtain ⟨z, its, r, ob, e, c⟩ := x; exact ⟨z, its, r, ob, k _ _ (.inl rfl) e, c⟩
  | dK kvs => obtain ⟨z, y, vs, r, ob, es, ep, e, c⟩ := x; exact ⟨z, y, vs, r, ob, es, ep, k _ _ (.inl rfl) e, c⟩
  | dT kvs =>
    obtain ⟨z, y, xs, r, ob, es, ep, e, c⟩ := x; exact ⟨z, y, xs, Paired.mapP r fun p q z => ⟨z.1, ht _ _ z.2.1, z.2.2⟩, ob, es, ep, k _ _ (.inl rfl) e, c⟩
  | set S n => obtain ⟨ob, es, ep, t, e, c⟩ := x; exact ⟨ob, es, ep, t, k _ _ (.inl rfl) e, c⟩
  | ins C dx fs =>
    obtain ⟨d, z, ne, e, mA, ⟨od, es, ep, e2, c⟩, r⟩ := x; exact ⟨ho _ d, z, ne, k _ _ (.inl rfl) e, mA, ⟨od, es, ep, k _ _ (.inr d) e2, c⟩, r⟩
  | own y => obtain ⟨ob, e⟩ := x; exact ⟨ob, k _ _ (.inl rfl) e⟩
  | xd fs => obtain ⟨mA, ⟨od, es, ep, e, c⟩, r⟩ := x; exact ⟨mA, ⟨od, es, ep, k _ _ (.inl rfl) e, c⟩, r⟩
  | rng lo hi => obtain ⟨t, u, v, e⟩ := x; exact ⟨t, u, v, k _ _ (.inl rfl) e⟩
  | frz ob u ih => obtain ⟨e, q⟩ := x; exact ⟨k _ _ (.inl rfl) e, ih q⟩
  | tbl ps =>
    have e : h.get? a = some { cls := .none, data := .fields ps } := x
    show h'.get? a = some { cls := .none, data := .fields ps }
    exact k a _ (.inl rfl) e
  | met f y =>
    have e : h.get? a = some (PySem.W.methodObj (.ref f) (.ref y)) := x
    show h'.get? a = some (PySem.W.methodObj (.ref f) (.ref y))
    exact k a _ (.inl rfl) e
  | ext φ => obtain ⟨p, ⟨o, e⟩, st⟩ := x; exact ⟨st _ _ p fun o q => k _ _ (.inl rfl) q, ⟨o, k _ _ (.inl rfl) e⟩, st⟩
theorem HOk.lt (x : HOk P w H h) (e : H a = some o) : a < h.objs.size := (x a o e).lt
theorem HOk.fresh (x : HOk P w H h) (e : h.objs.size <= a) : H a = none := by
  cases q : H a with
  | none => rfl
  | some u => exact absurd (Nat.lt_of_lt_of_le (x.lt q) e) (Nat.lt_irrefl _)
theorem HOk.kept (x : HOk P w H h) (k : ∀ b u, h.get? b = some u -> h'.get? b = some u) : HOk P w H h' := fun a o e =>
  (x a o e).stay (fun b u _ q => k b u q) (fun _ q => q) fun _ _ q => q
theorem HOk.laid (x : HOk P w H h) (k : ∀ b u, h.get? b = some u -> h'.get? b = some u) (hp : h.objs.size <= a) (new : ObjOk P w (upd H a o) h' a o) : HOk P w (upd H a o) h' := fun b u e => by
  have hn := x.fresh hp
  by_cases hb : b = a
  · subst hb; rw [upd_same] at e; cases e; exact new
  · rw [upd_ne hb] at e
    exact (x b u e).stay (fun c v _ q => k c v q) (fun c q => by rw [upd_ne (ne_of_none q hn)]; exact q) fun c xs q => by rw [upd_ne (ne_of_none q hn)]; exact q
end
def Rd (H : Hp) (a : Addr) (u : HO) : Prop := H a = some u \/ ∃ o, H a = some (.frz o u)
theorem Rd.ok {P : Program} {w : World} {H : Hp} {h : Heap} {a : Addr} {u : HO} (r : Rd H a u) (x : HOk P w H h) : ObjOk P w H h a u := by
  rcases r with r | ⟨o, r⟩
  · exact x a u r
  · obtain ⟨_, q⟩ := x a _ r
    exact q
def Mut : Option HO -> Prop
  | some (.lst _) => True
  | some (.dK _) => True
  | some (.dT _) => True
  | some (.set _ _) => True
  | some (.ins _ _ _) => True
  | some (.ext _) => True
  | _ => False
section
variable {P : Program} {w : World} {H : Hp} {h h' : Heap} {x e : Addr} {o' : HO}
theorem HOk.write (ok : HOk P w H h) (mu : Mut (H x)) (he : e = x \/ H e = some (.own x)) (k : ∀ b u, b ≠ e -> h.get? b = some u -> h'.get? b = some u) (heo : ∃ u, h'.get? e = some u)
 (new : ObjOk P w (upd H x o') h' x o') : HOk P w (upd H x o') h' := fun b u q => by
  have nown : ∀ c y, H c = some (.own y) -> c ≠ x := fun c y r z => by subst z; rw [r] at mu; exact mu
  have ntup : ∀ c xs, H c = some (.tup xs) -> c ≠ x := fun c xs r z => by subst z; rw [r] at mu; exact mu
  by_cases hb : b = x
  · subst hb; rw [upd_same] at q; cases q; exact new
  · rw [upd_ne hb] at q
    by_cases hbe : b = e
    · have q' : H b = some (.own x) := by
        rcases he with z | z
        · exact absurd (hbe.trans z) hb
        · rw [hbe]; exact z
      rw [q] at q'; cases q'; obtain ⟨v, hv⟩ := heo; exact ⟨v, by rw [hbe]; exact hv⟩
    · refine (ok b u q).stay (fun c v hc r => k c v ?_ r) (fun c r => by rw [upd_ne (nown c b r)]; exact r) fun c xs r => by rw [upd_ne (ntup c xs r)]; exact r
      rcases hc with rfl | hc
      · exact hbe
      · rintro rfl
        rcases he with z | z
        · exact nown c b hc z
        · rw [hc] at z; cases z; exact hb rfl
end
structure Un (fs ex : List Addr) (H H' : Hp) (h h' : Heap) : Prop where
  keep : ∀ b o, h.get? b = some o -> H b = none -> b ∉ fs -> b ∉ ex -> h'.get? b = some o
  slot : ∀ b o, h.get? b = some o -> H b = none -> b ∈ fs -> b ∉ ex -> ∃ sl, h'.get? b = some { o with slots := sl }
  free : ∀ b o, h.get? b = some o -> H b = none -> b ∉ ex -> H' b = none
  there : ∀ b o, h.get? b = some o -> b ∉ ex -> ∃ o', h'.get? b = some o'
  tups : ∀ b xs, H b = some (.tup xs) -> H' b = some (.tup xs)
  frzs : ∀ b o u, H b = some (.frz o u) -> H' b = some (.frz o u)
  tbls : ∀ b ps, H b = some (.tbl ps) -> ∃ more, H' b = some (.tbl (ps ++ more))
section
variable {fs fs' ex ex' : List Addr} {H H1 H2 : Hp} {h h1 h2 h' : Heap} {a x e : Addr} {o : HO}
theorem Un.any (u : Un fs ex H H1 h h1) {b : Addr} {ob : Obj} (q : h.get? b = some ob) (n : H b = none) (hx : b ∉ ex) : ∃ sl, h1.get? b = some { ob with slots := sl } := by
  by_cases hb : b ∈ fs
  · exact u.slot b ob q n hb hx
  · exact ⟨ob.slots, u.keep b ob q n hb hx⟩
theorem Un.kept (k : ∀ b u, h.get? b = some u -> h'.get? b = some u) : Un fs ex H H h h' :=
  ⟨fun b ob q _ _ _ => k b ob q, fun b ob q _ _ _ => ⟨ob.slots, k b ob q⟩, fun _ _ _ n _ => n, fun b ob q _ => ⟨ob, k b ob q⟩, fun _ _ q => q, fun _ _ _ q => q, fun _ ps q => ⟨#[], by rw [q]; simp⟩⟩
theorem Un.refl : Un fs ex H H h h := Un.kept fun _ _ q => q
theorem Un.laid (k : ∀ b u, h.get? b = some u -> h'.get? b = some u) (hp : h.objs.size <= a) (hn : H a = none) : Un fs ex H (upd H a o) h h' where
  keep := fun b u q _ _ _ => k b u q
  slot := fun b u q _ _ _ => ⟨u.slots, k b u q⟩
  free := fun b u q n _ => by rw [upd_ne (Nat.ne_of_lt (Nat.lt_of_lt_of_le (Heap.lt_size q) hp))]; exact n
  there := fun b u q _ => ⟨u, k b u q⟩
  tups := fun b xs q => by rw [upd_ne (ne_of_none q hn)]; exact q
  frzs := fun b u xs q => by rw [upd_ne (ne_of_none q hn)]; exact q
  tbls := fun b ps q => ⟨#[], by rw [upd_ne (ne_of_none q hn), q]; simp⟩
theorem Un.write (mu : Mut (H x)) (he : e = x \/ H e = some (.own x)) (k : ∀ b u, b ≠ e -> h.get? b = some u -> h'.get? b = some u) (heo : ∃ u, h'.get? e = some u) : Un fs ex H (upd H x o) h h' := by
  have hx : ∀ b, H b = none -> b ≠ x := fun b n z => by subst z; rw [n] at mu; exact mu
  have hb : ∀ b, H b = none -> b ≠ e := fun b n z => by
    subst z
    rcases he with r | r
    · exact hx b n r
    · rw [n] at r; cases r
  have hm : ∀ b u, H b = some u -> ¬ Mut (some u) -> b ≠ x := fun b u q nm z => by subst z; rw [q] at mu; exact nm mu
  refine ⟨fun b u q n _ _ => k b u (hb b n) q, fun b u q n _ _ => ⟨u.slots, k b u (hb b n) q⟩, fun b u q n _ => by rw [upd_ne (hx b n)]; exact n, fun b u q _ => ?_,
    fun b xs q => by rw [upd_ne (hm b _ q fun z => z)]; exact q, fun b u xs q => by rw [upd_ne (hm b _ q fun z => z)]; exact q, fun b ps q => ⟨#[], by rw [upd_ne (hm b _ q fun z => z), q]; simp⟩⟩
  by_cases hbe : b = e
  · subst hbe; exact heo
  · exact ⟨u, k b u hbe q⟩
end
def trk (h : Heap) (H : Hp) : List Addr := (List.range h.objs.size).filter fun a => (H a).isSome
def hidT (h : Heap) (H : Hp) : Heap := PySem.W.hideAll h (trk h H)
theorem hidT_size (h : Heap) (H : Hp) : (hidT h H).objs.size = h.objs.size := PySem.W.hideAll_size _ _
theorem hidT_get {h : Heap} {H : Hp} {b : Addr} {o : Obj} (e : h.get? b = some o) (n : H b = none) : (hidT h H).get? b = some o :=
  PySem.W.hideAll_get _ e fun hm => by
    have q : (H b).isSome = true := (List.mem_filter.mp hm).2; rw [n] at q; simp at q
theorem of_hidT {h : Heap} {H : Hp} {b : Addr} {o : Obj} (e : (hidT h H).get? b = some o) : h.get? b = some o /\ H b = none := by
  have e' : h.get? b = some o := PySem.W.of_hideAll (trk h H) e; refine ⟨e', ?_⟩
  cases q : H b with
  | none => rfl
  | some x =>
    have hm : b ∈ trk h H := List.mem_filter.mpr ⟨List.mem_range.mpr (Heap.lt_size e'), by simp [q]⟩; have z : (hidT h H).get? b = none := PySem.W.hideAll_none (trk h H) hm; rw [z] at e; cases e
def allNews (g h : Heap) (L : Addr) : List (Addr × Obj) := (List.range h.objs.size).filterMap fun a => if a = L \/ (g.get? a).isSome = true then none else (h.get? a).map fun o => (a, o)
def rest (g h : Heap) (L d : Addr) : List (Addr × Obj) := (allNews g h L).filter fun p => decide (p.1 ≠ d)
structure Mod (K : PySem.W.Frag) (mg : Str -> Option Value) (base : Heap) : Prop where
  kin : K.In base
  glob : base.Ns mainGlobals mg
  blt : ∃ mb, base.Ns builtinsNs mb /\ ∀ x : Str, x ≠ "__name__" -> mb x = bootBuiltins x
  nolimit : base.NoLimit
structure Cx where
  prog : Program
  w : World
  K : PySem.W.Frag
  mg : Str -> Option Value
  base : Heap
  A : Around
  N : List Str
  s₀ : Shared
  H₀ : Hp
  env : Env
  outer : List Env
  stack : List Env
  ex : List Addr
  fn : Str -> Bool
  calm : Bool
  pn : List (Addr × Obj)
  xe : Value -> Shared -> Prop
def frs (l : List Env) : List Addr := l.filterMap (·.frame)
abbrev Cx.fs (X : Cx) : List Addr := frs X.outer
def Vis (sc : Scope) (x : Str) : Prop := sc.names.lookup x = some .local \/ sc.names.lookup x = some .cell \/ sc.names.lookup x = some .free
def Loc (sc : Scope) (x : Str) : Prop := sc.names.lookup x = some .local \/ sc.names.lookup x = some .cell
def Look (env : Env) (h : Heap) (m : Str -> Option Value) (x : Str) (u : Value) : Prop :=
  (env.kindOf x = some .local /\ m x = some u) \/ ((env.kindOf x = some .cell \/ env.kindOf x = some .free) /\ ∃ c, env.cells.lookup x = some c /\ h.IsCell c (some u))
structure Cx.Ok (X : Cx) : Prop where
  mod : Mod X.K X.mg X.base
  kind : X.env.scope.kind = .function
  glob : X.env.globals = mainGlobals
  blt : X.env.builtins = builtinsNs
  above : X.s₀.heap.objs.size <= X.env.locals
  inj : ∀ x y c, X.env.cells.lookup x = some c -> X.env.cells.lookup y = some c -> x = y
  has : ∀ x, (X.env.kindOf x = some .cell \/ X.env.kindOf x = some .free) -> ∃ c, X.env.cells.lookup x = some c
  cab : ∀ x c, X.fn x = true -> X.env.cells.lookup x = some c -> X.s₀.heap.objs.size <= c
  hd : X.calm = true -> X.A.handled = none
  frames : X.A.frames = some X.stack
  stk : X.stack = X.outer \/ (X.stack = X.env :: X.outer /\ X.env.frame = some X.env.locals)
  exf : ∀ b ∈ X.ex, b ≠ X.env.locals /\ ∀ x c, X.env.cells.lookup x = some c -> c ≠ b
  bs : ∀ b o, X.base.get? b = some o -> X.s₀.heap.get? b = some o /\ X.H₀ b = none
  bsz : X.base.objs.size <= X.s₀.heap.objs.size
  noex : ∀ b o, X.base.get? b = some o -> b ∉ X.ex
  exfs : ∀ b ∈ X.ex, b ∉ X.fs
  funs : X.s₀.heap.FunFrames X.base X.outer
  frf : ∀ b ∈ X.fs, X.H₀ b = none
structure Inv (X : Cx) (pins : List (Addr × Obj)) (σ : List (Option V)) (H : Hp) (s : Shared) : Prop where
  ok : X.Ok
  os : s.os = X.s₀.os
  bare : AllBare s.gens
  base : Un X.fs X.ex X.H₀ H X.s₀.heap s.heap
  loc : ∃ m, s.heap.Ns X.env.locals m /\ ∀ (i : Nat) (x : Str) (v : V), X.N[i]? = some x -> σ[i]? = some (some v) -> Vis X.env.scope x -> ∃ u, RelV v u /\ Look X.env s.heap m x u
  cell : ∀ x c, X.env.cells.lookup x = some c -> ∃ v, s.heap.IsCell c v
  free : H X.env.locals = none
  freeC : ∀ x c, X.env.cells.lookup x = some c -> H c = none
  pin : ∀ p ∈ X.pn ++ pins, s.heap.get? p.1 = some p.2 /\ H p.1 = none /\ p.1 ≠ X.env.locals /\ p.1 ∉ X.fs /\ ∀ v, p.2.data ≠ .cell v
  hok : HOk X.prog X.w H s.heap
  len : σ.length = X.N.length
section
variable {X : Cx} {pins : List (Addr × Obj)} {σ : List (Option V)} {H H' : Hp} {s : Shared} {h' : Heap}
theorem Cx.Ok.nofr (ok : X.Ok) {b : Addr} {o : Obj} (e : X.base.get? b = some o) : b ∉ X.fs := fun hb => by
  have := (ok.funs.mem hb).1; rw [e] at this; cases this
theorem Inv.bs (I : Inv X pins σ H s) : ∀ b o, X.base.get? b = some o -> s.heap.get? b = some o /\ H b = none := fun b o e =>
  ⟨I.base.keep b o (I.ok.bs b o e).1 (I.ok.bs b o e).2 (I.ok.nofr e) (I.ok.noex b o e), I.base.free b o (I.ok.bs b o e).1 (I.ok.bs b o e).2 (I.ok.noex b o e)⟩
theorem Inv.bk (I : Inv X pins σ H s) : ∀ b o, X.base.get? b = some o -> s.heap.get? b = some o := fun b o e => (I.bs b o e).1
theorem Inv.mod (I : Inv X pins σ H s) : Mod X.K X.mg X.base := I.ok.mod
theorem Inv.kIn (I : Inv X pins σ H s) : X.K.In s.heap := I.ok.mod.kin.keeps I.bk
theorem Inv.lt (I : Inv X pins σ H s) : X.env.locals < s.heap.objs.size := let ⟨_, hn, _⟩ := I.loc; hn.lt
theorem Inv.sz (I : Inv X pins σ H s) : X.s₀.heap.objs.size <= s.heap.objs.size := Nat.le_trans I.ok.above (Nat.le_of_lt I.lt)
theorem Inv.nofs (I : Inv X pins σ H s) {a : Addr} (h : s.heap.objs.size <= a) : a ∉ X.fs := fun hb => by
  obtain ⟨_, o, ho, _⟩ := I.ok.funs.mem hb; exact absurd (Nat.lt_of_lt_of_le (Heap.lt_size ho) (Nat.le_trans I.sz h)) (Nat.lt_irrefl _)
theorem Inv.cne (I : Inv X pins σ H s) : ∀ x c, X.env.cells.lookup x = some c -> c ≠ X.env.locals := fun x c e z => by
  obtain ⟨v, o, ho, hd⟩ := I.cell x c e; obtain ⟨m, ⟨o', es, ep, ho', hd', _⟩, _⟩ := I.loc; rw [z, ho'] at ho; cases ho; rw [hd'] at hd; cases hd
theorem Inv.funs (I : Inv X pins σ H s) : s.heap.FunFrames X.base X.outer := by
  have all : ∀ (l : List Env), (∀ b ∈ frs l, b ∈ X.fs) -> X.s₀.heap.FunFrames X.base l -> s.heap.FunFrames X.base l := by
    intro l
    induction l with
    | nil => intro _ _; trivial
    | cons env r ih =>
      intro hs hl; obtain ⟨hk, ⟨L, o, hf, hn, ho, hd⟩, hr⟩ := hl; have hL : L ∈ X.fs := hs L (by unfold frs; rw [List.filterMap_cons, hf]; exact List.mem_cons_self); obtain ⟨sl, e⟩ := I.base.slot L o ho (I.ok.frf L hL) hL fun z => I.ok.exfs L z hL
      exact ⟨hk, ⟨L, _, hf, hn, e, hd⟩, ih (fun b hb => hs b (by unfold frs; rw [List.filterMap_cons, hf]; exact List.mem_cons_of_mem _ hb)) hr⟩
  exact all X.outer (fun _ hb => hb) I.ok.funs
theorem Inv.stack (I : Inv X pins σ H s) : s.heap.FunFrames X.base X.stack := by
  rcases I.ok.stk with e | ⟨e, hf⟩
  · rw [e]; exact I.funs
  · rw [e]
    obtain ⟨m, hn, _⟩ := I.loc; refine .cons (by rw [I.ok.kind]; decide) hf hn ?_ I.funs; exact Heap.get?_none_of_le (Nat.le_trans I.ok.bsz I.ok.above)
theorem Inv.stkSub (I : Inv X pins σ H s) : ∀ b ∈ frs X.stack, b ∈ X.env.locals :: X.fs := fun b hb => by
  rcases I.ok.stk with e | ⟨e, hf⟩
  · rw [e] at hb; exact List.mem_cons_of_mem _ hb
  · rw [e] at hb
    unfold frs at hb; rw [List.filterMap_cons, hf] at hb; exact hb
theorem Inv.stkFree (I : Inv X pins σ H s) : ∀ b ∈ frs X.stack, H b = none := fun b hb => by
  rcases List.mem_cons.mp (I.stkSub b hb) with e | hb
  · rw [e]; exact I.free
  · obtain ⟨_, o, ho, _⟩ := I.ok.funs.mem hb
    exact I.base.free b o ho (I.ok.frf b hb) fun z => I.ok.exfs b z hb
theorem Inv.step {g' : Array GenState} {t' : Nat} {d' : Drawn} {ch : List Addr} (I : Inv X pins σ H s)
 (hch : ∀ b ∈ ch, (b ∈ X.ex \/ X.s₀.heap.objs.size <= b) /\ b ≠ X.env.locals /\ (∀ x c, X.env.cells.lookup x = some c -> c ≠ b) /\ ∀ p ∈ X.pn ++ pins, p.1 ≠ b)
 (keep : ∀ b o, b ≠ X.env.locals -> b ∉ X.fs -> b ∉ ch -> s.heap.get? b = some o -> H b = none -> h'.get? b = some o)
 (slot : ∀ b o, b ≠ X.env.locals -> b ∈ X.fs -> b ∉ ch -> s.heap.get? b = some o -> H b = none -> ∃ sl, h'.get? b = some { o with slots := sl }) (free : ∀ b o, b ∉ ch -> s.heap.get? b = some o -> H b = none -> H' b = none)
 (there : ∀ b o, b ∉ ch -> s.heap.get? b = some o -> ∃ o', h'.get? b = some o')
 (tups : ∀ b xs, H b = some (.tup xs) -> H' b = some (.tup xs)) (frzs : ∀ b o u, H b = some (.frz o u) -> H' b = some (.frz o u)) (tbls : ∀ b ps, H b = some (.tbl ps) -> ∃ more, H' b = some (.tbl (ps ++ more)))
 (ns : ∀ m, s.heap.Ns X.env.locals m -> h'.Ns X.env.locals m) (hok : HOk X.prog X.w H' h') (hg : AllBare g') :
 Inv X pins σ H' { s with heap := h', gens := g', drawn := d', toks := t' } := by
  have neL : ∀ b o, X.s₀.heap.get? b = some o -> b ≠ X.env.locals := fun b o e => Nat.ne_of_lt (Nat.lt_of_lt_of_le (Heap.lt_size e) I.ok.above)
  have neC : ∀ b o, X.s₀.heap.get? b = some o -> b ∉ X.ex -> b ∉ ch := fun b o e hx hb => by
    rcases (hch b hb).1 with z | z
    · exact hx z
    · exact absurd (Nat.lt_of_lt_of_le (Heap.lt_size e) z) (Nat.lt_irrefl _)
  have cellK : ∀ x c, X.env.cells.lookup x = some c -> ∀ v, s.heap.IsCell c v -> h'.IsCell c v := fun x c e v ⟨o, ho, hd⟩ => by
    have nch : c ∉ ch := fun z => (hch c z).2.2.1 x c e rfl
    by_cases hc : c ∈ X.fs
    · obtain ⟨sl, q⟩ := slot c o (I.cne x c e) hc nch ho (I.freeC x c e)
      exact ⟨_, q, hd⟩
    · exact ⟨o, keep c o (I.cne x c e) hc nch ho (I.freeC x c e), hd⟩
  refine ⟨I.ok, I.os, hg, ⟨fun b o e n hb hx => ?_, fun b o e n hb hx => ?_, fun b o e n hx => ?_, fun b o e hx => ?_, fun b xs e => tups b xs (I.base.tups b xs e), fun b o xs e => frzs b o xs (I.base.frzs b o xs e), fun b ps e => ?_⟩, ?_, fun x c e => ?_, ?_, fun x c e => ?_, fun p hp => ?_, hok, I.len⟩
  · exact keep b o (neL b o e) hb (neC b o e hx) (I.base.keep b o e n hb hx) (I.base.free b o e n hx)
  · obtain ⟨sl, e1⟩ := I.base.slot b o e n hb hx
    obtain ⟨sl', e2⟩ := slot b _ (neL b o e) hb (neC b o e hx) e1 (I.base.free b o e n hx); exact ⟨sl', e2⟩
  · obtain ⟨o', e1⟩ := I.base.there b o e hx
    exact free b o' (neC b o e hx) e1 (I.base.free b o e n hx)
  · obtain ⟨o', e1⟩ := I.base.there b o e hx
    exact there b o' (neC b o e hx) e1
  · obtain ⟨m1, e1⟩ := I.base.tbls b ps e
    obtain ⟨m2, e2⟩ := tbls b _ e1; exact ⟨m1 ++ m2, by rw [e2, Array.append_assoc]⟩
  · obtain ⟨m, hn, hl⟩ := I.loc
    refine ⟨m, ns m hn, fun i x v e1 e2 e3 => ?_⟩; obtain ⟨u, r, l⟩ := hl i x v e1 e2 e3; refine ⟨u, r, ?_⟩
    rcases l with l | ⟨k, c, e, z⟩
    · exact .inl l
    · exact .inr ⟨k, c, e, cellK x c e _ z⟩
  · obtain ⟨v, z⟩ := I.cell x c e
    exact ⟨v, cellK x c e v z⟩
  · obtain ⟨m, ⟨o, _, _, ho, _⟩, _⟩ := I.loc
    exact free _ o (fun z => (hch _ z).2.1 rfl) ho I.free
  · obtain ⟨v, o, ho, hd⟩ := I.cell x c e
    exact free c o (fun z => (hch c z).2.2.1 x c e rfl) ho (I.freeC x c e)
  · obtain ⟨e, n, ne, nf, d⟩ := I.pin p hp
    have nch : p.1 ∉ ch := fun z => (hch p.1 z).2.2.2 p hp rfl
    exact ⟨keep p.1 p.2 ne nf nch e n, free p.1 p.2 nch e n, ne, nf, d⟩
theorem Inv.un {t' : Nat} (I : Inv X pins σ H s) (u : Un X.fs [] H H' s.heap h') (hok : HOk X.prog X.w H' h') : Inv X pins σ H' { s with heap := h', toks := t' } := by
  obtain ⟨m, ⟨o, es, ep, ho, r⟩, _⟩ := id I.loc; obtain ⟨sl, hL⟩ := u.any ho I.free (by simp)
  exact I.step (g' := s.gens) (d' := s.drawn) (ch := []) (fun _ z => nomatch z) (fun b o _ hb _ e n => u.keep b o e n hb (by simp)) (fun b o _ hb _ e n => u.slot b o e n hb (by simp)) (fun b o _ e n => u.free b o e n (by simp)) (fun b o _ e => u.there b o e (by simp)) u.tups u.frzs u.tbls (fun m' hm => by
    obtain ⟨o', es', ep', ho', r'⟩ := hm; rw [ho] at ho'; cases ho'
    exact ⟨_, es', ep', hL, r'⟩) hok I.bare
theorem Inv.call {g' : Array GenState} {t' : Nat} {d' : Drawn} {ch : List Addr} (I : Inv X pins σ H s) (u : Un (frs X.stack) ch H H' s.heap h') (hok : HOk X.prog X.w H' h') (hg : AllBare g')
 (hch : ∀ b ∈ ch, (b ∈ X.ex \/ X.s₀.heap.objs.size <= b) /\ b ≠ X.env.locals /\ (∀ x c, X.env.cells.lookup x = some c -> c ≠ b) /\ ∀ p ∈ X.pn ++ pins, p.1 ≠ b) :
 Inv X pins σ H' { s with heap := h', gens := g', drawn := d', toks := t' } := by
  obtain ⟨m, ⟨o, es, ep, ho, r⟩, _⟩ := id I.loc; obtain ⟨sl, hL⟩ := u.any ho I.free fun z => (hch _ z).2.1 rfl
  exact I.step (ch := ch) hch (fun b o hL hb hc e n => u.keep b o e n (fun z => (List.mem_cons.mp (I.stkSub b z)).elim hL hb) hc) (fun b o _ _ hc e n => u.any e n hc) (fun b o hc e n => u.free b o e n hc) (fun b o hc e => u.there b o e hc) u.tups u.frzs u.tbls (fun m' hm => by
    obtain ⟨o', es', ep', ho', r'⟩ := hm; rw [ho] at ho'; cases ho'
    exact ⟨_, es', ep', hL, r'⟩) hok hg
theorem Inv.turned {t' : Nat} {it : Addr} (I : Inv X pins σ H s) (k : ∀ b o, b ≠ it -> s.heap.get? b = some o -> h'.get? b = some o) (hn : H it = none) (hL : it ≠ X.env.locals)
 (h1 : it ∈ X.ex \/ X.s₀.heap.objs.size <= it) (h2 : ∀ x c, X.env.cells.lookup x = some c -> c ≠ it) (h3 : ∀ p ∈ X.pn ++ pins, p.1 ≠ it) : Inv X pins σ H { s with heap := h', toks := t' } := by
  have nit : ∀ b u, H b = some u -> b ≠ it := fun b u e z => by rw [z, hn] at e; cases e
  refine I.step (g' := s.gens) (d' := s.drawn) (ch := [it]) (fun b hb => ?_) (fun b o _ _ hc e _ => k b o (fun z => hc (by simp [z])) e) (fun b o _ _ hc e _ => ⟨o.slots, k b o (fun z => hc (by simp [z])) e⟩) (fun _ _ _ _ n => n)
    (fun b o hc e => ⟨o, k b o (fun z => hc (by simp [z])) e⟩) (fun _ _ e => e) (fun _ _ _ e => e) (fun b ps e => ⟨#[], by rw [e]; simp⟩) (fun m hm => ?_) (fun b u e => ?_) I.bare
  · have e : b = it := by simpa using hb
    subst e; exact ⟨h1, hL, h2, h3⟩
  · obtain ⟨o, es, ep, ho, r⟩ := hm
    exact ⟨o, es, ep, k _ o (Ne.symm hL) ho, r⟩
  · refine (I.hok b u e).stay (fun c v hc q => k c v ?_ q) (fun _ q => q) fun _ _ q => q
    rcases hc with z | z
    · rw [z]; exact nit b u e
    · exact nit c _ z
theorem Inv.tok (I : Inv X pins σ H s) (t : Nat) : Inv X pins σ H { s with toks := t } := I.un (h' := s.heap) (t' := t) Un.refl I.hok
theorem Inv.kept {t' : Nat} (I : Inv X pins σ H s) (k : ∀ b u, s.heap.get? b = some u -> h'.get? b = some u) : Inv X pins σ H { s with heap := h', toks := t' } := I.un (Un.kept k) (I.hok.kept k)
theorem Inv.laid {a : Addr} {o : HO} {t' : Nat} (I : Inv X pins σ H s) (k : ∀ b u, s.heap.get? b = some u -> h'.get? b = some u) (hp : s.heap.objs.size <= a) (new : ObjOk X.prog X.w (upd H a o) h' a o) :
 Inv X pins σ (upd H a o) { s with heap := h', toks := t' } := I.un (Un.laid k hp (I.hok.fresh hp)) (I.hok.laid k hp new)
theorem Inv.write {x e : Addr} {o : HO} {t' : Nat} (I : Inv X pins σ H s) (mu : Mut (H x)) (he : e = x \/ H e = some (.own x)) (k : ∀ b u, b ≠ e -> s.heap.get? b = some u -> h'.get? b = some u) (heo : ∃ u, h'.get? e = some u)
 (new : ObjOk X.prog X.w (upd H x o) h' x o) : Inv X pins σ (upd H x o) { s with heap := h', toks := t' } := I.un (Un.write mu he k heo) (I.hok.write mu he k heo new)
theorem Inv.pins_of {pins' : List (Addr × Obj)} (I : Inv X pins σ H s) (h : ∀ p ∈ pins', s.heap.get? p.1 = some p.2 /\ H p.1 = none /\ p.1 ≠ X.env.locals /\ p.1 ∉ X.fs /\ ∀ v, p.2.data ≠ .cell v) : Inv X pins' σ H s :=
  ⟨I.ok, I.os, I.bare, I.base, I.loc, I.cell, I.free, I.freeC, fun p hp => (List.mem_append.mp hp).elim (fun z => I.pin p (List.mem_append_left _ z)) (h p), I.hok, I.len⟩
theorem nodup_ix {N : List Str} (hN : N.Nodup) {i j : Nat} {x : Str} (a : N[i]? = some x) (b : N[j]? = some x) : i = j := by
  obtain ⟨h1, e1⟩ := List.getElem?_eq_some_iff.mp a; obtain ⟨h2, e2⟩ := List.getElem?_eq_some_iff.mp b; exact (List.getElem_inj hN).mp (e1.trans e2.symm)
theorem store_ok2 {M : Model} {A : Around} {E : Value -> Shared -> Prop} {i : Nat} {x : Str} {v : V} {u : Value} {Q : Unit -> Shared -> Prop} (I : Inv X pins σ H s) (hN : X.N.Nodup) (hi : X.N[i]? = some x) (hx : Loc X.env.scope x) (r : RelV v u)
 (h : ∀ s', Inv X pins (σ.set i (some v)) H s' -> (∃ a, Heap.SameBut a s.heap s'.heap /\ (a = X.env.locals \/ X.env.cells.lookup x = some a)) -> Q () s') (hf : X.fn x = true \/ X.env.scope.names.lookup x = some .local := by first | exact .inl rfl | exact .inr rfl | assumption) : wpAny M A (storeName X.env x u) Q E s := by
  obtain ⟨m, hn, hl⟩ := id I.loc; have hcls : (X.env.scope.kind == .class || (X.env.scope.kind == .module && X.env.locals != X.env.globals)) = false := by rw [I.ok.kind]; rfl
  have hiσ : i < σ.length := by rw [I.len]; exact (List.getElem?_eq_some_iff.mp hi).1
  have cne := I.cne; have tracked : ∀ {a : Addr} {h' : Heap}, (∃ o, s.heap.get? a = some o /\ H a = none) -> Heap.SameBut a s.heap h' -> HOk X.prog X.w H h' := fun {a h'} ha hs b ob e => by
    obtain ⟨_, _, hfree⟩ := ha; refine (I.hok b ob e).stay (fun c w' hc q => (hs.2 c ?_).trans q) (fun _ q => q) fun _ _ q => q
    rintro rfl
    rcases hc with rfl | hc
    · rw [hfree] at e; cases e
    · rw [hfree] at hc; cases hc
  rcases hx with hk | hk
  · refine wpAny_storeName_local hk hn (fun h' hn' hs => ?_) hcls
    obtain ⟨oL, _, _, hoL, _⟩ := id hn; refine h _ ⟨I.ok, I.os, I.bare, ⟨fun b o e n hb hx => ?_, fun b o e n hb hx => ?_, I.base.free, fun b o e hx => ?_, I.base.tups, I.base.frzs, I.base.tbls⟩, ⟨_, hn', fun j y v' e1 e2 e3 => ?_⟩, fun y c e => ?_, I.free, I.freeC, fun p hp => ?_, tracked ⟨oL, hoL, I.free⟩ hs, by simpa using I.len⟩ ⟨_, hs, .inl rfl⟩
    · exact (hs.2 b (Nat.ne_of_lt (Nat.lt_of_lt_of_le (Heap.lt_size e) I.ok.above))).trans (I.base.keep b o e n hb hx)
    · obtain ⟨sl, e1⟩ := I.base.slot b o e n hb hx
      exact ⟨sl, (hs.2 b (Nat.ne_of_lt (Nat.lt_of_lt_of_le (Heap.lt_size e) I.ok.above))).trans e1⟩
    · obtain ⟨o', e1⟩ := I.base.there b o e hx
      exact ⟨o', (hs.2 b (Nat.ne_of_lt (Nat.lt_of_lt_of_le (Heap.lt_size e) I.ok.above))).trans e1⟩
    · by_cases hj : j = i
      · subst hj
        rw [hi] at e1; cases e1; rw [List.getElem?_set_self hiσ] at e2; cases e2; exact ⟨u, r, .inl ⟨hk, by simp⟩⟩
      · rw [List.getElem?_set_ne (Ne.symm hj)] at e2
        obtain ⟨u', r', q⟩ := hl j y v' e1 e2 e3; refine ⟨u', r', ?_⟩
        rcases q with ⟨k, e⟩ | ⟨k, c, e, z⟩
        · refine .inl ⟨k, ?_⟩
          have : y ≠ x := fun e => hj (nodup_ix hN e1 (e ▸ hi))
          simp [this, e]
        · exact .inr ⟨k, c, e, z.sameBut hs (cne y c e)⟩
    · obtain ⟨w', z⟩ := I.cell y c e
      exact ⟨w', z.sameBut hs (cne y c e)⟩
    · obtain ⟨e, n, ne, nf, d⟩ := I.pin p hp
      exact ⟨(hs.2 p.1 ne).trans e, n, ne, nf, d⟩
  · have hfn : X.fn x = true := by
      rcases hf with z | z
      · exact z
      · rw [z] at hk; cases hk
    obtain ⟨c, hc⟩ := I.ok.has x (.inl hk); obtain ⟨w', z⟩ := I.cell x c hc; refine wpAny_storeName_cell I.ok.kind hk hc z (fun h' hc' hs => ?_); obtain ⟨oc, hoc, hocd⟩ := id z
    refine h { s with heap := h' } ⟨I.ok, I.os, I.bare, ⟨fun b o e n hb hx => ?_, fun b o e n hb hx => ?_, I.base.free, fun b o e hx => ?_, I.base.tups, I.base.frzs, I.base.tbls⟩, ⟨m, hn.sameBut hs (Ne.symm (cne x c hc)), fun j y v' e1 e2 e3 => ?_⟩, fun y c' e => ?_, I.free, I.freeC, fun p hp => ?_, tracked ⟨oc, hoc, I.freeC x c hc⟩ hs, by simpa using I.len⟩ ⟨c, hs, .inr hc⟩
    · exact (hs.2 b (Nat.ne_of_lt (Nat.lt_of_lt_of_le (Heap.lt_size e) (I.ok.cab x c hfn hc)))).trans (I.base.keep b o e n hb hx)
    · obtain ⟨sl, e1⟩ := I.base.slot b o e n hb hx
      exact ⟨sl, (hs.2 b (Nat.ne_of_lt (Nat.lt_of_lt_of_le (Heap.lt_size e) (I.ok.cab x c hfn hc)))).trans e1⟩
    · obtain ⟨o', e1⟩ := I.base.there b o e hx
      exact ⟨o', (hs.2 b (Nat.ne_of_lt (Nat.lt_of_lt_of_le (Heap.lt_size e) (I.ok.cab x c hfn hc)))).trans e1⟩
    · by_cases hj : j = i
      · subst hj
        rw [hi] at e1; cases e1; rw [List.getElem?_set_self hiσ] at e2; cases e2; exact ⟨u, r, .inr ⟨.inl hk, c, hc, hc'⟩⟩
      · rw [List.getElem?_set_ne (Ne.symm hj)] at e2
        obtain ⟨u', r', q⟩ := hl j y v' e1 e2 e3; refine ⟨u', r', ?_⟩
        rcases q with q | ⟨k, c', e, z'⟩
        · exact .inl q
        · refine .inr ⟨k, c', e, z'.sameBut hs ?_⟩
          rintro rfl; exact hj (nodup_ix hN e1 (I.ok.inj _ _ _ e hc ▸ hi))
    · by_cases hcc : c' = c
      · subst hcc; exact ⟨_, hc'⟩
      · obtain ⟨w2, z2⟩ := I.cell y c' e
        exact ⟨w2, z2.sameBut hs hcc⟩
    · obtain ⟨e, n, ne, nf, d⟩ := I.pin p hp
      refine ⟨(hs.2 p.1 ?_).trans e, n, ne, nf, d⟩; intro q; rw [q, hoc] at e; have q' : oc = p.2 := Option.some.inj e; exact d w' (by rw [<- q']; exact hocd)
theorem store_ok {M : Model} {A : Around} {E : Value -> Shared -> Prop} {i : Nat} {x : Str} {v : V} {u : Value} {Q : Unit -> Shared -> Prop} (I : Inv X pins σ H s) (hN : X.N.Nodup) (hi : X.N[i]? = some x) (hx : Loc X.env.scope x) (r : RelV v u)
 (h : ∀ s', Inv X pins (σ.set i (some v)) H s' -> Q () s') (hf : X.fn x = true \/ X.env.scope.names.lookup x = some .local := by first | exact .inl rfl | exact .inr rfl | assumption) : wpAny M A (storeName X.env x u) Q E s :=
  store_ok2 I hN hi hx r (fun s' I' _ => h s' I') hf
end
abbrev XK := Value -> Option Addr -> Hp -> Prop
abbrev St := List (Option V)
abbrev VK := V -> Hp -> Prop
abbrev TE := St -> Hp -> VK -> Prop
abbrev TT := St -> Hp -> (Bool -> Hp -> Prop) -> Prop
abbrev TA := St -> Hp -> (List V -> Hp -> Prop) -> Prop
structure Ends where
  nx : St -> Hp -> Prop
  rt : VK
  bk : St -> Hp -> Prop := fun _ _ => False
  ct : St -> Hp -> Prop := fun _ _ => False
abbrev TS := Ends -> St -> Hp -> Prop
def EP (X : Cx) (pins : List (Addr × Obj)) (σ : St) (Q : VK) (u : Value) (s' : Shared) : Prop := ∃ v H', Inv X pins σ H' s' /\ RelV v u /\ Q v H'
def TP (X : Cx) (pins : List (Addr × Obj)) (σ : St) (Q : Bool -> Hp -> Prop) (b : Bool) (s' : Shared) : Prop := ∃ H', Inv X pins σ H' s' /\ Q b H'
def AP (X : Cx) (pins : List (Addr × Obj)) (σ : St) (Q : List V -> Hp -> Prop) (us : List Value) (s' : Shared) : Prop := ∃ vs H', Inv X pins σ H' s' /\ Vals vs us /\ Q vs H'
def SP (X : Cx) (pins : List (Addr × Obj)) (D : Ends) (f : Flow) (s' : Shared) : Prop :=
  match f with
  | .next => ∃ σ' H', Inv X pins σ' H' s' /\ D.nx σ' H'
  | .brk => ∃ σ' H', Inv X pins σ' H' s' /\ D.bk σ' H'
  | .cont => ∃ σ' H', Inv X pins σ' H' s' /\ D.ct σ' H'
  | .ret u => ∃ v σ' H', Inv X pins σ' H' s' /\ RelV v u /\ D.rt v H'
def PE (X : Cx) (e : Expr) (t : TE) : Prop :=
  ∀ (pins : List (Addr × Obj)) (s : Shared) (σ : St) (H : Hp) (Q : VK), Inv X pins σ H s -> t σ H Q -> wpAny (model X.prog X.w) X.A (eval e X.env) (EP X pins σ Q) X.xe s
def PT (X : Cx) (e : Expr) (t : TT) : Prop :=
  ∀ (pins : List (Addr × Obj)) (s : Shared) (σ : St) (H : Hp) (Q : Bool -> Hp -> Prop), Inv X pins σ H s -> t σ H Q -> wpAny (model X.prog X.w) X.A (isTrue e X.env (eval e X.env)) (TP X pins σ Q) X.xe s
def PW (X : Cx) (e : Expr) (t : TT) : Prop :=
  ∀ (whole : Sem Value) (pins : List (Addr × Obj)) (s : Shared) (σ : St) (H : Hp) (Q : Bool -> Hp -> Prop), Inv X pins σ H s -> t σ H Q -> wpAny (model X.prog X.w) X.A (isTrue e X.env whole) (TP X pins σ Q) X.xe s
theorem PW.pt {X : Cx} {e : Expr} {t : TT} (h : PW X e t) : PT X e t := h _
def PA (X : Cx) (es : List Expr) (t : TA) : Prop :=
  ∀ (pos : Pos) (pins : List (Addr × Obj)) (s : Shared) (σ : St) (H : Hp) (Q : List V -> Hp -> Prop), Inv X pins σ H s -> t σ H Q -> wpAny (model X.prog X.w) X.A (spliced (backTo pos (starEach es X.env))) (AP X pins σ Q) X.xe s
def PS (X : Cx) (st : Stmt) (t : TS) : Prop :=
  ∀ (pins : List (Addr × Obj)) (s : Shared) (σ : St) (H : Hp) (D : Ends), Inv X pins σ H s -> t D σ H -> wpAny (model X.prog X.w) X.A (exec st X.env) (SP X pins D) X.xe s
def PSs (X : Cx) (st : List Stmt) (t : TS) : Prop :=
  ∀ (pins : List (Addr × Obj)) (s : Shared) (σ : St) (H : Hp) (D : Ends), Inv X pins σ H s -> t D σ H -> wpAny (model X.prog X.w) X.A (execs st X.env) (SP X pins D) X.xe s
theorem thn {α : Type} {t : Sem α} {Q Q' : α -> Shared -> Prop} {M : Model} {A : Around} {E : Value -> Shared -> Prop} {s : Shared} (h : wpAny M A t Q E s) (hQ : ∀ a s, Q a s -> Q' a s) : wpAny M A t Q' E s := wpAny_mono h hQ fun _ _ x => x
section
variable {X : Cx}
def tVar (i : Nat) : TE := fun σ H Q => ∃ v, σ[i]? = some (some v) /\ Q v H
def tC (v : V) : TE := fun _ H Q => Q v H
theorem pe_var {i : Nat} {x : Str} {pos : Pos} (hN : X.N[i]? = some x) (hv : Vis X.env.scope x) (hd : (x == ("__debug__" : Str)) = false := by decide) (hcd : (x == ("__classdict__" : Str)) = false := by decide) : PE X (.Name x pos) (tVar i) := by
  intro pins s σ H Q I h; obtain ⟨v, e, h⟩ := h; obtain ⟨m, hn, hl⟩ := I.loc; obtain ⟨u, r, l⟩ := hl i x v hN e hv; have fin : EP X pins σ Q u s := ⟨v, H, I, r, h⟩
  rcases l with ⟨hk, hm⟩ | ⟨hk, c, hc, hcell⟩
  · exact wpAny_Name (wpAny_loadName_local I.ok.kind hk hn hm fin) hd
  · rcases hk with hk | hk
    · exact wpAny_Name (wpAny_loadName_cell I.ok.kind hk hc hcell fin) hd
    · exact wpAny_Name (wpAny_loadName_free I.ok.kind hk hc hcell fin hcd) hd
theorem pe_int {i j pos} : PE X (.Constant (.int i) j pos) (tC (.int i)) := fun _ _ _ H _ I h => wpAny_Constant_int ⟨.int i, H, I.tok _, ⟨_, rfl⟩, h⟩
theorem pe_bl {b j pos} : PE X (.Constant (.bool b) j pos) (tC (.bl b)) := fun _ _ _ H _ I h => Constant_bool ⟨.bl b, H, I, rfl, h⟩
theorem pe_str {x j pos} : PE X (.Constant (.str x) j pos) (tC (.str x)) := fun _ _ _ H _ I h => Calls.Constant_str ⟨.str x, H, I.tok _, ⟨_, rfl⟩, h⟩
def Gl (X : Cx) (x : Str) : Prop := X.env.kindOf x = some .globalImplicit
theorem ld_glob {E : Value -> Shared -> Prop} {pins : List (Addr × Obj)} {s : Shared} {σ : St} {H : Hp} {x : Str} {u : Value} {pos : Pos} {Q : Value -> Shared -> Prop} (I : Inv X pins σ H s) (hg : Gl X x) (hm : X.mg x = some u) (h : Q u s)
 (hd : (x == ("__debug__" : Str)) = false := by decide) : wpAny (model X.prog X.w) X.A (eval (.Name x pos) X.env) Q E s :=
  Calls.Name_function_global I.ok.kind hg (Calls.loadGlobal_global (by rw [I.ok.glob]; exact I.mod.glob.keeps I.bk) hm h) hd
theorem ld_blt {E : Value -> Shared -> Prop} {pins : List (Addr × Obj)} {s : Shared} {σ : St} {H : Hp} {x : Str} {u : Value} {pos : Pos} {Q : Value -> Shared -> Prop} (I : Inv X pins σ H s) (hg : Gl X x) (hm : X.mg x = none) (hv : bootBuiltins x = some u) (h : Q u s)
 (hn : x ≠ "__name__" := by decide) (hd : (x == ("__debug__" : Str)) = false := by decide) : wpAny (model X.prog X.w) X.A (eval (.Name x pos) X.env) Q E s := by
  obtain ⟨mb, h1, h2⟩ := I.mod.blt; exact Calls.Name_function_global I.ok.kind hg (Calls.loadGlobal_builtin (by rw [I.ok.glob]; exact I.mod.glob.keeps I.bk) hm (by rw [I.ok.blt]; exact h1.keeps I.bk) ((h2 x hn).trans hv) h) hd
theorem pe_bltn {x : Str} {v : V} {u : Value} {pos : Pos} (hg : Gl X x) (hm : X.mg x = none) (hv : bootBuiltins x = some u) (r : RelV v u) (hn : x ≠ "__name__" := by decide) (hd : (x == ("__debug__" : Str)) = false := by decide) : PE X (.Name x pos) (tC v) :=
  fun _ _ _ H _ I h => ld_blt I hg hm hv ⟨v, H, I, r, h⟩ hn hd
variable {a b : Expr} {ta tb : TE} {pos : Pos}
def tB (t : TE) : TT := fun σ H Q => t σ H fun x H1 => ∃ c, x = .bl c /\ Q c H1
theorem pt_val {e : Expr} {t : TE} (h : PE X e t) (he : ∀ whole, isTrue e X.env whole = (do let v <- whole; standAt e.pos; holding [v] (truthy v)) := by intro _; rfl) : PT X e (tB t) := by
  intro pins s σ H Q I hw; refine isTrue_plain (thn (h pins s σ H _ I hw) fun v s1 ⟨x, H1, I1, r1, q1⟩ => ?_) (he _); obtain ⟨d, rfl, q⟩ := q1; cases r1; exact wpAny_truthy_bool ⟨H1, I1, q⟩
variable {tA tB' : TT} {rest : List Expr}
def tOr (t u : TT) : TT := fun σ H Q => t σ H fun c H1 => if c = true then Q true H1 else u σ H1 Q
def tNot (t : TT) : TT := fun σ H Q => t σ H fun c H1 => Q (!c) H1
theorem pw_or1 (ha : PT X a tA) : PW X (.BoolOp .Or [a] pos) tA := by
  intro wh pins s σ H Q I h; refine isTrue_or (thn (ha pins s σ H Q I h) fun c s1 e => ?_)
  cases c with
  | false => exact isTrue_or_nil e
  | true => exact e
theorem pw_or (ha : PT X a tA) (hb : PW X (.BoolOp .Or (b :: rest) pos) tB') : PW X (.BoolOp .Or (a :: b :: rest) pos) (tOr tA tB') := by
  intro wh pins s σ H Q I h; refine isTrue_or (thn (ha pins s σ H _ I h) fun c s1 ⟨H1, I1, q1⟩ => ?_)
  cases c with
  | true => exact ⟨H1, I1, q1⟩
  | false => exact hb wh pins s1 σ H1 Q I1 q1
theorem pt_not (ha : PT X a tA) : PT X (.UnaryOp .Not a pos) (tNot tA) := by
  intro pins s σ H Q I h; exact isTrue_not (ha pins s σ H (fun c H1 => Q (!c) H1) I h)
def tAndV (ta tb : TE) : TE := fun σ H Q => ta σ H fun x H1 => ∃ c, x = .bl c /\ if c = true then tb σ H1 Q else Q (.bl false) H1
def tNotV (ta : TE) : TE := fun σ H Q => ta σ H fun x H1 => ∃ c, x = .bl c /\ Q (.bl (!c)) H1
theorem pe_one {op} {t : TE} (h : PE X a t) : PE X (.BoolOp op [a] pos) t := fun pins s σ H Q I hw => BoolOp_one (h pins s σ H Q I hw)
theorem pe_and (ha : PE X a ta) (hb : PE X (.BoolOp .And (b :: rest) pos) tb) : PE X (.BoolOp .And (a :: b :: rest) pos) (tAndV ta tb) := by
  intro pins s σ H Q I h; refine BoolOp_and (thn (ha pins s σ H _ I h) fun v s1 ⟨x, H1, I1, r1, q1⟩ => ?_); obtain ⟨c, rfl, q1⟩ := q1; cases r1; refine wpAny_truthy_bool ?_
  cases c with
  | true => exact hb pins s1 σ H1 Q I1 q1
  | false => exact ⟨.bl false, H1, I1, rfl, q1⟩
theorem pe_not (ha : PE X a ta) : PE X (.UnaryOp .Not a pos) (tNotV ta) := by
  intro pins s σ H Q I h; refine UnaryOp_ (thn (ha pins s σ H _ I h) fun v s1 ⟨x, H1, I1, r1, q1⟩ => ?_); obtain ⟨c, rfl, q1⟩ := q1; cases r1; exact not_of (wpAny_truthy_bool ⟨.bl (!c), H1, I1, rfl, q1⟩)
end
def SqL (K : PySem.W.Frag) (H : Hp) (a : Addr) (xs : List V) : Prop :=
  Rd H a (.lst xs) \/
    ∃ (o : Obj) (its : Array Value) (n : Nat), K.lookup a = some o /\ o.cls = .type "list" /\ o.dict = none /\ o.data = .seq its n /\ its.size <= sizeLine /\ Vals xs its.toList
def SqT (K : PySem.W.Frag) (H : Hp) (a : Addr) (xs : List V) : Prop :=
  Rd H a (.tup xs) \/
    ∃ (o : Obj) (its : Array Value) (n : Nat), K.lookup a = some o /\ o.cls = .type "tuple" /\ o.data = .seq its n /\ its.size <= sizeLine /\ Vals xs its.toList
def absV : Value -> Option V
  | .none => some .non
  | .bool b => some (.bl b)
  | .int i _ => some (.int i)
  | .str x _ => some (.str x)
  | .bytes b _ => some (.byt b)
  | .float b _ => some (.flt b)
  | .ref a => some (.ref a)
  | .type n => some (.ty n)
  | _ => none
theorem RelV.abs {x : V} {u : Value} (r : RelV x u) : absV u = some x := by
  cases x with
  | non => cases r; rfl
  | bl _ => cases r; rfl
  | int _ => obtain ⟨t, rfl⟩ := r; rfl
  | str _ => obtain ⟨t, rfl⟩ := r; rfl
  | byt _ => obtain ⟨t, rfl⟩ := r; rfl
  | flt _ => obtain ⟨t, rfl⟩ := r; rfl
  | ref _ => cases r; rfl
  | ty _ => cases r; rfl
theorem RelV.inj {x y : V} {u : Value} (r : RelV x u) (q : RelV y u) : x = y := Option.some.inj (r.abs.symm.trans q.abs)
theorem Vals.inj : ∀ {xs ys : List V} {us : List Value}, Vals xs us -> Vals ys us -> xs = ys
  | _, _, _, .nil, .nil => rfl
  | _, _, _, .cons r t, .cons r' t' => by rw [r.inj r', Vals.inj t t']
section
variable {X : Cx} {pins : List (Addr × Obj)} {σ : St} {H : Hp} {s : Shared} {a : Addr} {xs ys : List V}
theorem SqL.of {K : PySem.W.Frag} (h : H a = some (.lst xs)) : SqL K H a xs := .inl (.inl h)
theorem SqT.of {K : PySem.W.Frag} (h : H a = some (.tup xs)) : SqT K H a xs := .inl (.inl h)
theorem Inv.list (I : Inv X pins σ H s) (h : SqL X.K H a xs) : ∃ its : List Value, Vals xs its /\ PlainL s.heap a its.toArray /\ xs.length <= sizeLine := by
  rcases h with h | ⟨o, its, n, hk, hc, hd, hs, hz, r⟩
  · obtain ⟨z, its, n, r, e⟩ := h.ok I.hok
    exact ⟨its, r, ⟨_, n, e, rfl, rfl, rfl⟩, z⟩
  · refine ⟨its.toList, r, ⟨o, n, I.kIn a o hk, hc, hd, by simpa using hs⟩, ?_⟩
    have e := r.length; simp only [Array.length_toList] at e; omega
theorem Inv.tuple (I : Inv X pins σ H s) (h : SqT X.K H a xs) : ∃ its : List Value, Vals xs its /\ IsTup s.heap a its.toArray /\ xs.length <= sizeLine := by
  rcases h with h | ⟨o, its, n, hk, hc, hs, hz, r⟩
  · obtain ⟨z, its, r, p⟩ := h.ok I.hok
    exact ⟨its, r, p, z⟩
  · refine ⟨its.toList, r, ⟨o, I.kIn a o hk, hc, n, by simpa using hs⟩, ?_⟩
    have e := r.length; simp only [Array.length_toList] at e; omega
theorem Inv.list_inj (I : Inv X pins σ H s) (h : SqL X.K H a xs) (h' : SqL X.K H a ys) : xs = ys := by
  obtain ⟨its, r, ⟨o, n, e, _, _, d⟩, _⟩ := I.list h; obtain ⟨its', r', ⟨o', n', e', _, _, d'⟩, _⟩ := I.list h'; rw [e] at e'; cases e'; rw [d] at d'
  injection d' with d1 _
  have : its = its' := by simpa using congrArg Array.toList d1
  subst this; exact r.inj r'
theorem Inv.tuple_inj (I : Inv X pins σ H s) (h : SqT X.K H a xs) (h' : SqT X.K H a ys) : xs = ys := by
  obtain ⟨its, r, ⟨o, e, _, n, d⟩, _⟩ := I.tuple h; obtain ⟨its', r', ⟨o', e', _, n', d'⟩, _⟩ := I.tuple h'; rw [e] at e'; cases e'; rw [d] at d'
  injection d' with d1 _
  have : its = its' := by simpa using congrArg Array.toList d1
  subst this; exact r.inj r'
end
abbrev Cx.wish (X : Cx) (E : Value -> Shared -> Prop) : Cx := { X with xe := E }
abbrev Cx.nox (X : Cx) : Cx := X.wish fun _ _ => False
theorem Cx.Ok.wish {X : Cx} (ok : X.Ok) (E : Value -> Shared -> Prop) : (X.wish E).Ok :=
  ⟨ok.mod, ok.kind, ok.glob, ok.blt, ok.above, ok.inj, ok.has, ok.cab, ok.hd, ok.frames, ok.stk, ok.exf, ok.bs, ok.bsz, ok.noex, ok.exfs, ok.funs, ok.frf⟩
theorem Cx.Ok.unwish {X : Cx} {E : Value -> Shared -> Prop} (ok : (X.wish E).Ok) : X.Ok :=
  ⟨ok.mod, ok.kind, ok.glob, ok.blt, ok.above, ok.inj, ok.has, ok.cab, ok.hd, ok.frames, ok.stk, ok.exf, ok.bs, ok.bsz, ok.noex, ok.exfs, ok.funs, ok.frf⟩
section
variable {X : Cx} {pins : List (Addr × Obj)} {σ : St} {H : Hp} {s : Shared} {E : Value -> Shared -> Prop}
theorem Inv.wish (I : Inv X pins σ H s) (E : Value -> Shared -> Prop) : Inv (X.wish E) pins σ H s := ⟨I.ok.wish E, I.os, I.bare, I.base, I.loc, I.cell, I.free, I.freeC, I.pin, I.hok, I.len⟩
theorem Inv.unwish (I : Inv (X.wish E) pins σ H s) : Inv X pins σ H s := ⟨I.ok.unwish, I.os, I.bare, I.base, I.loc, I.cell, I.free, I.freeC, I.pin, I.hok, I.len⟩
theorem SP.unwish {D : Ends} {f : Flow} {s' : Shared} (h : SP (X.wish E) pins D f s') : SP X pins D f s' := by
  cases f with
  | next => obtain ⟨σ', H', I, q⟩ := h; exact ⟨σ', H', I.unwish, q⟩
  | brk => obtain ⟨σ', H', I, q⟩ := h; exact ⟨σ', H', I.unwish, q⟩
  | cont => obtain ⟨σ', H', I, q⟩ := h; exact ⟨σ', H', I.unwish, q⟩
  | ret u => obtain ⟨v, σ', H', I, r, q⟩ := h; exact ⟨v, σ', H', I.unwish, r, q⟩
theorem PSs.nox {st : List Stmt} {t : TS} (h : PSs X.nox st t) : PSs X st t := fun pins s σ H D I hw =>
  wpAny_mono (h pins s σ H D (I.wish _) hw) (fun _ _ q => q.unwish) fun _ _ z => False.elim z
end
section
variable {X : Cx} {st : Stmt} {rest : List Stmt} {t u : TS} {e : Expr} {te : TE} {pos : Pos}
def tNext : TS := fun D σ H => D.nx σ H
def tSeq (t u : TS) : TS := fun D σ H => t { D with nx := u D } σ H
theorem pss_nil : PSs X [] tNext := fun _ _ σ H _ I h => wpAny_execs_nil ⟨σ, H, I, h⟩
theorem pss_cons (h1 : PS X st t) (h2 : PSs X rest u) : PSs X (st :: rest) (tSeq t u) := by
  intro pins s σ H D I h
  refine wpAny_execs_cons (thn (h1 pins s σ H { D with nx := u D } I h) fun f s1 q => ?_)
  cases f with
  | next =>
    obtain ⟨σ', H', I', q⟩ := q; exact h2 pins s1 σ' H' D I' q
  | ret v => exact q
  | brk => exact q
  | cont => exact q
theorem pss_one (h1 : PS X st t) : PSs X [st] t := by
  intro pins s σ H D I h; refine wpAny_execs_cons (thn (h1 pins s σ H D I h) fun f s1 q => ?_)
  cases f with
  | next => exact wpAny_execs_nil q
  | ret v => exact q
  | brk => exact q
  | cont => exact q
theorem Inv.quiet {pins : List (Addr × Obj)} {σ : St} {H : Hp} {s : Shared} (I : Inv X pins σ H s) : interactive X.env = false := by simp [interactive, I.ok.kind]
def tDrop (te : TE) : TS := fun D σ H => te σ H fun _ H1 => D.nx σ H1
theorem ps_expr (he : PE X e te) (hs : swapsWith e none pos.line X.env = pure false := by rfl) : PS X (.Expr e pos) (tDrop te) := by
  intro pins s σ H D I h; exact wpAny_Expr_any (thn (he pins s σ H _ I h) fun v s1 ⟨x, H1, I1, r1, q1⟩ => ⟨σ, H1, I1, q1⟩) I.quiet hs
def tRet (te : TE) : TS := fun D σ H => te σ H D.rt
theorem ps_ret (he : PE X e te) : PS X (.Return (some e) pos) (tRet te) := by
  intro pins s σ H D I h; exact wpAny_Return_some (thn (he pins s σ H _ I h) fun v s1 ⟨x, H1, I1, r1, q1⟩ => ⟨x, σ, H1, I1, r1, q1⟩)
def tIfS (c : TT) (t u : TS) : TS := fun D σ H => c σ H fun b H1 => if b = true then t D σ H1 else u D σ H1
theorem ps_if {c : Expr} {a b : List Stmt} {tc : TT} (hc : PT X c tc) (ha : PSs X a t) (hb : PSs X b u) : PS X (.If c a b pos) (tIfS tc t u) := by
  intro pins s σ H D I h; refine wpAny_If (thn (hc pins s σ H _ I h) fun d s1 ⟨H1, I1, q1⟩ => ?_)
  cases d with
  | true => exact ha pins s1 σ H1 D I1 q1
  | false => exact hb pins s1 σ H1 D I1 q1
end
abbrev TG := V -> St -> Hp -> (St -> Hp -> Prop) -> Prop
abbrev TGs := List V -> St -> Hp -> (St -> Hp -> Prop) -> Prop
def PG (X : Cx) (target : Expr) (t : TG) : Prop :=
  ∀ (pins : List (Addr × Obj)) (s : Shared) (σ : St) (H : Hp) (v : V) (u : Value) (Q : St -> Hp -> Prop), Inv X pins σ H s -> RelV v u -> t v σ H Q ->
    wpAny (model X.prog X.w) X.A (assign target X.env u) (fun _ s' => ∃ σ' H', Inv X pins σ' H' s' /\ Q σ' H') X.xe s
def PGs (X : Cx) (ts : List Expr) (t : TGs) : Prop :=
  ∀ (pins : List (Addr × Obj)) (s : Shared) (σ : St) (H : Hp) (vs : List V) (us : List Value) (Q : St -> Hp -> Prop), Inv X pins σ H s -> Vals vs us -> t vs σ H Q ->
    wpAny (model X.prog X.w) X.A (assignInOrder ((assignEach ts X.env).map (·.2)) us) (fun _ s' => ∃ σ' H', Inv X pins σ' H' s' /\ Q σ' H') X.xe s
section
variable {X : Cx} {pos : Pos}
def gName (i : Nat) : TG := fun v σ H Q => Q (σ.set i (some v)) H
theorem pg_name {i : Nat} {x : Str} (hN : X.N.Nodup) (hi : X.N[i]? = some x) (hx : Loc X.env.scope x) (hf : X.fn x = true \/ X.env.scope.names.lookup x = some .local := by first | exact .inl rfl | exact .inr rfl | assumption) : PG X (.Name x pos) (gName i) := by
  intro pins s σ H v u Q I r h; exact wpAny_assign_Name (store_ok I hN hi hx r (fun s' I' => ⟨_, H, I', h⟩) hf)
def gNil : TGs := fun vs σ H Q => vs = [] /\ Q σ H
def gCons (t : TG) (u : TGs) : TGs := fun vs σ H Q => ∃ v r, vs = v :: r /\ t v σ H fun σ' H' => u r σ' H' Q
theorem pgs_nil : PGs X [] gNil := by
  intro pins s σ H vs us Q I r h; obtain ⟨e, h⟩ := h; subst e; cases r; exact assignInOrder_nil ⟨σ, H, I, h⟩
theorem pgs_cons {e : Expr} {es : List Expr} {t : TG} {u : TGs} (h1 : PG X e t) (h2 : PGs X es u)
 (hs : (assignEach (e :: es) X.env).map (·.2) = assign e X.env :: (assignEach es X.env).map (·.2) := by rfl) : PGs X (e :: es) (gCons t u) := by
  intro pins s σ H vs us Q I r h; obtain ⟨v, vr, e1, h⟩ := h; subst e1
  cases r with
  | cons r rr =>
    rw [hs]; refine assignInOrder_cons (thn (h1 pins s σ H _ _ _ I r h) fun _ s1 ⟨σ1, H1, I1, q1⟩ => ?_); exact h2 pins s1 σ1 H1 _ _ Q I1 rr q1
def gTup (K : PySem.W.Frag) (n : Nat) (t : TGs) : TG := fun v σ H Q => ∃ a xs, v = .ref a /\ SqT K H a xs /\ xs.length = n /\ t xs σ H Q
theorem pg_tup {es : List Expr} {k : Nat} {t : TGs} {n : Nat} (hc : X.calm = true) (h : PGs X es t)
 (hn : (assignEach es X.env).length = n := by rfl) (hst : (assignEach es X.env).findIdx? (·.1) = none := by rfl) : PG X (.Tuple es k pos) (gTup X.K n t) := by
  intro pins s σ H v u Q I r hw; obtain ⟨a, xs, e1, hq, hl, hw⟩ := hw; subst e1; cases r; obtain ⟨its, rv, ht, hz⟩ := I.tuple hq; refine assign_Tuple_tuple (I.ok.hd hc) ht (by simp [hn, <- hl, rv.length]) hst fun h' hx => ?_
  have I1 : Inv X pins σ H { s with heap := h' } := I.kept (t' := s.toks) fun b o e => hx b o (Nat.ne_of_lt (Heap.lt_size e)) e
  exact h pins _ σ H xs _ Q I1 (by simpa using rv) hw
def tAsg (te : TE) (g : TG) : TS := fun D σ H => te σ H fun x H1 => g x σ H1 D.nx
theorem ps_asg {tg e : Expr} {te : TE} {g : TG} (he : PE X e te) (hg : PG X tg g) (hs : swapsWithSole [tg] e pos.line X.env = pure false := by rfl) (hw : swappedStores [tg] e X.env = pure none := by rfl)
 (h1 : (assignEach [tg] X.env).map (·.2) = [assign tg X.env] := by rfl) : PS X (.Assign [tg] e pos) (tAsg te g) := by
  intro pins s σ H D I h; refine wpAny_Assign_stores (thn (he pins s σ H _ I h) fun v s1 ⟨x, H1, I1, r1, q1⟩ => ?_) hs hw; rw [h1]; exact thn (hg pins s1 σ H1 x v _ I1 r1 q1) fun _ s2 q => q
theorem ps_set {i : Nat} {x : Str} {e : Expr} {te : TE} {pos' : Pos} (hN : X.N.Nodup) (hi : X.N[i]? = some x) (hx : Loc X.env.scope x) (he : PE X e te) (hs : swapsWith e (some (.Name x pos')) pos.line X.env = pure false := by rfl) (hf : X.fn x = true \/ X.env.scope.names.lookup x = some .local := by first | exact .inl rfl | exact .inr rfl | assumption) :
 PS X (.Assign [.Name x pos'] e pos) (tAsg te (gName i)) := by
  intro pins s σ H D I h; refine wpAny_Assign_Name (thn (he pins s σ H _ I h) fun v s1 ⟨y, H1, I1, r1, q1⟩ => ?_) hs; exact store_ok I1 hN hi hx r1 (fun s2 I2 => ⟨_, H1, I2, q1⟩) hf
end
section
variable {X : Cx} {pos : Pos}
end
structure It where
  go : Nat -> Hp -> Prop
  yld : Nat -> Hp -> V -> Hp -> Prop
  stop : Nat -> Hp -> Prop
def FpOk (X : Cx) (pins : List (Addr × Obj)) (H : Hp) (b : Addr) : Prop :=
  H b = none /\ b ≠ X.env.locals /\ b ∉ X.fs /\ (b ∈ X.ex \/ X.s₀.heap.objs.size <= b) /\ (∀ x c, X.env.cells.lookup x = some c -> c ≠ b) /\ ∀ p ∈ X.pn ++ pins, p.1 ≠ b
theorem Inv.fpOk {X : Cx} {pins : List (Addr × Obj)} {σ : St} {H H' : Hp} {s : Shared} {b : Addr} (I : Inv X pins σ H s) (hb : s.heap.objs.size <= b) (hn : H' b = none) : FpOk X pins H' b := by
  refine ⟨hn, Nat.ne_of_gt (Nat.lt_of_lt_of_le I.lt hb), I.nofs hb, .inr (Nat.le_trans I.sz hb), fun x c e z => ?_, fun p hp z => ?_⟩
  · obtain ⟨v, q⟩ := I.cell x c e
    exact absurd (Nat.lt_of_lt_of_le q.lt (by rw [z]; exact hb)) (Nat.lt_irrefl _)
  · exact absurd (Nat.lt_of_lt_of_le (Heap.lt_size (I.pin p hp).1) (by rw [z]; exact hb)) (Nat.lt_irrefl _)
structure Turn (P : Program) (w : World) (K : PySem.W.Frag) (tg : Expr) (J : It) (fp : List Addr) (it : Addr) (tn : Nat -> Heap -> Prop) : Prop where
  mem : it ∈ fp
  obj : ∀ i h, tn i h -> ∀ b ∈ fp, ∃ o, h.get? b = some o /\ ∀ v, o.data ≠ .cell v
  keep : ∀ i h h', tn i h -> (∀ b ∈ fp, ∀ o, h.get? b = some o -> h'.get? b = some o) -> tn i h'
  item : ∀ (X : Cx), X.prog = P -> X.w = w -> X.K = K -> X.calm = true -> ∀ (i : Nat) (pins : List (Addr × Obj)) (s : Shared) (σ : St) (H : Hp) (E : Value -> Shared -> Prop), Inv X pins σ H s -> (∀ b ∈ fp, FpOk X pins H b) -> tn i s.heap -> J.go i H ->
    wpAny (model P w) X.A (pyNext (.ref it)) (fun r s1 => ∃ u, r = some u /\
      wpAny (model P w) X.A (letOwnedTupleGo tg (.ref it) u) (fun _ s2 => ∃ x H', Inv X pins σ H' s2 /\ RelV x u /\ J.yld i H x H' /\ tn (i + 1) s2.heap /\ ∀ b ∈ fp, H' b = none) E s1) E s
  done : ∀ (X : Cx), X.prog = P -> X.w = w -> X.K = K -> X.calm = true -> ∀ (i : Nat) (pins : List (Addr × Obj)) (s : Shared) (σ : St) (H : Hp) (E : Value -> Shared -> Prop), Inv X pins σ H s -> (∀ b ∈ fp, FpOk X pins H b) -> tn i s.heap -> J.stop i H ->
    wpAny (model P w) X.A (pyNext (.ref it)) (fun r s1 => r = none /\ Inv X pins σ H s1) E s
  self : ∀ (A : Around) (i : Nat) (s : Shared) (Q : Value -> Shared -> Prop) (E : Value -> Shared -> Prop), tn i s.heap -> Q (.ref it) s -> wpAny (model P w) A (pyIter (.ref it)) Q E s
abbrev TI := St -> Hp -> (It -> Hp -> Prop) -> Prop
def PIE (X : Cx) (pins : List (Addr × Obj)) (σ : St) (tg : Expr) (R : It -> Hp -> Prop) (itv : Value) (s2 : Shared) : Prop :=
  ∃ (it : Addr) (fp : List Addr) (tn : Nat -> Heap -> Prop) (J : It) (H' : Hp), itv = .ref it /\ Inv X pins σ H' s2 /\ Turn X.prog X.w X.K tg J fp it tn /\ tn 0 s2.heap /\ (∀ b ∈ fp, FpOk X pins H' b) /\ R J H'
def PI (X : Cx) (tg iter : Expr) (wi : TI) : Prop :=
  ∀ (pins : List (Addr × Obj)) (s : Shared) (σ : St) (H : Hp) (R : It -> Hp -> Prop), Inv X pins σ H s -> wi σ H R ->
    wpAny (model X.prog X.w) X.A (eval iter X.env) (fun v s1 => wpAny (model X.prog X.w) X.A (pyIter v) (PIE X pins σ tg R) X.xe s1) X.xe s
theorem go_of {M : Model} {A : Around} {E : Value -> Shared -> Prop} {s : Shared} {tg : Expr} {it : Addr} {u : Value} {o : Obj} {n : String} {vs : Array Value} {Q : Unit -> Shared -> Prop} (ho : s.heap.get? it = some o) (hc : o.cls = .type n) (hd : o.data = .fields vs)
 (hn : ["enumerate", "zip", "dict_itemiterator", "dict_reverseitemiterator", "odict_iterator", "itertools.zip_longest", "itertools.pairwise"].contains n = false) (hQ : Q () s) : wpAny M A (letOwnedTupleGo tg (.ref it) u) Q E s := by
  unfold letOwnedTupleGo
  cases tg <;> first
    | exact wpAny_pure hQ
    | (cases u <;> first
        | exact wpAny_pure hQ
        | (refine wpAny_bind (wpAny_load ho ?_)
           rw [hc, hd]
           show wpAny M A (if (["enumerate", "zip", "dict_itemiterator", "dict_reverseitemiterator", "odict_iterator", "itertools.zip_longest", "itertools.pairwise"].contains n && vs[0]? == some (rawInt _)) = true then _ else _) Q E s
           rw [if_neg (by intro h; rw [hn, Bool.false_and] at h; cases h)]
           exact wpAny_pure hQ))
def Itt (K : PySem.W.Frag) (a : Addr) : It :=
  ⟨fun i H => ∃ xs x, SqT K H a xs /\ xs[i]? = some x, fun i H x H' => H' = H /\ ∀ xs, SqT K H a xs -> xs[i]? = some x, fun i H => ∃ xs, SqT K H a xs /\ xs.length <= i⟩
def Itr (lo : Int) (n : Nat) : It := ⟨fun i _ => i < n, fun i H x H' => H' = H /\ x = .int (lo + i), fun i _ => n <= i⟩
theorem turn_tuple {P : Program} {w : World} {K : PySem.W.Frag} {tg : Expr} (a it : Addr) : Turn P w K tg (Itt K a) [it] it (fun i h => h.IsTupleIter it a i) where
  mem := by simp
  obj := fun i h st b hb => by
    have e : b = it := by simpa using hb
    subst e; obtain ⟨o, e, c, d⟩ := st; exact ⟨o, e, fun v z => by rw [d] at z; cases z⟩
  keep := fun i h h' st k => st.at fun o e => k it (by simp) o e
  item := by
    intro X hP hw hK hc i pins s σ H E I hf st hg; subst hP hw hK; obtain ⟨xs, x, hq, hx⟩ := hg; obtain ⟨its, rv, p, hz⟩ := I.tuple hq; obtain ⟨u, hu, ru⟩ := rv.get hx; obtain ⟨f0, f1, f2, f3, f4, f5⟩ := hf it (by simp); refine wpAny_pyNext_tuple_item st (show s.heap.IsTuple a its.toArray from p) (x := u) (by simpa using hu) fun h' st' sb => ?_
    have I1 : Inv X pins σ H { s with heap := h' } := I.turned (t' := s.toks) (fun b o hb e => (sb.2 b hb).trans e) f0 f1 f3 f4 f5; obtain ⟨o, e, c, d⟩ := id st'
    exact ⟨u, rfl, go_of (s := { s with heap := h' }) e c d (by decide) ⟨x, H, I1, ru, ⟨rfl, fun ys hy => by rw [I.tuple_inj hy hq]; exact hx⟩, st', fun b hb => (hf b hb).1⟩⟩
  done := by
    intro X hP hw hK hc i pins s σ H E I hf st hg; subst hP hw hK; obtain ⟨xs, hq, hx⟩ := hg; obtain ⟨its, rv, p, hz⟩ := I.tuple hq; obtain ⟨f0, f1, f2, f3, f4, f5⟩ := hf it (by simp); have hl := rv.length; exact wpAny_pyNext_tuple_end (I.ok.hd hc) st (show s.heap.IsTuple a its.toArray from p) (by simp; omega) fun h' eb => ⟨rfl, I.turned (t' := s.toks) (fun b o hb e => eb b o hb e) f0 f1 f3 f4 f5⟩
  self := fun _ _ _ _ _ st h => wpAny_pyIter_tupleiter st h
theorem turn_range {P : Program} {w : World} {K : PySem.W.Frag} {tg : Expr} (it : Addr) (lo : Int) (n : Nat) : Turn P w K tg (Itr lo n) [it] it (fun i h => IsRangeIter h it (lo + (i : Nat) * 1) ((n : Int) - (i : Nat)) 1) where
  mem := by simp
  obj := fun i h st b hb => by
    have e : b = it := by simpa using hb
    subst e
    exact ⟨_, st, fun v z => by
      have z' : Data.fields _ = Data.cell v := z
      cases z'⟩
  keep := fun i h h' st k => k it (by simp) _ st
  item := by
    intro X hP hw hK hc i pins s σ H E I hf st hg; subst hP hw hK; obtain ⟨f0, f1, f2, f3, f4, f5⟩ := hf it (by simp); have W := Walks.range (prog := X.prog) (w := X.w) (I.ok.hd hc) it lo 1 n; refine W.item i s _ _ hg st fun v h' tk hv st' kk => ?_
    obtain ⟨t, rfl⟩ := hv
    have I1 : Inv X pins σ H { s with heap := h', toks := tk } := I.turned (fun b o hb e => kk b o (by simpa using hb) e) f0 f1 f3 f4 f5
    refine ⟨_, rfl, go_of (s := { s with heap := h', toks := tk }) (n := "range_iterator") st' rfl rfl (by decide) ⟨.int (lo + i), H, I1, ⟨t, ?_⟩, ⟨rfl, rfl⟩, st', fun b hb => (hf b hb).1⟩⟩; rw [Int.mul_one]
  done := by
    intro X hP hw hK hc i pins s σ H E I hf st hg; subst hP hw hK; obtain ⟨f0, f1, f2, f3, f4, f5⟩ := hf it (by simp); exact wpAny_pyNext_range_end (I.ok.hd hc) st (by have : n <= i := hg; omega) fun h' eb => ⟨rfl, I.turned (t' := s.toks) (fun b o hb e => eb b o hb e) f0 f1 f3 f4 f5⟩
  self := fun _ _ _ _ _ st h => wpAny_pyIter_rangeiter st h
section
variable {X : Cx} {tg : Expr}
def iTup (K : PySem.W.Frag) (tl : TE) : TI := fun σ H R => tl σ H fun x H1 => ∃ a, x = .ref a /\ (∃ xs, SqT K H1 a xs) /\ R (Itt K a) H1
theorem pi_tup {l : Expr} {tl : TE} (hl : PE X l tl) : PI X tg l (iTup X.K tl) := by
  intro pins s σ H R I h; refine thn (hl pins s σ H _ I h) fun v s1 ⟨x, H1, I1, r1, q1⟩ => ?_
  obtain ⟨a, e, ⟨xs, hq⟩, q⟩ := q1; subst e; cases r1; obtain ⟨its, rv, p, hz⟩ := I1.tuple hq; refine wpAny_pyIter_tuple (show s1.heap.IsTuple a its.toArray from p) ?_; refine ⟨s1.heap.objs.size, [s1.heap.objs.size], _, _, H1, rfl, I1.kept (t' := s1.toks) fun b o e => Heap.get?_push_of_some _ e, turn_tuple a _, ⟨_, Heap.get?_push_size _ rfl, rfl, rfl⟩, fun b hb => ?_, q⟩; have e : b = s1.heap.objs.size := by simpa using hb
  subst e; exact I1.fpOk (Nat.le_refl _) (I1.hok.fresh (Nat.le_refl _))
theorem range_it {pins : List (Addr × Obj)} {σ : St} {H : Hp} {s : Shared} {R : It -> Hp -> Prop} {E : Value -> Shared -> Prop} {lo hi : Int} {t u v : Tok} {tk : Nat} (I : Inv X pins σ H s) (h1 : -(2 ^ 62) <= lo) (h2 : lo < 2 ^ 62) (h3 : -(2 ^ 62) <= hi) (h4 : hi < 2 ^ 62)
 (q : R (Itr lo (hi - lo).toNat) H) : wpAny (model X.prog X.w) X.A (pyIter (.ref s.heap.objs.size)) (PIE X pins σ tg R) E { s with heap := s.heap.push { cls := .type "range", data := .fields #[.int lo t, .int hi u, .int 1 v] }, toks := tk } := by
  refine wpAny_pyIter_range (IsRange.new ..) (small_one h1 h2 h3 h4) ?_
  have I1 : Inv X pins σ H { s with heap := s.heap.push { cls := .type "range", data := .fields #[.int lo t, .int hi u, .int 1 v] }, toks := tk } := I.kept fun b o e => Heap.get?_push_of_some _ e
  refine ⟨(s.heap.push { cls := .type "range", data := .fields #[.int lo t, .int hi u, .int 1 v] }).objs.size, [(s.heap.push { cls := .type "range", data := .fields #[.int lo t, .int hi u, .int 1 v] }).objs.size], _, _, H, rfl,
    I1.kept (t' := tk) fun b o e => Heap.get?_push_of_some _ e, turn_range _ lo (hi - lo).toNat, ?_, fun b hb => ?_, q⟩
  · have e1 : lo + ((0 : Nat) : Int) * 1 = lo := by simp
    have e2 : (((hi - lo).toNat : Nat) : Int) - ((0 : Nat) : Int) = Builtin.Range.rangeSize lo hi 1 := by rw [rangeSize_one]; split <;> omega
    show IsRangeIter _ _ (lo + ((0 : Nat) : Int) * 1) ((((hi - lo).toNat : Nat) : Int) - ((0 : Nat) : Int)) 1
    rw [e1, e2]; exact Heap.get?_push_size _ rfl
  · have e : b = (s.heap.push { cls := .type "range", data := .fields #[.int lo t, .int hi u, .int 1 v] }).objs.size := by simpa using hb
    subst e; exact I1.fpOk (Nat.le_refl _) (I1.hok.fresh (Nat.le_refl _))
def iRng1 (ta : TA) : TI := fun σ H R => ta σ H fun vs H1 => ∃ j : Int, vs = [.int j] /\ -(2 ^ 62) <= j /\ j < 2 ^ 62 /\ R (Itr 0 j.toNat) H1
theorem pi_range1 {a : Expr} {ta : TA} {p pos : Pos} (hg : Gl X "range") (hm : X.mg "range" = none) (ha : PA X [a] ta) (hs : starEach [a] X.env = [(false, eval a X.env)] := by rfl) : PI X tg (.Call (.Name "range" p) [a] [] pos) (iRng1 ta) := by
  intro pins s σ H R I h; refine Call_ (ld_blt I hg hm boot_range (PyProof.Rows.callWith_type1 (thn (ha pos pins s σ H _ I h) fun us s1 ⟨vs, H1, I1, r1, q1⟩ => ?_) hs rfl)); obtain ⟨j, e, q1, q2, q⟩ := q1; subst e
  cases r1 with
  | cons r rr =>
    cases rr; obtain ⟨t, rfl⟩ := r; exact call_range_1 (range_it I1 (by omega) (by omega) q1 q2 (by simpa using q))
def tFor (wi : TI) (g : TG) (tb : TS) : TS := fun D σ H => wi σ H fun J H1 => ∃ W : Nat -> Nat -> St -> Hp -> Prop, (∃ m, W 0 m σ H1) /\ ∀ i m σ H, W i m σ H ->
  (J.stop i H /\ D.nx σ H) \/ (J.go i H /\ ∃ N : St -> Hp -> Prop, (∀ σ' H', N σ' H' -> ∃ m', m' < m /\ W (i + 1) m' σ' H') /\ ∀ x H', J.yld i H x H' -> g x σ H' fun σ2 H2 => tb { D with nx := N, ct := N, bk := D.nx } σ2 H2)
def pinsAt (fp : List Addr) (h : Heap) : List (Addr × Obj) := fp.filterMap fun b => (h.get? b).map fun o => (b, o)
theorem mem_pinsAt {fp : List Addr} {h : Heap} {b : Addr} {o : Obj} (hb : b ∈ fp) (e : h.get? b = some o) : (b, o) ∈ pinsAt fp h := List.mem_filterMap.mpr ⟨b, hb, by rw [e]; rfl⟩
theorem of_pinsAt {fp : List Addr} {h : Heap} {p : Addr × Obj} (hp : p ∈ pinsAt fp h) : p.1 ∈ fp /\ h.get? p.1 = some p.2 := by
  obtain ⟨b, hb, e⟩ := List.mem_filterMap.mp hp
  cases q : h.get? b with
  | none => rw [q] at e; cases e
  | some o =>
    rw [q] at e; have e' : (b, o) = p := Option.some.inj e; subst e'; exact ⟨hb, q⟩
theorem Inv.pinned {pins : List (Addr × Obj)} {σ : St} {H : Hp} {s : Shared} {fp : List Addr} (I : Inv X pins σ H s) (hf : ∀ b ∈ fp, FpOk X pins H b) (ho : ∀ b ∈ fp, ∃ o, s.heap.get? b = some o /\ ∀ v, o.data ≠ .cell v) : Inv X (pins ++ pinsAt fp s.heap) σ H s :=
  I.pins_of fun p hp => (List.mem_append.mp hp).elim (fun z => I.pin p (List.mem_append_right _ z)) fun z => by
    obtain ⟨hb, e⟩ := of_pinsAt z; obtain ⟨f0, f1, f2, _⟩ := hf p.1 hb; obtain ⟨o, e', d⟩ := ho p.1 hb; rw [e] at e'; cases e'; exact ⟨e, f0, f1, f2, d⟩
theorem Inv.unpinned {pins pl : List (Addr × Obj)} {σ : St} {H : Hp} {s : Shared} (I : Inv X (pins ++ pl) σ H s) : Inv X pins σ H s := I.pins_of fun p hp => I.pin p (List.mem_append_right _ (List.mem_append_left _ hp))
theorem ps_for {iter : Expr} {body : List Stmt} {wi : TI} {g : TG} {tb : TS} {pos : Pos} (hp : PassesOwn (model X.prog X.w) X.A X.env X.xe) (hc : X.calm = true) (hi : PI X tg iter wi) (hg : PG X tg g) (hb : PSs X body tb)
 (hs : ∀ x, foldedSetIterable iter X.env x = pure x := by intro _; rfl) : PS X (.For tg iter body [] pos) (tFor wi g tb) := by
  intro pins s σ H D I h; refine wpAny_For (thn (hi pins s σ H _ I h) fun v s1 h1 => thn h1 fun itv s2 h2 => ?_) hs; obtain ⟨it, fp, tn, J, H2, e, I2, T, st2, f2, W, ⟨m0, w0⟩, turn⟩ := h2; subst e; have stat : ∀ {H' : Hp}, (∀ b ∈ fp, H' b = none) -> ∀ b ∈ fp, FpOk X pins H' b := fun hn b hb => ⟨hn b hb, (f2 b hb).2⟩
  refine codeAny_forLoop_any (fun n s' => ∃ i σ' H', Inv X pins σ' H' s' /\ tn i s'.heap /\ (∀ b ∈ fp, H' b = none) /\ W i n σ' H') ?_ m0 ⟨0, σ, H2, I2, st2, fun b hb => (f2 b hb).1, w0⟩; rintro n s3 ⟨i, σ3, H3, I3, st3, fr3, w3⟩
  rcases turn i n σ3 H3 w3 with ⟨stop, qn⟩ | ⟨go, N, hN, step⟩
  · refine wpAny_passesOwn hp (thn (T.done X rfl rfl rfl hc i pins s3 σ3 H3 X.xe I3 (stat fr3) st3 stop) fun r s4 ⟨hr, I4⟩ => ?_)
    subst hr; exact wpAny_execs_nil ⟨σ3, H3, I4, qn⟩
  · refine wpAny_passesOwn hp (thn (T.item X rfl rfl rfl hc i pins s3 σ3 H3 X.xe I3 (stat fr3) st3 go) fun r s4 ⟨u, hr, h4⟩ => ?_)
    subst hr; refine wpAny_passesOwn hp (thn h4 fun _ s5 ⟨x, H5, I5, r5, y5, st5, fr5⟩ => ?_); have I5' := I5.pinned (stat fr5) (T.obj _ _ st5); refine wpAny_passesOwn hp (thn (hg _ s5 σ3 H5 x u _ I5' r5 (step x H5 y5)) fun _ s6 ⟨σ6, H6, I6, q6⟩ => ?_); refine wpAny_passesOwn hp (thn (hb _ s6 σ6 H6 _ I6 q6) fun f s7 q7 => ?_); have again : ∀ {σ7 : St} {H7 : Hp}, Inv X (pins ++ pinsAt fp s5.heap) σ7 H7 s7 -> N σ7 H7 -> ∃ m, m < n /\ ∃ i σ' H', Inv X pins σ' H' s7 /\ tn i s7.heap /\ (∀ b ∈ fp, H' b = none) /\ W i m σ' H' := fun {σ7 H7} I7 n7 => by
      obtain ⟨m', hm, w7⟩ := hN σ7 H7 n7; refine ⟨m', hm, i + 1, σ7, H7, I7.unpinned, T.keep _ _ _ st5 fun b hb o e => (I7.pin (b, o) (List.mem_append_right _ (List.mem_append_right _ (mem_pinsAt hb e)))).1, fun b hb => ?_, w7⟩; obtain ⟨o, e, d⟩ := T.obj _ _ st5 b hb; exact (I7.pin (b, o) (List.mem_append_right _ (List.mem_append_right _ (mem_pinsAt hb e)))).2.1
    cases f with
    | next => obtain ⟨σ7, H7, I7, n7⟩ := q7; exact again I7 n7
    | cont => obtain ⟨σ7, H7, I7, n7⟩ := q7; exact again I7 n7
    | brk => obtain ⟨σ7, H7, I7, q7⟩ := q7; exact ⟨σ7, H7, I7.unpinned, q7⟩
    | ret v => obtain ⟨x7, σ7, H7, I7, r7, q7⟩ := q7; exact ⟨x7, σ7, H7, I7.unpinned, r7, q7⟩
end
theorem for_tup {K : PySem.W.Frag} {a : Addr} {xs : List V} {g : TG} {tb : TS} {D : Ends} {σ : St} {H : Hp} (Pv : Nat -> St -> Hp -> Prop) (h0 : Pv 0 σ H) (hl : ∀ i σ H, i <= xs.length -> Pv i σ H -> SqT K H a xs)
 (hs : ∀ i x σ H, xs[i]? = some x -> Pv i σ H -> g x σ H fun σ2 H2 => tb { D with nx := Pv (i + 1), ct := Pv (i + 1), bk := D.nx } σ2 H2) (hd : ∀ σ H, Pv xs.length σ H -> D.nx σ H) :
 ∃ W : Nat -> Nat -> St -> Hp -> Prop, (∃ m, W 0 m σ H) /\ ∀ i m σ H, W i m σ H ->
 ((Itt K a).stop i H /\ D.nx σ H) \/ ((Itt K a).go i H /\ ∃ N : St -> Hp -> Prop, (∀ σ' H', N σ' H' -> ∃ m', m' < m /\ W (i + 1) m' σ' H') /\ ∀ x H', (Itt K a).yld i H x H' -> g x σ H' fun σ2 H2 => tb { D with nx := N, ct := N, bk := D.nx } σ2 H2) := by
  refine ⟨fun i m σ H => m = xs.length - i /\ i <= xs.length /\ Pv i σ H, ⟨xs.length, by simp, Nat.zero_le _, h0⟩, ?_⟩; rintro i m σ H ⟨rfl, hi, p⟩; have q := hl i σ H hi p
  by_cases hlt : i < xs.length
  · refine .inr ⟨⟨xs, xs[i], q, by simp [hlt]⟩, Pv (i + 1), fun σ' H' p' => ⟨xs.length - (i + 1), by omega, rfl, hlt, p'⟩, fun x H' y => ?_⟩
    obtain ⟨e, y⟩ := y; subst e; exact hs i x σ _ (y xs q) p
  · have e : i = xs.length := by omega
    subst e; exact .inl ⟨⟨xs, q, Nat.le_refl _⟩, hd σ H p⟩
theorem for_range {lo : Int} {n : Nat} {g : TG} {tb : TS} {D : Ends} {σ : St} {H : Hp} (Pv : Nat -> St -> Hp -> Prop) (h0 : Pv 0 σ H)
 (hs : ∀ i σ H, i < n -> Pv i σ H -> g (.int (lo + i)) σ H fun σ2 H2 => tb { D with nx := Pv (i + 1), ct := Pv (i + 1), bk := D.nx } σ2 H2) (hd : ∀ σ H, Pv n σ H -> D.nx σ H) :
 ∃ W : Nat -> Nat -> St -> Hp -> Prop, (∃ m, W 0 m σ H) /\ ∀ i m σ H, W i m σ H ->
 ((Itr lo n).stop i H /\ D.nx σ H) \/ ((Itr lo n).go i H /\ ∃ N : St -> Hp -> Prop, (∀ σ' H', N σ' H' -> ∃ m', m' < m /\ W (i + 1) m' σ' H') /\ ∀ x H', (Itr lo n).yld i H x H' -> g x σ H' fun σ2 H2 => tb { D with nx := N, ct := N, bk := D.nx } σ2 H2) := by
  refine ⟨fun i m σ H => m = n - i /\ i <= n /\ Pv i σ H, ⟨n, by simp, Nat.zero_le _, h0⟩, ?_⟩; rintro i m σ H ⟨rfl, hi, p⟩
  by_cases hlt : i < n
  · refine .inr ⟨hlt, Pv (i + 1), fun σ' H' p' => ⟨n - (i + 1), by omega, rfl, hlt, p'⟩, fun x H' y => ?_⟩
    obtain ⟨e, y⟩ := y; subst e y; exact hs i σ _ hlt p
  · have e : i = n := by omega
    subst e; exact .inl ⟨Nat.le_refl _, hd σ H p⟩
abbrev R2 := V -> V -> Hp -> VK -> Prop
def OpR (X : Cx) (f : Value -> Value -> Sem Value) (r : R2) : Prop :=
  ∀ (pins : List (Addr × Obj)) (s : Shared) (σ : St) (H : Hp) (x y : V) (v u : Value) (Q : VK), Inv X pins σ H s -> RelV x v -> RelV y u -> r x y H Q ->
    wpAny (model X.prog X.w) X.A (f v u) (EP X pins σ Q) X.xe s
def UnR (X : Cx) (f : Value -> Sem Value) (r : V -> Hp -> VK -> Prop) : Prop :=
  ∀ (pins : List (Addr × Obj)) (s : Shared) (σ : St) (H : Hp) (x : V) (v : Value) (Q : VK), Inv X pins σ H s -> RelV x v -> r x H Q ->
    wpAny (model X.prog X.w) X.A (f v) (EP X pins σ Q) X.xe s
def CallR (X : Cx) (f : Value) (r : List V -> Hp -> VK -> Prop) : Prop :=
  ∀ (pins : List (Addr × Obj)) (s : Shared) (σ : St) (H : Hp) (xs : List V) (us : List Value) (Q : VK), Inv X pins σ H s -> Vals xs us -> r xs H Q ->
    wpAny (model X.prog X.w) X.A (call f us) (EP X pins σ Q) X.xe s
def tOp (r : R2) (ta tb : TE) : TE := fun σ H Q => ta σ H fun x H1 => tb σ H1 fun y H2 => r x y H2 Q
def tUn (r : V -> Hp -> VK -> Prop) (ta : TE) : TE := fun σ H Q => ta σ H fun x H1 => r x H1 Q
def rI (C : Int -> Int -> Prop) (g : Int -> Int -> V) : R2 := fun x y H Q => ∃ i j, x = .int i /\ y = .int j /\ C i j /\ Q (g i j) H
def rI0 (g : Int -> Int -> V) : R2 := fun x y H Q => ∃ i j, x = .int i /\ y = .int j /\ Q (g i j) H
def rU (g : Int -> V) : V -> Hp -> VK -> Prop := fun x H Q => ∃ i, x = .int i /\ Q (g i) H
section
variable {X : Cx} {a b c : Expr} {ta tb tc : TE} {pos : Pos}
theorem binT (ha : PE X a ta) (hb : PE X b tb) {pins : List (Addr × Obj)} {s : Shared} {σ : St} {H : Hp} {R : V -> V -> Hp -> Prop} (I : Inv X pins σ H s)
 (h : ta σ H fun x H1 => tb σ H1 fun y H2 => R x y H2) {Q : Value -> Shared -> Prop} {f : Value -> Value -> Sem Value}
 (hf : ∀ v u s2 x y H2, Inv X pins σ H2 s2 -> RelV x v -> RelV y u -> R x y H2 -> wpAny (model X.prog X.w) X.A (f v u) Q X.xe s2) :
 wpAny (model X.prog X.w) X.A (eval a X.env) (fun v s₁ => wpAny (model X.prog X.w) X.A (eval b X.env) (fun u s₂ => wpAny (model X.prog X.w) X.A (f v u) Q X.xe s₂) X.xe s₁) X.xe s := by
  refine thn (ha pins s σ H _ I h) fun v s1 ⟨x, H1, I1, r1, q1⟩ => ?_
  refine thn (hb pins s1 σ H1 _ I1 q1) fun u s2 ⟨y, H2, I2, r2, q2⟩ => ?_
  exact hf v u s2 x y H2 I2 r1 r2 q2
theorem pe_op {op : Operator} {r : R2} (ho : OpR X (binaryOp op) r) (ha : PE X a ta) (hb : PE X b tb) : PE X (.BinOp a op b pos) (tOp r ta tb) := by
  intro pins s σ H Q I h; exact wpAny_BinOp (binT ha hb I h fun v u s2 x y H2 I2 rx ry q => ho pins s2 σ H2 x y v u Q I2 rx ry q)
theorem pe_un {op : UnaryOp} {r : V -> Hp -> VK -> Prop} (ho : UnR X (unaryOp op) r) (ha : PE X a ta) : PE X (.UnaryOp op a pos) (tUn r ta) := by
  intro pins s σ H Q I h; exact UnaryOp_ (thn (ha pins s σ H _ I h) fun v s1 ⟨x, H1, I1, r1, q1⟩ => ho pins s1 σ H1 x v Q I1 r1 q1)
theorem opI {f : Value -> Value -> Sem Value} {C : Int -> Int -> Prop} {g : Int -> Int -> Int}
 (rule : ∀ (i j : Int) (t u : Tok) (s : Shared) (Q : Value -> Shared -> Prop) (E : Value -> Shared -> Prop), C i j -> Q (.int (g i j) s.toks) { s with toks := s.toks + 1 } -> wpAny (model X.prog X.w) X.A (f (.int i t) (.int j u)) Q E s) :
 OpR X f (rI C fun i j => .int (g i j)) := by
  intro pins s σ H x y v u Q I rx ry h; obtain ⟨i, j, rfl, rfl, hc, q⟩ := h; obtain ⟨t, rfl⟩ := rx; obtain ⟨t', rfl⟩ := ry; exact rule i j t t' s _ _ hc ⟨.int (g i j), H, I.tok _, ⟨_, rfl⟩, q⟩
theorem opI0 {f : Value -> Value -> Sem Value} {g : Int -> Int -> Int}
 (rule : ∀ (i j : Int) (t u : Tok) (s : Shared) (Q : Value -> Shared -> Prop) (E : Value -> Shared -> Prop), Q (.int (g i j) s.toks) { s with toks := s.toks + 1 } -> wpAny (model X.prog X.w) X.A (f (.int i t) (.int j u)) Q E s) :
 OpR X f (rI0 fun i j => .int (g i j)) := by
  intro pins s σ H x y v u Q I rx ry h; obtain ⟨i, j, rfl, rfl, q⟩ := h; obtain ⟨t, rfl⟩ := rx; obtain ⟨t', rfl⟩ := ry; exact rule i j t t' s _ _ ⟨.int (g i j), H, I.tok _, ⟨_, rfl⟩, q⟩
theorem opB0 {f : Value -> Value -> Sem Value} {g : Int -> Int -> Bool}
 (rule : ∀ (i j : Int) (t u : Tok) (s : Shared) (Q : Value -> Shared -> Prop) (E : Value -> Shared -> Prop), Q (.bool (g i j)) s -> wpAny (model X.prog X.w) X.A (f (.int i t) (.int j u)) Q E s) :
 OpR X f (rI0 fun i j => .bl (g i j)) := by
  intro pins s σ H x y v u Q I rx ry h; obtain ⟨i, j, rfl, rfl, q⟩ := h; obtain ⟨t, rfl⟩ := rx; obtain ⟨t', rfl⟩ := ry; exact rule i j t t' s _ _ ⟨.bl (g i j), H, I, rfl, q⟩
def CPow (i j : Int) : Prop := 0 <= j /\ j <= 1000000 /\ i.natAbs < 2 ^ 64
def CMul (i j : Int) : Prop := (-(2 ^ 64) < i /\ i < 2 ^ 64) \/ (-(2 ^ 64) < j /\ j < 2 ^ 64)
theorem CMul.ok {i j : Int} (h : CMul i j) : IntMulOk i j := by
  rcases h with ⟨h1, h2⟩ | ⟨h1, h2⟩
  · exact .of_left (intBits_le_64 h1 h2)
  · exact .of_right (intBits_le_64 h1 h2)
theorem op_add : OpR X (binaryOp .Add) (rI0 fun i j => .int (i + j)) := opI0 fun _ _ _ _ _ _ _ q => add_int q
theorem op_mul : OpR X (binaryOp .Mult) (rI CMul fun i j => .int (i * j)) := opI fun _ _ _ _ _ _ _ hc q => mul_int q hc.ok
theorem op_mod : OpR X (binaryOp .Mod) (rI (fun _ j => 0 < j) fun i j => .int (i % j)) := opI fun i j _ _ _ _ _ hc q => by
  have h1 : (0 : Int) < j := hc; exact mod_int' (by omega) (by rw [Int.fmod_eq_emod_of_nonneg i (by omega)]; exact q)
theorem op_pow : OpR X (binaryOp .Pow) (rI CPow fun i j => .int (i ^ j.toNat)) := opI fun _ _ _ _ _ _ _ hc q => pow_int_small hc.1 hc.2.1 hc.2.2 q
theorem unI {f : Value -> Sem Value} {g : Int -> Int}
 (rule : ∀ (i : Int) (t : Tok) (s : Shared) (Q : Value -> Shared -> Prop) (E : Value -> Shared -> Prop), Q (.int (g i) s.toks) { s with toks := s.toks + 1 } -> wpAny (model X.prog X.w) X.A (f (.int i t)) Q E s) :
 UnR X f (rU fun i => .int (g i)) := by
  intro pins s σ H x v Q I rx h; obtain ⟨i, rfl, q⟩ := h; obtain ⟨t, rfl⟩ := rx; exact rule i t s _ _ ⟨.int (g i), H, I.tok _, ⟨_, rfl⟩, q⟩
theorem un_neg : UnR X (unaryOp .USub) (rU fun i => .int (-i)) := unI fun _ _ _ _ _ q => neg_int q
end
def scal : V -> V -> Bool
  | .non, .non => true | .non, .int _ => true | .int _, .non => true | .non, .bl _ => true | .bl _, .non => true | .non, .str _ => true | .str _, .non => true
  | .int _, .int _ => true | .bl _, .bl _ => true | .str _, .str _ => true | .byt _, .byt _ => true
  | .int _, .str _ => true | .str _, .int _ => true | .bl _, .str _ => true | .str _, .bl _ => true
  | _, _ => false
def rEq : R2 := fun x y H Q => scal x y = true /\ Q (.bl (decide (x = y))) H
theorem dec_int {i j : Int} : decide (V.int i = V.int j) = (i == j) := by
  rw [Bool.eq_iff_iff]; simp
theorem dec_bl {i j : Bool} : decide (V.bl i = V.bl j) = (i == j) := by
  rw [Bool.eq_iff_iff]; simp
theorem dec_str {i j : Str} : decide (V.str i = V.str j) = (i == j) := by
  rw [Bool.eq_iff_iff]; simp
theorem dec_byt {i j : Array UInt8} : decide (V.byt i = V.byt j) = (i.toList == j.toList) := by
  rw [Bool.eq_iff_iff]; cases i; cases j; simp
section
variable {X : Cx} {a b c : Expr} {ta tb tc : TE} {pos : Pos}
theorem fin_bl {pins : List (Addr × Obj)} {σ : St} {H : Hp} {s : Shared} {Q : VK} {k k' : Bool} (I : Inv X pins σ H s) (q : Q (.bl k) H) (e : k = k') : EP X pins σ Q (.bool k') s := by
  subst e; exact ⟨.bl k, H, I, rfl, q⟩
theorem op_eq : OpR X (compareOp .Eq) rEq := by
  intro pins s σ H x y v u Q I rx ry h; obtain ⟨hs, q⟩ := h
  cases x with
  | non =>
    cases rx
    cases y with
    | non => cases ry; exact PySem.EqNone.eq_none_none (fin_bl I q (by simp))
    | bl j => cases ry; exact PySem.EqNone.eq_none_bool (fin_bl I q (by simp))
    | int j => obtain ⟨t', rfl⟩ := ry; exact PySem.EqNone.eq_none_int (fin_bl I q (by simp))
    | str j => obtain ⟨t', rfl⟩ := ry; exact PySem.EqNone.eq_none_str (fin_bl I q (by simp))
    | _ => exact absurd (show false = true from hs) Bool.false_ne_true
  | bl i =>
    cases rx
    cases y with
    | non => cases ry; exact PySem.EqNone.eq_bool_none (fin_bl I q (by simp))
    | bl j => cases ry; exact eq_bool (fin_bl I q dec_bl)
    | str j => obtain ⟨t', rfl⟩ := ry; exact PySem.EqMixed.eq_bool_str (fin_bl I q (by simp))
    | _ => exact absurd (show false = true from hs) Bool.false_ne_true
  | int i =>
    obtain ⟨t, rfl⟩ := rx
    cases y with
    | non => cases ry; exact PySem.EqNone.eq_int_none (fin_bl I q (by simp))
    | int j => obtain ⟨t', rfl⟩ := ry; exact eq_int (fin_bl I q dec_int)
    | str j => obtain ⟨t', rfl⟩ := ry; exact PySem.EqMixed.eq_int_str (fin_bl I q (by simp))
    | _ => exact absurd (show false = true from hs) Bool.false_ne_true
  | str i =>
    obtain ⟨t, rfl⟩ := rx
    cases y with
    | non => cases ry; exact PySem.EqNone.eq_str_none (fin_bl I q (by simp))
    | bl j => cases ry; exact PySem.EqMixed.eq_str_bool (fin_bl I q (by simp))
    | int j => obtain ⟨t', rfl⟩ := ry; exact PySem.EqMixed.eq_str_int (fin_bl I q (by simp))
    | str j => obtain ⟨t', rfl⟩ := ry; exact eq_str (fin_bl I q dec_str)
    | _ => exact absurd (show false = true from hs) Bool.false_ne_true
  | byt i =>
    obtain ⟨t, rfl⟩ := rx
    cases y with
    | byt j => obtain ⟨t', rfl⟩ := ry; exact PySem.W.eq_bytes (fin_bl I q dec_byt)
    | _ => exact absurd (show false = true from hs) Bool.false_ne_true
  | _ => cases y <;> exact absurd (show false = true from hs) Bool.false_ne_true
theorem op_lt : OpR X (compareOp .Lt) (rI0 fun i j => .bl (decide (i < j))) := opB0 fun _ _ _ _ _ _ _ q => lt_int q
theorem op_ge : OpR X (compareOp .GtE) (rI0 fun i j => .bl (decide (j <= i))) := opB0 fun _ _ _ _ _ _ _ q => ge_int q
theorem nomark (b : Expr) {op : CmpOp} (h : op ≠ .In := by decide) (h2 : op ≠ .NotIn := by decide) : behindInMarks op b = false := by
  have e1 : (op == CmpOp.In) = false := by cases op <;> first | rfl | exact absurd rfl h
  have e2 : (op == CmpOp.NotIn) = false := by cases op <;> first | rfl | exact absurd rfl h2
  cases b <;> simp [behindInMarks, e1, e2]
theorem pe_cmpR {op : CmpOp} {r : R2} (ho : OpR X (compareOp op) r) (ha : PE X a ta) (hb : PE X b tb) (hm : behindInMarks op b = false) : PE X (.Compare a [op] [b] pos) (tOp r ta tb) := by
  intro pins s σ H Q I h; exact wpAny_Compare1 (binT ha hb I h fun v u s2 x y H2 I2 rx ry q => ho pins s2 σ H2 x y v u Q I2 rx ry q) hm
def tTest (t : TE) : TT := fun σ H Q => t σ H fun x H' => ∃ k, x = .bl k /\ Q k H'
theorem pt_cmpR {op : CmpOp} {r : R2} (ho : OpR X (compareOp op) r) (ha : PE X a ta) (hb : PE X b tb) (hm : behindInMarks op b = false) : PT X (.Compare a [op] [b] pos) (tTest (tOp r ta tb)) := by
  intro pins s σ H Q I h
  refine wpAny_isTrue_Compare1 (thn (ha pins s σ H _ I h) fun v s1 ⟨x, H1, I1, r1, q1⟩ => thn (hb pins s1 σ H1 _ I1 q1) fun u s2 ⟨y, H2, I2, r2, q2⟩ =>
    thn (ho pins s2 σ H2 x y v u _ I2 r1 r2 q2) fun c s3 ⟨z, H3, I3, r3, k, e, q3⟩ => ?_) hm
  subst e; cases r3; exact wpAny_truthy_bool ⟨H3, I3, q3⟩
theorem line63 : (sizeLine : Nat) < 2 ^ 63 := by rw [sizeLine_eq]; decide
theorem vals1 {x : V} {us : List Value} (r : Vals [x] us) : ∃ u, us = [u] /\ RelV x u := by
  cases r with
  | cons r1 r2 => cases r2; exact ⟨_, rfl, r1⟩
end
structure ObjM (h : Heap) (x dx C : Addr) (mA : Str -> Option Value) : Prop where
  obj : h.get? x = some (PySem.W.instObj C dx)
  ns : h.Ns1 dx mA
  ne : dx ≠ x
theorem lookIn_ns {h : Heap} {dx : Addr} {mA : Str -> Option Value} (n : h.Ns1 dx mA) : ∃ od, h.get? dx = some od /\ ∀ name, PySem.W.lookIn name od = some (mA name) := by
  obtain ⟨o, es, ep, ho, hd, hk, _, hm⟩ := n; refine ⟨o, ho, fun name => ?_⟩; have e := hm name; unfold nsFind findBy at e; rw [<- Array.find?_toList] at e; unfold PySem.W.lookIn; rw [hd]; dsimp only
  split
  · rename_i y q
    rw [q] at e; exact congrArg some e
  · rename_i q
    rw [q] at e; have a : es.toList.any (·.refKey) = false := by
      rw [List.any_eq_false]; intro y hy; obtain ⟨z, t, hkey⟩ := hk y (Array.mem_toList_iff.mp hy); simp [DictEntry.refKey, hkey]
    have a' : ¬ es.toList.any (·.refKey) = true := by rw [a]; exact Bool.false_ne_true
    rw [if_neg a']; exact congrArg some e
section
variable {prog : Program} {w : World} {A : Around} {E : Value -> Shared -> Prop} {s : Shared} {K : PySem.W.Frag} {x dx C f : Addr} {mA : Str -> Option Value} {name : Str} {v : Value}
end
def putF (f : Str) (v : V) : List (Str × V) -> List (Str × V)
  | [] => [(f, v)]
  | (g, x) :: r => if g = f then (g, v) :: r else (g, x) :: putF f v r
theorem lookup_putF (f g : Str) (v : V) : ∀ fs : List (Str × V), (putF f v fs).lookup g = if g = f then some v else fs.lookup g
  | [] => by
    show List.lookup g [(f, v)] = _
    by_cases h : g = f
    · have hb : (g == f) = true := beq_iff_eq.mpr h
      simp only [List.lookup, hb, if_pos h]
    · have hb : (g == f) = false := beq_eq_false_iff_ne.mpr h
      simp only [List.lookup, hb, if_neg h]
  | (k, x) :: r => by
    have ih := lookup_putF f g v r; rw [show putF f v ((k, x) :: r) = (if k = f then (k, v) :: r else (k, x) :: putF f v r) from rfl]
    by_cases hk : k = f
    · rw [if_pos hk]
      by_cases h : g = k
      · have hb : (g == k) = true := beq_iff_eq.mpr h
        simp only [List.lookup, hb, if_pos (h.trans hk)]
      · have hb : (g == k) = false := beq_eq_false_iff_ne.mpr h
        simp only [List.lookup, hb, if_neg (fun e : g = f => h (e.trans hk.symm))]
    · rw [if_neg hk]
      by_cases h : g = k
      · have hb : (g == k) = true := beq_iff_eq.mpr h
        simp only [List.lookup, hb, if_neg (fun e : g = f => hk (h.symm.trans e))]
      · have hb : (g == k) = false := beq_eq_false_iff_ne.mpr h
        simp only [List.lookup, hb]; exact ih
theorem keys_putF (f : Str) (v : V) : ∀ fs : List (Str × V), f ∈ (putF f v fs).map (·.1) /\ ∀ g, g ∈ fs.map (·.1) -> g ∈ (putF f v fs).map (·.1)
  | [] => ⟨by simp [putF], fun g h => by simp at h⟩
  | (k, x) :: r => by
    obtain ⟨i1, i2⟩ := keys_putF f v r; rw [show putF f v ((k, x) :: r) = (if k = f then (k, v) :: r else (k, x) :: putF f v r) from rfl]
    by_cases hk : k = f
    · rw [if_pos hk]
      subst hk; exact ⟨by simp, fun g h => by simpa using h⟩
    · rw [if_neg hk]
      refine ⟨?_, fun g h => ?_⟩
      · rw [List.map_cons]
        exact List.mem_cons_of_mem _ i1
      · rw [List.map_cons] at h ⊢
        rcases List.mem_cons.mp h with e | e
        · exact List.mem_cons.mpr (.inl e)
        · exact List.mem_cons_of_mem _ (i2 g e)
theorem RelO.some_of {v : V} {o : Option Value} (r : RelO (some v) o) : ∃ u, o = some u /\ RelV v u := by
  cases o with
  | none => exact (show False from r).elim
  | some u => exact ⟨u, rfl, r⟩
theorem handed_of {v : V} {u : Value} (r : RelV v u) : PySem.W.handedIn u = true := by
  cases v with
  | non => cases (show u = Value.none from r); rfl
  | bl b => cases (show u = Value.bool b from r); rfl
  | int i => obtain ⟨t, e⟩ := (show ∃ t, u = Value.int i t from r); cases e; rfl
  | str x => obtain ⟨t, e⟩ := (show ∃ t, u = Value.str x t from r); cases e; rfl
  | byt b => obtain ⟨t, e⟩ := (show ∃ t, u = Value.bytes b t from r); cases e; rfl
  | flt b => obtain ⟨t, e⟩ := (show ∃ t, u = Value.float b t from r); cases e; rfl
  | ref a => cases (show u = Value.ref a from r); rfl
  | ty n => cases (show u = Value.type n from r); rfl
section
variable {P : Program} {w : World} {H H' : Hp} {h h' : Heap} {a C dx : Addr} {fs fs' : List (Str × V)}
end
structure Cls (K : PySem.W.Frag) (C : Addr) : Prop where
  pg : PySem.W.plainGet K C Str.empty = true
  hd : PySem.W.hasDictIn K C = true
  po : PySem.W.plainOver K C = true
  sa : PySem.W.findIn K (.ref C) "__setattr__" = some (some (.builtin "object.__setattr__"))
def NoAttr (K : PySem.W.Frag) (C : Addr) (f : Str) : Prop := PySem.W.findIn K (.ref C) f = some none
structure Con (K : PySem.W.Frag) (C : Addr) (f : Str) (v : V) (u : Value) : Prop where
  at_ : PySem.W.findIn K (.ref C) f = some (some u)
  rel : RelV v u
  get : PySem.W.specialIn K u "__get__" = some none
  cp : PySem.W.copiedNames.contains f = false
structure Meth (K : PySem.W.Frag) (C : Addr) (m : Str) (f : Addr) : Prop where
  at_ : PySem.W.findIn K (.ref C) m = some (some (.ref f))
  fn : PySem.W.isFn K (.ref f) = true
  kp : PySem.W.keepIn K (.ref f) = true
section
variable {X : Cx} {pins : List (Addr × Obj)} {σ : St} {H : Hp} {s : Shared} {a C dx : Addr} {fs : List (Str × V)} {f : Str} {v : V} {A : Around} {E : Value -> Shared -> Prop}
theorem attr_of {prog : Program} {w : World} {env : Env} {e : Expr} {f : Str} {pos : Pos} {s : Shared} {Q : Value -> Shared -> Prop} (hb : attributeBase e f env (eval e env) = eval e env)
 (h : wpAny (model prog w) A (eval e env) (fun o s₁ => wpAny (model prog w) A (getAttr o f true) Q E s₁) E s) : wpAny (model prog w) A (eval (.Attribute e f pos) env) Q E s :=
  Attribute_any_ h (by rw [arm_eval_Attribute, hb])
end
section
variable {X : Cx} {o e value : Expr} {f : Str} {pos pos' tpos : Pos} {ta tv : TE}
end
section
variable {X : Cx} {pins : List (Addr × Obj)} {σ : St} {H : Hp} {s : Shared} {A : Around} {E : Value -> Shared -> Prop} {Q : Value -> Shared -> Prop} {c : Value} {b : Bool}
inductive TyOf (K : PySem.W.Frag) (H : Hp) : V -> Value -> Prop where
  | non : TyOf K H .non (.type "NoneType")
  | bl (x : Bool) : TyOf K H (.bl x) (.type "bool")
  | int (i : Int) : TyOf K H (.int i) (.type "int")
  | str (x : Str) : TyOf K H (.str x) (.type "str")
  | flt (x : UInt64) : TyOf K H (.flt x) (.type "float")
  | lst {a : Addr} {xs : List V} (e : H a = some (.lst xs)) : TyOf K H (.ref a) (.type "list")
  | frz {a : Addr} {o : Obj} {xs : List V} (e : H a = some (.frz o (.lst xs))) : TyOf K H (.ref a) (.type "list")
  | tup {a : Addr} {xs : List V} (e : H a = some (.tup xs)) : TyOf K H (.ref a) (.type "tuple")
  | dK {a : Addr} {kvs : List (Key × V)} (e : H a = some (.dK kvs)) : TyOf K H (.ref a) (.type "dict")
  | dT {a : Addr} {kvs : List (List Key × V)} (e : H a = some (.dT kvs)) : TyOf K H (.ref a) (.type "dict")
  | ins {a C dx : Addr} {fs : List (Str × V)} (e : H a = some (.ins C dx fs)) (cl : Cls K C) (ha : PySem.W.findIn K (.ref C) "__class__" = some (some (.builtin "object.__class__")))
      (hn : PySem.W.specialIn K (.builtin "object.__class__") "__get__" = some (some (.builtin "getset_descriptor.__get__"))) (htk : PySem.W.takesIn K (.builtin "object.__class__") = some true)
      (hm : PySem.W.mroIn K C (.type "object") = some true) : TyOf K H (.ref a) (.ref C)
end
structure Room (k : Nat) (A : Around) : Prop where
  hd : A.handled = none
  dp : A.depth + 3 * k + 5 < recursionLimit
  un : A.units + 16 * k + 200 < cLine
theorem Room.mono {j k : Nat} {A : Around} (r : Room k A) (h : j <= k) : Room j A := ⟨r.hd, by have := r.dp; omega, by have := r.un; omega⟩
theorem Room.deeper {k : Nat} {A : Around} (r : Room (k + 1) A) (env : Env) : Room k (A.deeper env) :=
  ⟨r.hd, by have := r.dp; show A.depth + 1 + 3 * k + 5 < _; omega, by have := r.un; show A.units + 3 + 16 * k + 200 < _; omega⟩
theorem make_depth {A : Around} {C : Addr} {us : List Value} {kw : List (Str × Value)} : (A.under (.builtin "type.__call__" ⟨.ref C :: us, kw⟩)).depth = A.depth + 1 := by
  first | rfl | simp [Around.under, Code.weight, Code.isCreation, Code.isGuard, Code.isCaller, Code.frames, Code.isFrame, guardIds]
theorem make_units {A : Around} {C : Addr} {us : List Value} {kw : List (Str × Value)} : (A.under (.builtin "type.__call__" ⟨.ref C :: us, kw⟩)).units = A.units + 1 := by
  first | rfl | simp [Around.under, Code.cUnits, Code.frames, Code.isFrame]
theorem Room.make {k : Nat} {A : Around} (r : Room (k + 1) A) (C : Addr) (us : List Value) (kw : List (Str × Value)) : Room k (A.under (.builtin "type.__call__" ⟨.ref C :: us, kw⟩)) :=
  ⟨r.hd, by have := r.dp; rw [make_depth]; omega, by have := r.un; rw [make_units]; omega⟩
theorem Room.depth {k : Nat} {A : Around} (r : Room k A) : A.depth < recursionLimit := by have := r.dp; omega
theorem Room.units {k : Nat} {A : Around} (r : Room k A) : A.units + 64 < cLine := by have := r.un; omega
def tNil : TA := fun _ H Q => Q [] H
def tCons (ta : TE) (tr : TA) : TA := fun σ H Q => ta σ H fun x H1 => tr σ H1 fun xs H2 => Q (x :: xs) H2
section
variable {X : Cx} {e : Expr} {es : List Expr} {te : TE} {t : TA} {pos : Pos}
theorem pa_nil : PA X [] tNil := fun _ _ _ _ H Q I h => Calls.spliced_nil ⟨[], H, I, .nil, h⟩
theorem pa_cons (ha : PE X e te) (hr : PA X es t) (hs : starEach (e :: es) X.env = (false, eval e X.env) :: starEach es X.env := by rfl) : PA X (e :: es) (tCons te t) := by
  intro pos pins s σ H Q I h; rw [hs]
  show wpAny _ _ (spliced ((false, eval e X.env) :: backTo pos (starEach es X.env))) _ _ s
  refine Calls.spliced_cons (thn (ha pins s σ H _ I h) fun u s1 ⟨x, H1, I1, r1, q1⟩ => ?_); exact thn (hr pos pins s1 σ H1 _ I1 q1) fun us s2 ⟨xs, H2, I2, r2, q2⟩ => ⟨x :: xs, H2, I2, .cons r1 r2, q2⟩
def tTup (t : TA) : TE := fun σ H Q => t σ H fun xs H1 => xs.length <= sizeLine /\ ∀ p, H1 p = none -> Q (.ref p) (upd H1 p (.tup xs))
def tLst (t : TA) : TE := fun σ H Q => t σ H fun xs H1 => xs.length <= sizeLine /\ ∀ p, H1 p = none -> Q (.ref p) (upd H1 p (.lst xs))
theorem pe_tup {x1} (h : PA X es t) : PE X (.Tuple es x1 pos) (tTup t) := by
  intro pins s σ H Q I hq; refine wpAny_Tuple_spliced (thn (h pos pins s σ H _ I hq) fun us s1 ⟨xs, H1, I1, r, z, q⟩ => ⟨by rw [<- r.length]; exact z, ?_⟩); have hf : H1 s1.heap.objs.size = none := I1.hok.fresh (Nat.le_refl _); refine ⟨.ref s1.heap.objs.size, upd H1 s1.heap.objs.size (.tup xs), I1.laid (t' := s1.toks) (fun b u e => Heap.get?_push_of_some _ e) (Nat.le_refl _) ?_, rfl, q _ hf⟩; exact ⟨z, us, r, ⟨_, Heap.get?_push_size _ rfl, rfl, _, rfl⟩⟩
theorem pe_lst (h : PA X es t) : PE X (.List es pos) (tLst t) := by
  intro pins s σ H Q I hq; refine wpAny_List_spliced (thn (h pos pins s σ H _ I hq) fun us s1 ⟨xs, H1, I1, r, z, q⟩ => ⟨by rw [<- r.length]; exact z, ?_⟩); have hf : H1 s1.heap.objs.size = none := I1.hok.fresh (Nat.le_refl _); refine ⟨.ref s1.heap.objs.size, upd H1 s1.heap.objs.size (.lst xs), I1.laid (t' := s1.toks) (fun b u e => Heap.get?_push_of_some _ e) (Nat.le_refl _) ?_, rfl, q _ hf⟩; exact ⟨z, us, 0, r, Heap.get?_push_size _ rfl⟩
end
abbrev Sp := List V -> Hp -> VK -> XK -> Prop
abbrev CXT := List Env -> Hp -> Shared -> XK -> Value -> Shared -> Prop
structure Env0 (P : Program) (w : World) (K : PySem.W.Frag) (mg : Str -> Option Value) (base : Heap) (A : Around) (outer : List Env) (s : Shared) (H : Hp) : Prop where
  frames : A.frames = some outer
  mod : Mod K mg base
  bs : ∀ b o, base.get? b = some o -> s.heap.get? b = some o /\ H b = none
  bsz : base.objs.size <= s.heap.objs.size
  funs : s.heap.FunFrames base outer
  frf : ∀ b ∈ frs outer, H b = none
  hok : HOk P w H s.heap
  bare : AllBare s.gens
def CE (outer : List Env) (P : Program) (w : World) (H : Hp) (s : Shared) (Q : VK) (u : Value) (s' : Shared) : Prop :=
  ∃ v H', s'.os = s.os /\ AllBare s'.gens /\ Un (frs outer) [] H H' s.heap s'.heap /\ HOk P w H' s'.heap /\ RelV v u /\ Q v H'
def CR (CX : CXT) (outer : List Env) (P : Program) (w : World) (H : Hp) (s : Shared) (Q : VK) (E : XK) (r : Result) (s' : Shared) : Prop :=
  match r with
  | .ok (.ret u) => CE outer P w H s Q u s'
  | .ok _ => False
  | .error e => CX outer H s E e s'
structure FnOk (P : Program) (w : World) (K : PySem.W.Frag) (mg : Str -> Option Value) (base : Heap) (CX : CXT) (k : Nat) (f : Addr) (fd : FuncData) (ps : List Str) (sp : Sp) : Prop where
  len : ∀ vs H Q E, sp vs H Q E -> vs.length = ps.length
  run : ∀ (A : Around) (outer : List Env) (s : Shared) (H : Hp) (args : Args) (us : List Value) (vs : List V) (Q : VK) (E : XK), Room k A -> Env0 P w K mg base A outer s H -> BindsTo s fd args (ps.zip us) -> Vals vs us -> sp vs H Q E ->
    codeAny (model P w) A (.call (.ref f) args) (CR CX outer P w H s Q E) s
theorem FnOk.mono {P : Program} {w : World} {K : PySem.W.Frag} {mg : Str -> Option Value} {base : Heap} {CX : CXT} {j k : Nat} {f : Addr} {fd : FuncData} {ps : List Str} {sp : Sp} (F : FnOk P w K mg base CX j f fd ps sp) (h : j <= k) :
 FnOk P w K mg base CX k f fd ps sp := ⟨F.len, fun A outer s H args us vs Q E hr => F.run A outer s H args us vs Q E (hr.mono h)⟩
theorem Env0.make {P : Program} {w : World} {K : PySem.W.Frag} {mg : Str -> Option Value} {base : Heap} {A : Around} {outer : List Env} {s : Shared} {H : Hp} (e : Env0 P w K mg base A outer s H) (C : Addr) (us : List Value) (kw : List (Str × Value)) :
 Env0 P w K mg base (A.under (.builtin "type.__call__" ⟨.ref C :: us, kw⟩)) outer s H := ⟨by first | exact e.frames | (simpa [Around.under, Code.envs, Code.isFrame, pushEnvs] using e.frames), e.mod, e.bs, e.bsz, e.funs, e.frf, e.hok, e.bare⟩
section
variable {X : Cx} {pins : List (Addr × Obj)} {σ : St} {H : Hp} {s s' : Shared}
theorem Inv.env0 (I : Inv X pins σ H s) : Env0 X.prog X.w X.K X.mg X.base X.A X.stack s H :=
  ⟨I.ok.frames, I.ok.mod, I.bs, Nat.le_trans I.ok.bsz I.sz, I.stack, I.stkFree, I.hok, I.bare⟩
theorem Inv.after {Q : VK} {u : Value} (I : Inv X pins σ H s) (h : CE X.stack X.prog X.w H s Q u s') : EP X pins σ Q u s' := by
  obtain ⟨v, H', os, bare, un, hok, r, q⟩ := h; obtain ⟨hh, g, d, t, os'⟩ := s'; obtain rfl : os' = s.os := os; exact ⟨v, H', I.call (h' := hh) (g' := g) (d' := d) (t' := t) (ch := []) un hok bare (fun b z => absurd z (by simp)), r, q⟩
end
def Binds (K : PySem.W.Frag) (fd : FuncData) (ps : List Str) (ds : List Value) : Prop :=
  ∀ (s : Shared) (us : List Value), K.In s.heap -> (us ++ ds).length = ps.length -> BindsTo s fd ⟨us, []⟩ (ps.zip (us ++ ds))
theorem Binds.all {K : PySem.W.Frag} {fd : FuncData} {ps : List Str} (h : ∀ us : List Value, us.length = ps.length -> bindArgs fd ⟨us, []⟩ = pure (ps.zip us)) : Binds K fd ps [] := fun s us _ hl => by
  rw [List.append_nil] at hl ⊢; exact .of_eq (h us hl)
section
variable {X : Cx} {CX : CXT} {k : Nat} {f C : Addr} {fd : FuncData} {ps : List Str} {sp : Sp} {dvs : List V} {ds : List Value} {E : XK} {x m : Str} {p pos apos : Pos} {e o : Expr} {es : List Expr} {ta : TE} {t : TA}
structure Mk (K : PySem.W.Frag) (C f : Addr) : Prop where
  makes : PySem.W.makesIn K C = true
  init : PySem.W.findIn K (.ref C) "__init__" = some (some (.ref f))
  fn : PySem.W.isFn K (.ref f) = true
  kp : PySem.W.keepIn K (.ref C) = true
end
section
variable {X : Cx} {CX : CXT} {k : Nat} {f C : Addr} {fd : FuncData} {ps ks : List Str} {sp : Sp} {E : XK} {x m : Str} {p pos apos kpos : Pos} {e o : Expr} {es : List Expr} {kws : List Keyword} {te ta : TE} {t tk : TA} {nm : Option Str}
structure KBinds (K : PySem.W.Frag) (fd : FuncData) (ps ks : List Str) (g : List Value -> List Value -> List Value) (gV : List V -> List V -> List V) : Prop where
  to : ∀ (s : Shared) (us ws : List Value), K.In s.heap -> (g us ws).length = ps.length -> BindsTo s fd ⟨us, ks.zip ws⟩ (ps.zip (g us ws))
  rel : ∀ {vs : List V} {us : List Value} {zs : List V} {ws : List Value}, Vals vs us -> Vals zs ws -> Vals (gV vs zs) (g us ws)
variable {g : List Value -> List Value -> List Value} {gV : List V -> List V -> List V}
end
structure FnScope (N P : List Str) (sc : Scope) : Prop where
  kind : sc.kind = .function
  co : sc.isCoroutine = false
  gen : sc.isGenerator = false
  nd : N.Nodup
  pre : N.take P.length = P
  par : ∀ x ∈ P, sc.names.lookup x = some .local \/ sc.names.lookup x = some .cell
  nofree : ∀ y ∈ sc.names, y.2 ≠ .free
theorem bindL_out {kindOf : Str -> Option NameKind} {x : Str} : ∀ {binds : List (Str × Value)} {m : Str -> Option Value}, (∀ v, (x, v) ∉ binds) -> bindL kindOf binds m x = m x
  | [], _, _ => rfl
  | (n, v) :: r, m, h => by
    unfold bindL; rw [bindL_out fun w hw => h w (List.mem_cons_of_mem _ hw)]
    split
    · have : x ≠ n := by rintro rfl; exact h v List.mem_cons_self
      simp [this]
    · rfl
theorem bindC_out {kindOf : Str -> Option NameKind} {x : Str} : ∀ {binds : List (Str × Value)} {m : Str -> Option Value}, (∀ v, (x, v) ∉ binds) -> bindC kindOf binds m x = m x
  | [], _, _ => rfl
  | (n, v) :: r, m, h => by
    unfold bindC; rw [bindC_out fun w hw => h w (List.mem_cons_of_mem _ hw)]
    split
    · rfl
    · have : x ≠ n := by rintro rfl; exact h v List.mem_cons_self
      simp [this]
theorem bindL_get {kindOf : Str -> Option NameKind} {x : Str} {v : Value} : ∀ {P : List Str} {vs : List Value} {i : Nat} {m : Str -> Option Value}, P.Nodup -> P[i]? = some x -> vs[i]? = some v -> kindOf x = some .local ->
 bindL kindOf (P.zip vs) m x = some v
  | [], _, _, _, _, h, _, _ => by simp at h
  | _ :: _, [], _, _, _, _, h, _ => by simp at h
  | p :: P, w :: vs, 0, m, nd, h1, h2, hk => by
    simp at h1 h2; subst h1; subst h2
    show bindL kindOf ((p, w) :: P.zip vs) m p = _
    unfold bindL; rw [bindL_out fun v hv => (List.nodup_cons.mp nd).1 (List.of_mem_zip hv).1, if_pos hk]; simp
  | p :: P, w :: vs, i + 1, m, nd, h1, h2, hk => by
    show bindL kindOf ((p, w) :: P.zip vs) m x = _
    unfold bindL; exact bindL_get (i := i) (List.nodup_cons.mp nd).2 (by simpa using h1) (by simpa using h2) hk
theorem bindC_get {kindOf : Str -> Option NameKind} {x : Str} {v : Value} : ∀ {P : List Str} {vs : List Value} {i : Nat} {m : Str -> Option Value}, P.Nodup -> P[i]? = some x -> vs[i]? = some v -> kindOf x ≠ some .local ->
 bindC kindOf (P.zip vs) m x = some v
  | [], _, _, _, _, h, _, _ => by simp at h
  | _ :: _, [], _, _, _, _, h, _ => by simp at h
  | p :: P, w :: vs, 0, m, nd, h1, h2, hk => by
    simp at h1 h2; subst h1; subst h2
    show bindC kindOf ((p, w) :: P.zip vs) m p = _
    unfold bindC; rw [bindC_out fun v hv => (List.nodup_cons.mp nd).1 (List.of_mem_zip hv).1, if_neg hk]; simp
  | p :: P, w :: vs, i + 1, m, nd, h1, h2, hk => by
    show bindC kindOf ((p, w) :: P.zip vs) m x = _
    unfold bindC; exact bindC_get (i := i) (List.nodup_cons.mp nd).2 (by simpa using h1) (by simpa using h2) hk
def start (N : List Str) (vs : List V) : St := vs.map some ++ List.replicate (N.length - vs.length) none
def cxOf (CX : CXT) (P : Program) (w : World) (K : PySem.W.Frag) (mg : Str -> Option Value) (base : Heap) (N : List Str) (qual : Str) (scope : Scope) (f : Addr) (cd : Value) (A : Around) (outer : List Env) (s : Shared) (H : Hp) (E : XK) : Cx where
  prog := P
  w := w
  K := K
  mg := mg
  base := base
  A := A.deeper (envOfC qual scope s.heap.objs.size f cd)
  N := N
  s₀ := s
  H₀ := H
  env := envOfC qual scope s.heap.objs.size f cd
  outer := outer
  stack := envOfC qual scope s.heap.objs.size f cd :: outer
  ex := []
  calm := true
  fn := fun _ => true
  pn := []
  xe := fun e s' => wpAny (model P w) (A.deeper (envOfC qual scope s.heap.objs.size f cd)) (leaving (envOfC qual scope s.heap.objs.size f cd) e) (fun _ s'' => CX outer H s E e s'') (fun e' s'' => CX outer H s E e' s'') s'
theorem cell_has {sc : Scope} {n : Nat} {x : Str} (h : sc.names.lookup x = some .cell) : ∃ c, (cellsFrom n sc.names []).lookup x = some c := by
  have q := PySem.W.cellsFrom_some sc.names n [] (.inl h); exact Option.isSome_iff_exists.mp q
theorem inv_start {CX : CXT} {P : Program} {w : World} {K : PySem.W.Frag} {mg : Str -> Option Value} {base : Heap} {N ps : List Str} {qual : Str} {scope : Scope} {f : Addr} {cd : Value} {A : Around} {outer : List Env} {s s1 : Shared} {H : Hp} {E : XK} {us : List Value} {vs : List V}
 (S : FnScope N ps scope) (hd : A.handled = none) (e0 : Env0 P w K mg base A outer s H) (hl : vs.length = ps.length) (r : Vals vs us)
 (x : InCallC s s.heap.objs.size (bindL (envOfC qual scope s.heap.objs.size f cd).kindOf (ps.zip us) fun _ => none) (cellsFrom (s.heap.objs.size + 1) scope.names []) (bindC (envOfC qual scope s.heap.objs.size f cd).kindOf (ps.zip us) fun _ => none) s1) :
 Inv (cxOf CX P w K mg base N qual scope f cd A outer s H E) [] (start N vs) H s1 := by
  have hpl : ps.length <= N.length := by have := congrArg List.length S.pre; rw [List.length_take] at this; omega
  obtain ⟨h1, tk, rfl, hk⟩ := x.done; have noA : ∀ b : Addr, b ∉ (cxOf CX P w K mg base N qual scope f cd A outer s H E).ex := fun b z => absurd (show b ∈ ([] : List Addr) from z) (by simp)
  refine ⟨⟨e0.mod, S.kind, rfl, rfl, Nat.le_refl _, fun y z c h1 h2 => ?_, fun y hy => ?_, fun y c _ h => ?_, fun _ => hd, Around.frames_deeper e0.frames, .inr ⟨rfl, rfl⟩, fun b z => absurd z (noA b), e0.bs, e0.bsz, fun b _ _ => noA b, fun b z => absurd z (noA b), e0.funs, e0.frf⟩,
    rfl, e0.bare, Un.kept hk, ⟨_, x.toInCall.ns, fun i y v h1 h2 h3 => ?_⟩, fun y c h => ⟨_, x.cell y c h⟩, e0.hok.fresh (Nat.le_refl _), fun y c h => ?_, fun p hp => absurd (show p ∈ ([] : List (Addr × Obj)) from hp) (by simp), e0.hok.kept hk, ?_⟩
  · exact name_of_addr x.apart (PySem.mem_of_lookup h1) (PySem.mem_of_lookup h2)
  · have hy : scope.names.lookup y = some .cell \/ scope.names.lookup y = some .free := hy
    rcases hy with hy | hy
    · exact cell_has hy
    · exact absurd rfl (S.nofree _ (PySem.mem_of_lookup hy))
  · exact Nat.le_of_lt (x.above y c (PySem.mem_of_lookup h))
  · have hi : i < vs.length := by
      unfold start at h2
      by_cases hi : i < vs.length
      · exact hi
      · rw [List.getElem?_append_right (by simpa using hi)] at h2
        rw [List.getElem?_replicate] at h2
        split at h2 <;> cases h2
    have ha : vs[i]? = some v := by
      unfold start at h2; rw [List.getElem?_append_left (by simpa using hi), List.getElem?_map] at h2
      cases e : vs[i]? with
      | none => rw [e] at h2; cases h2
      | some a => rw [e] at h2; cases h2; rfl
    obtain ⟨u, hu, rv⟩ := r.get ha; have hp : ps[i]? = some y := by
      rw [<- S.pre, List.getElem?_take_of_lt (by omega)]; exact h1
    have ndP : ps.Nodup := by rw [<- S.pre]; exact S.nd.sublist (List.take_sublist _ _)
    refine ⟨u, rv, ?_⟩
    rcases S.par y (List.mem_of_getElem? hp) with k | k
    · exact .inl ⟨k, bindL_get ndP hp hu k⟩
    · obtain ⟨c, e⟩ := cell_has (n := s.heap.objs.size + 1) k
      refine .inr ⟨.inl k, c, e, ?_⟩; have q := x.cell y c e; rw [bindC_get ndP hp hu (by show scope.names.lookup y ≠ _; rw [k]; decide)] at q; exact q
  · exact e0.hok.fresh (Nat.le_of_lt (x.above y c (PySem.mem_of_lookup h)))
  · unfold start
    show _ = N.length
    rw [List.length_append, List.length_map, List.length_replicate]; omega
theorem fn_of {CX : CXT} {P : Program} {w : World} {K : PySem.W.Frag} {mg : Str -> Option Value} {base : Heap} {k : Nat} {f : Addr} {name qual : Str} {params : Arguments} {body : List Stmt} {scope : Scope} {dV kV doc pm cdv ct oc : Value} {an od : Option Addr}
 {osl : Array (Option Value)} {N ps : List Str} {sp : Sp} (lk : K.lookup f = some ⟨oc, od, .func (PySem.W.fnOf name qual params body scope dV kV doc pm an cdv ct), osl⟩) (hcd : PySem.W.codeIn K cdv qual = true) (S : FnScope N ps scope)
 (len : ∀ vs H Q E, sp vs H Q E -> vs.length = ps.length)
 (hbody : ∀ (A : Around) (outer : List Env) (s : Shared) (H : Hp) (vs : List V) (Q : VK) (E : XK), Room k (A.deeper (envOfC qual scope s.heap.objs.size f cdv)) -> sp vs H Q E ->
 ∃ t, PSs (cxOf CX P w K mg base N qual scope f cdv A outer s H E) body t /\ t { nx := fun _ H' => Q .non H', rt := Q } (start N vs) H) :
 FnOk P w K mg base CX (k + 1) f (PySem.W.fnOf name qual params body scope dV kV doc pm an cdv ct) ps sp := by
  refine ⟨len, fun A outer s H args us vs Q E hr e0 hb r hsp => ?_⟩; have hl := len _ _ _ _ hsp; have KX : K.In s.heap := e0.mod.kin.keeps fun b o e => (e0.bs b o e).1
  have lim : s.heap.NoLimit := e0.mod.nolimit.keeps fun b o e => (e0.bs b o e).1
  have hkind : ∀ y ∈ ps.zip us, scope.names.lookup y.1 = some .local \/ (scope.names.lookup y.1 = some .cell /\ ((cellsFrom (s.heap.objs.size + 1) scope.names []).lookup y.1).isSome = true) := fun ⟨n, v⟩ hy => by
    rcases S.par n (List.of_mem_zip hy).1 with q | q
    · exact .inl q
    · exact .inr ⟨q, PySem.W.cellsFrom_some _ _ _ (.inl q)⟩
  refine codeAny_call_function hr.depth (KX _ _ lk) rfl S.co S.gen rfl (PySem.W.codeRec_of KX hcd) (hb _ _ _ _ ?_); refine wpAny_newFunctionEnv_cells S.kind hkind fun env he s1 x => ?_
  subst he; refine ⟨lim.keeps x.toInCall.keep, codeAny_func ?_⟩; obtain ⟨t, ht, hq⟩ := hbody A outer s H vs Q E (hr.deeper _) hsp; have I : Inv (cxOf CX P w K mg base N qual scope f cdv A outer s H E) [] (start N vs) H s1 := inv_start S hr.hd e0 hl r x; refine wpAny_mono (ht [] s1 (start N vs) H _ I hq) (fun fl s' hs => ?_) fun e s' hs => hs
  have fin : ∀ {σ' : St} {H' : Hp} {v : V} {u : Value}, Inv (cxOf CX P w K mg base N qual scope f cdv A outer s H E) [] σ' H' s' -> RelV v u -> Q v H' -> CE outer P w H s Q u s' :=
    fun {σ' H' v u} J rv q => ⟨v, H', J.os, J.bare, J.base, J.hok, rv, q⟩
  cases fl with
  | ret u =>
    obtain ⟨v, σ', H', J, rv, q⟩ := hs; exact fin J rv q
  | next =>
    obtain ⟨σ', H', J, q⟩ := hs; exact fin (v := V.non) (u := Value.none) J rfl q
  | brk =>
    obtain ⟨_, _, _, q⟩ := hs; exact False.elim q
  | cont =>
    obtain ⟨_, _, _, q⟩ := hs; exact False.elim q
section
variable {X : Cx} {x : Str} {p pos : Pos} {e : Expr} {es : List Expr} {t : TA} {id T : String} {r : List V -> Hp -> VK -> Prop}
def tCB (r : List V -> Hp -> VK -> Prop) (t : TA) : TE := fun σ H Q => t σ H fun vs H1 => r vs H1 Q
theorem pe_callB (hc : CallR X (.builtin id) r) (hg : Gl X x) (hm : X.mg x = none) (hv : bootBuiltins x = some (.builtin id)) (ha : PA X (e :: es) t) (hn : x ≠ "__name__" := by decide) (hdb : (x == ("__debug__" : Str)) = false := by decide)
 (he : starEach (e :: es) X.env = (false, eval e X.env) :: starEach es X.env := by rfl) (hpl : (backTo pos (starEach es X.env)).any (·.1) = false := by rfl) : PE X (.Call (.Name x p) (e :: es) [] pos) (tCB r t) := by
  intro pins s σ H Q I h; refine wpAny_Call_Name_kw (ld_blt I hg hm hv ?_ hn hdb); exact PyProof.Rows.callWith_builtin1 (thn (ha pos pins s σ H _ I h) fun us s1 ⟨vs, H1, I1, r1, q1⟩ => hc pins s1 σ H1 vs us Q I1 r1 q1) he hpl
end
end L2
namespace HT
open PySem PyProof.Rows
section
open PySem.SeqAt
open PySem.AutoSeq1 (wpAny_loadPart')
open PySem.MeetsSeq PySem.MeetsSeq2 PySem.MeetsSeq3
end
section
variable {prog : Program} {w : World} {A : Around} {E : Value -> Shared -> Prop} {s : Shared}
def sIx (n d : Nat) : Option Int -> Nat
  | none => d
  | some v => if v < 0 then (v + (n : Int)).toNat else min v.toNat n
end
end HT
namespace L2
open PySem PySem.Spec PyProof.Rows
abbrev TO := St -> Hp -> (Option Int -> Hp -> Prop) -> Prop
def PO (X : Cx) (e : Option Expr) (t : TO) : Prop :=
  ∀ (pins : List (Addr × Obj)) (s : Shared) (σ : St) (H : Hp) (Q : Option Int -> Hp -> Prop), Inv X pins σ H s -> t σ H Q ->
    wpAny (model X.prog X.w) X.A (evalPart e X.env) (fun u s' => ∃ o H', Inv X pins σ H' s' /\ IsPart u o /\ Q o H') X.xe s
section
variable {X : Cx} {e : Expr} {te : TE} {lo hi : Option Expr} {tl th : TO} {pos p2 : Pos}
end
def ixN (n : Nat) (i : Int) : Option Nat := if 0 <= i then (if i < n then some i.toNat else none) else if -(n : Int) <= i then some (i + n).toNat else none
def atI {α : Type} (xs : List α) (i : Int) : Option α := (ixN xs.length i).bind fun j => xs[j]?
theorem ixN_seq {n : Nat} {i : Int} {j : Nat} (h : ixN n i = some j) : seqIndex? i n = some j /\ j < n /\ -(n : Int) <= i /\ i < n := by
  unfold ixN at h
  by_cases h0 : 0 <= i
  · rw [if_pos h0] at h
    by_cases h1 : i < n
    · rw [if_pos h1] at h
      have e : i.toNat = j := Option.some.inj h; exact ⟨by rw [seqIndex_of h0 h1, e], by omega, by omega, h1⟩
    · rw [if_neg h1] at h; cases h
  · rw [if_neg h0] at h
    by_cases h1 : -(n : Int) <= i
    · rw [if_pos h1] at h
      have e : (i + n).toNat = j := Option.some.inj h; exact ⟨by rw [seqIndex_neg (by omega) h1, e], by omega, h1, by omega⟩
    · rw [if_neg h1] at h; cases h
theorem atI_get {α : Type} {xs : List α} {i : Int} {v : α} (h : atI xs i = some v) : ∃ j, seqIndex? i xs.length = some j /\ xs[j]? = some v /\ j < xs.length /\ -(xs.length : Int) <= i /\ i < xs.length := by
  unfold atI at h
  cases e : ixN xs.length i with
  | none => rw [e] at h; cases h
  | some j =>
    rw [e] at h; obtain ⟨h1, h2, h3, h4⟩ := ixN_seq e; exact ⟨j, h1, h, h2, h3, h4⟩
theorem atI_nat {α : Type} {xs : List α} {j : Nat} {v : α} (h : xs[j]? = some v) : atI xs (j : Int) = some v := by
  have hj : j < xs.length := (List.getElem?_eq_some_iff.mp h).1; have e : ixN xs.length (j : Int) = some j := by
    unfold ixN; rw [if_pos (by omega), if_pos (by omega)]; simp
  unfold atI; rw [e]; exact h
def PlainIx (b : Expr) : Prop := ∀ o i, subscripted b false o i = operate [o, i] (getItem o i)
def IxR (X : Cx) (r : R2) : Prop :=
  ∀ (value slice : Expr) (pins : List (Addr × Obj)) (s : Shared) (σ : St) (H : Hp) (x y : V) (v u : Value) (Q : VK), Inv X pins σ H s -> RelV x v -> RelV y u -> r x y H Q ->
    subscripted slice false v u = operate [v, u] (getItem v u) -> wpAny (model X.prog X.w) X.A (subscriptTail value slice v u) (EP X pins σ Q) X.xe s
def MtR (X : Cx) (id : String) (r : V -> List V -> Hp -> VK -> Prop) : Prop :=
  ∀ (pins : List (Addr × Obj)) (s : Shared) (σ : St) (H : Hp) (x : V) (xs : List V) (v : Value) (us : List Value) (Q : VK), Inv X pins σ H s -> RelV x v -> Vals xs us -> r x xs H Q ->
    wpAny (model X.prog X.w) X.A (call (.builtin id) (v :: us)) (EP X pins σ Q) X.xe s
section
variable {X : Cx} {a b : Expr} {ta tb : TE} {pos : Pos}
theorem IxR.or {r r' : R2} (h : IxR X r) (h' : IxR X r') : IxR X (fun x y H Q => r x y H Q \/ r' x y H Q) := by
  intro value slice pins s σ H x y v u Q I rx ry q hs
  rcases q with q | q
  · exact h value slice pins s σ H x y v u Q I rx ry q hs
  · exact h' value slice pins s σ H x y v u Q I rx ry q hs
theorem pe_ix {r : R2} (hr : IxR X r) (ha : PE X a ta) (hb : PE X b tb) (hs : PlainIx b) : PE X (.Subscript a b pos) (tOp r ta tb) := by
  intro pins s σ H Q I h; exact Subscript_ (binT ha hb I h fun v u s2 x y H2 I2 rx ry q => hr a b pins s2 σ H2 x y v u Q I2 rx ry q (hs _ _))
def rIxL (K : PySem.W.Frag) : R2 := fun x y H Q => ∃ p xs i v, x = .ref p /\ y = .int i /\ SqL K H p xs /\ atI xs i = some v /\ Q v H
def rIxT (K : PySem.W.Frag) : R2 := fun x y H Q => ∃ p xs i v, x = .ref p /\ y = .int i /\ SqT K H p xs /\ atI xs i = some v /\ Q v H
def rIxS : R2 := fun x y H Q => ∃ z i c, x = .str z /\ y = .int i /\ z.length <= sizeLine /\ atI z.cps.toList i = some c /\ Q (.str ⟨#[c]⟩) H
theorem ix_list : IxR X (rIxL X.K) := by
  intro value slice pins s σ H x y v u Q I rx ry h hs; obtain ⟨p, xs, i, z, rfl, rfl, hq, he, q⟩ := h; cases rx; obtain ⟨t, rfl⟩ := ry; obtain ⟨its, r, pl, hz⟩ := I.list hq; obtain ⟨j, h1, h2, h3, h4, h5⟩ := atI_get he; obtain ⟨w, ew, rw'⟩ := r.get h2; have hl := r.length; have hn := line63; have fin : EP X pins σ Q w s := ⟨z, H, I, rw', q⟩
  by_cases h0 : 0 <= i
  · have hj : i.toNat = j := by
      rw [seqIndex_of h0 h5] at h1; exact Option.some.inj h1
    exact item_listR pl.isList h0 (by omega) (by rw [hj]; simpa using ew) fin hs
  · have hj : (i + (its.toArray.size : Int)).toNat = j := by
      rw [seqIndex_neg (by omega) h4] at h1; rw [List.size_toArray, <- hl]; exact Option.some.inj h1
    exact subscriptTail_builtinR (x := w) pl.isList.typeIs slot_list_getitem.lookup
      (wpAny_getItem_list_neg (Q := fun r s' => r = w /\ EP X pins σ Q r s') pl.isList (by omega) (by rw [List.size_toArray] <;> omega) (by omega) (by rw [hj]; simpa using ew) ⟨rfl, fin⟩) hs
theorem ix_tup : IxR X (rIxT X.K) := by
  intro value slice pins s σ H x y v u Q I rx ry h hs; obtain ⟨p, xs, i, z, rfl, rfl, hq, he, q⟩ := h; cases rx; obtain ⟨t, rfl⟩ := ry; obtain ⟨its, r, pl, hz⟩ := I.tuple hq; obtain ⟨j, h1, h2, h3, h4, h5⟩ := atI_get he; obtain ⟨w, ew, rw'⟩ := r.get h2; have hl := r.length; have hn := line63; have fin : EP X pins σ Q w s := ⟨z, H, I, rw', q⟩; exact subscriptTail_builtinR (x := w) pl.typeIs slot_tuple_getitem.lookup
    (getItem_tuple (j := j) (Q := fun r s' => r = w /\ EP X pins σ Q r s') pl (by omega) (by omega) (by rw [List.size_toArray, <- hl]; exact h1) (by simpa using ew) ⟨rfl, fin⟩) hs
theorem ix_str : IxR X rIxS := by
  intro value slice pins s σ H x y v u Q I rx ry h hs; obtain ⟨z, i, c, rfl, rfl, hz, he, q⟩ := h; obtain ⟨t, rfl⟩ := rx; obtain ⟨t', rfl⟩ := ry; obtain ⟨j, h1, h2, h3, h4, h5⟩ := atI_get he; have hl : z.cps.toList.length = z.length := by simp [Str.length]
  rw [hl] at h1 h4 h5; have hn := line63
  exact tail_any (typeIs_str s z t) slot_str_getitem.lookup (getItem_str (c := c) (by
    have e1 : decide (i < -(2 ^ 63 : Int)) = false := decide_eq_false (by omega); have e2 : decide (i ≥ 2 ^ 63) = false := decide_eq_false (by omega)
    rw [e1, e2, Bool.or_false]) (by rw [h1]; simpa using h2) ⟨.str ⟨#[c]⟩, H, I.tok _, ⟨_, rfl⟩, q⟩) hs
def rIx (K : PySem.W.Frag) : R2 := fun x y H Q => rIxL K x y H Q \/ rIxT K x y H Q \/ rIxS x y H Q
theorem ix_seq : IxR X (rIx X.K) := ix_list.or (ix_tup.or ix_str)
theorem call_len_seq : CallR X (.builtin "len") (fun xs H Q => ∃ p ys, xs = [.ref p] /\ (SqL X.K H p ys \/ SqT X.K H p ys) /\ Q (.int ys.length) H) := by
  intro pins s σ H xs us Q I r h; obtain ⟨p, ys, rfl, hq, q⟩ := h; obtain ⟨u, rfl, rx⟩ := vals1 r; cases rx; have hn := line63
  rcases hq with hq | hq
  · obtain ⟨its, r', pl, hz⟩ := I.list hq
    have hlen := r'.length
    exact Calls.call_len_list pl.isList (by simp only [List.size_toArray] <;> omega) ⟨.int ys.length, H, I.tok _, ⟨s.toks + 1, by rw [List.size_toArray, hlen]⟩, q⟩
  · obtain ⟨its, r', pl, hz⟩ := I.tuple hq
    have hlen := r'.length
    exact len_tuple pl (by simp only [List.size_toArray] <;> omega) ⟨.int ys.length, H, I.tok _, ⟨s.toks + 1, by rw [List.size_toArray, hlen]⟩, q⟩
def tyV (K : PySem.W.Frag) (T : String) (x : V) (H : Hp) : Prop := match x with
  | .str _ => T = "str"
  | .int _ => T = "int"
  | .ref p => (T = "list" /\ ∃ xs, SqL K H p xs) \/ (T = "tuple" /\ ∃ o, K.lookup p = some o /\ o.cls = .type "tuple" /\ o.dict = none) \/
      (T = "dict" /\ ((∃ kvs, H p = some (.dK kvs)) \/ ∃ kvs, H p = some (.dT kvs))) \/ (T = "set" /\ ∃ S n, H p = some (.set S n))
  | _ => False
theorem tyV_is {pins : List (Addr × Obj)} {σ : St} {H : Hp} {s : Shared} {T : String} {x : V} {v : Value} (I : Inv X pins σ H s) (r : RelV x v) (ty : tyV X.K T x H) :
 s.TypeIs v T /\ ∀ a, v = .ref a -> ∃ ob, s.heap.get? a = some ob /\ ob.dict = none := by
  cases x with
  | str z =>
    obtain ⟨t, rfl⟩ := r; cases (show T = "str" from ty); exact ⟨typeIs_str s z t, fun _ e => nomatch e⟩
  | int i =>
    obtain ⟨t, rfl⟩ := r; cases (show T = "int" from ty); exact ⟨typeIs_int s i t, fun _ e => nomatch e⟩
  | ref p =>
    cases r
    rcases ty with ⟨rfl, xs, hq⟩ | ⟨rfl, o, hk, hc, hd⟩ | ⟨rfl, hk⟩ | ⟨rfl, S, n, hk⟩
    · obtain ⟨its, _, pl, _⟩ := I.list hq
      refine ⟨pl.isList.typeIs, fun a e => ?_⟩; cases e; obtain ⟨o, n, e, c, hd, _⟩ := pl; exact ⟨o, e, hd⟩
    · refine ⟨⟨o, I.kIn p o hk, hc⟩, fun a e => ?_⟩
      cases e; exact ⟨o, I.kIn _ o hk, hd⟩
    · have z : ∃ o, s.heap.get? p = some o /\ o.ExactDict := by
        rcases hk with ⟨kvs, hk⟩ | ⟨kvs, hk⟩
        · obtain ⟨_, _, _, _, o, _, _, e, ex, _⟩ := I.hok p _ hk
          exact ⟨o, e, ex⟩
        · obtain ⟨_, _, _, _, o, _, _, e, ex, _⟩ := I.hok p _ hk
          exact ⟨o, e, ex⟩
      obtain ⟨o, e, ex⟩ := z; refine ⟨⟨o, e, ex.1⟩, fun a e2 => ?_⟩; cases e2; exact ⟨o, e, ex.2.1⟩
    · obtain ⟨o, _, _, _, e, ex, _⟩ := I.hok p _ hk
      refine ⟨⟨o, e, ex.1⟩, fun a e2 => ?_⟩; cases e2; exact ⟨o, e, ex.2.1⟩
  | _ => exact False.elim ty
def tBM (K : PySem.W.Frag) (T : String) (r : V -> List V -> Hp -> VK -> Prop) (to : TE) (t : TA) : TE := fun σ H Q => to σ H fun x H1 => tyV K T x H1 /\ t σ H1 fun xs H2 => r x xs H2 Q
variable {o e : Expr} {es : List Expr} {to : TE} {t : TA} {name : Str} {apos cpos : Pos} {T id : String} {r : V -> List V -> Hp -> VK -> Prop}
theorem pe_bm (pa : PlainAttrs T) (slot : Slot T name id) (hty : typeOf (.builtin id) = pure (.type "method_descriptor")) (hm : MtR X id r) (ho : PE X o to) (ha : PA X (e :: es) t)
 (hbase : attributeBase o name X.env (eval o X.env) = eval o X.env := by rfl)
 (hfew : ((backTo cpos (starEach (e :: es) X.env)).all (fun x => !x.1) && (backToKw cpos (keywordEach [] X.env)).all (fun x => x.1.isSome)
 && decide ((e :: es).length + ([] : List Keyword).length + (if ([] : List Keyword).isEmpty then 0 else 1) < 30)) = true := by rfl)
 (hline : (apos.endLine == cpos.line) = true := by rfl) (hs : starEach (e :: es) X.env = (false, eval e X.env) :: starEach es X.env := by rfl) (hplain : (backTo cpos (starEach es X.env)).any (·.1) = false := by rfl) :
 PE X (.Call (.Attribute o name apos) (e :: es) [] cpos) (tBM X.K T r to t) := by
  intro pins s σ H Q I h; refine wpAny_Call_method_late hbase hfew hline rfl (thn (ho pins s σ H _ I h) fun v s1 ⟨x, H1, I1, r1, ty, q1⟩ => ?_); obtain ⟨h1, h2⟩ := tyV_is I1 r1 ty; refine ⟨T, id, pa, slot, hty, h1, h2, ?_⟩; have hA := ha cpos pins s1 σ H1 _ I1 q1; rw [hs] at hA ⊢
  refine Calls.callWith_builtin (by show (false || (backTo cpos (starEach es X.env)).any (·.1)) = false; rw [hplain] <;> rfl) (Calls.evalArgs_plain ?_); exact thn hA fun us s2 ⟨vs, H2, I2, r2, q2⟩ => hm pins s2 σ H2 x vs v us Q I2 r1 r2 q2
end
def MtM (X : Cx) (id : String) (r : V -> List V -> Hp -> VK -> Prop) : Prop :=
  ∀ (pins : List (Addr × Obj)) (s : Shared) (σ : St) (H : Hp) (x : V) (xs : List V) (v : Value) (us : List Value) (Q : VK), Inv X pins σ H s -> RelV x v -> Vals xs us -> r x xs H Q ->
    wpAny (model X.prog X.w) X.A (call (.builtin id) (v :: us)) (EP X pins σ Q) X.xe s
theorem Vals.one : ∀ {x : V} {us : List Value}, Vals [x] us -> ∃ u, us = [u] /\ RelV x u
  | _, _, .cons r .nil => ⟨_, rfl, r⟩
section
variable {X : Cx} {pins : List (Addr × Obj)} {σ : St} {H : Hp} {s : Shared} {l b : Addr} {xs ys zs : List V}
theorem Inv.lset {its its' : List Value} {n : Nat} {f : Array Value -> Array Value} {t' : Nat} (I : Inv X pins σ H s) (hH : H l = some (.lst xs))
 (e : s.heap.get? l = some { cls := .type "list", data := .seq its.toArray n }) (hf : f its.toArray = its'.toArray) (hv : Vals ys its') (hz : ys.length <= sizeLine) :
 Inv X pins σ (upd H l (.lst ys)) { s with heap := s.heap.update l (Obj.mapSeq f), toks := t' } := by
  have q := PySem.IsL.update e f; rw [hf] at q; refine I.write (x := l) (e := l) (by rw [hH]; exact trivial) (.inl rfl) (fun b' u hb hu => (Heap.get?_update_other s.heap (Obj.mapSeq f) (Ne.symm hb)).trans hu) ⟨_, q⟩ ?_; exact ⟨hz, its', _, hv, q⟩
theorem Inv.lnew {its : List Value} {t' : Nat} (I : Inv X pins σ H s) (hv : Vals ys its) (hz : ys.length <= sizeLine) :
 Inv X pins σ (upd H s.heap.objs.size (.lst ys)) { s with heap := s.heap.push { cls := .type "list", data := .seq its.toArray }, toks := t' } :=
  I.laid (fun _ _ q => Heap.get?_push_of_some _ q) (Nat.le_refl _) ⟨hz, its, 0, hv, Heap.get?_push_size _ rfl⟩
theorem Inv.fresh (I : Inv X pins σ H s) : H s.heap.objs.size = none := I.hok.fresh (Nat.le_refl _)
theorem Inv.lstM (I : Inv X pins σ H s) (hH : H l = some (.lst xs)) : xs.length <= sizeLine /\ ∃ (its : List Value) (n : Nat), Vals xs its /\ xs.length = its.length /\ s.heap.get? l = some { cls := .type "list", data := .seq its.toArray n } := by
  obtain ⟨z, its, n, r, e⟩ := I.hok l _ hH; exact ⟨z, its, n, r, r.length, e⟩
end
section
variable {X : Cx}
def rAppend : V -> List V -> Hp -> VK -> Prop := fun x vs H Q => ∃ l xs y, x = .ref l /\ vs = [y] /\ H l = some (.lst xs) /\ xs.length < sizeLine /\ Q .non (upd H l (.lst (xs ++ [y])))
theorem mt_append : MtM X "list.append" rAppend := by
  intro pins s σ H x vs v us Q I rx rv h; obtain ⟨l, xs, y, rfl, rfl, hH, hz, q⟩ := h; cases rx; obtain ⟨u, rfl, ru⟩ := rv.one; obtain ⟨z, its, n, r, hl, e⟩ := I.lstM hH; refine call_meets F.slot_list_append ⟨_, e, rfl⟩ F.entry_list_append (F.args_list_append_2 _ _) (PySem.list_append l its.toArray n u (by rw [List.size_toArray]; omega)) ⟨e, ?_⟩; refine ⟨.non, _, I.lset (its' := its ++ [u]) hH e (by simp) (r.append (.cons ru .nil)) ?_, rfl, q⟩; rw [List.length_append, List.length_singleton]; omega
end
section
variable {prog : Program} {w : World} {A : Around} {E : Value -> Shared -> Prop} {s : Shared}
set_option maxRecDepth 100000 in
end
section
variable {X : Cx}
end
section
variable {κ : Type} [DecidableEq κ]
end
theorem kV_is {P : Program} {w : World} {k : Key} {u : Value} (r : RelV (kV k) u) : (mixKind P w).is k u = true := by
  cases k with
  | inl i => obtain ⟨t, e⟩ := (show ∃ t, u = Value.int i t from r); subst e; exact mixKind_int P w i t
  | inr x => obtain ⟨t, e⟩ := (show ∃ t, u = Value.str x t from r); subst e; exact mixKind_str P w x t
theorem items_are {P : Program} {w : World} : ∀ {ks : List Key} {us : List Value}, Vals (ks.map kV) us -> ItemsAre (mixKind P w) ks us
  | [], _, r => by rw [List.map_nil] at r; cases r; exact .nil
  | k :: ks, _, r => by
    rw [List.map_cons] at r
    cases r with
    | cons h t => exact .cons (kV_is h) (items_are t)
abbrev KT (H : Hp) : List (List Key × V) -> List (List Key × Addr × Value) -> Prop := Paired fun p q => p.1 = q.1 /\ H q.2.1 = some (.tup (p.1.map kV)) /\ RelV p.2 q.2.2
section
variable {P : Program} {w : World} {H : Hp} {h : Heap} {a : Addr}
theorem rd_of {u : HO} (ok : HOk P w H h) (e : Rd H a u) : ObjOk P w H h a u := e.ok ok
theorem dk_rd {kvs : List (Key × V)} (ok : HOk P w H h) (e : Rd H a (.dK kvs)) : kvs.length <= sizeLine /\ (a == sysModules) = false /\ ∃ vs, KV kvs vs /\ h.DictOf (mixKind P w) a vs :=
  show ObjOk P w H h a (.dK kvs) from rd_of ok e
theorem key_of {ks : List Key} (ok : HOk P w H h) (e : H a = some (.tup (ks.map kV))) : (tupleKind (mixKind P w)).is h ks a := by
  obtain ⟨_, its, r, o, h1, h2, n, h3⟩ := (show ObjOk P w H h a (.tup (ks.map kV)) from ok a _ e); exact ⟨o, its.toArray, n, h1, h2, h3, by simpa using items_are r⟩
theorem dt_rd {kvs : List (List Key × V)} (ok : HOk P w H h) (e : Rd H a (.dT kvs)) : kvs.length <= sizeLine /\ (a == sysModules) = false /\
 ∃ xs, KT H kvs xs /\ h.DictOfH (tupleKind (mixKind P w)) a xs := by
  obtain ⟨z, y, xs, r, o, es, ep, h1, h2, h3, h4, h5⟩ := (show ObjOk P w H h a (.dT kvs) from rd_of ok e); refine ⟨z, y, xs, r, o, es, ep, h1, h2, h3, h4, fun x hx => ?_, h5⟩; have all : ∀ {l : List (List Key × V)} {m : List (List Key × Addr × Value)}, KT H l m -> ∀ x ∈ m, (tupleKind (mixKind P w)).is h x.1 x.2.1 := by
    intro l m q
    induction q with
    | nil => intro x hx; exact nomatch hx
    | @cons p q ps qs hq t ih =>
      intro x hx
      rcases List.mem_cons.mp hx with e | hx
      · subst e
        exact key_of ok (by rw [<- hq.1]; exact hq.2.1)
      · exact ih x hx
  exact all r x hx
end
section
variable {X : Cx} {pins : List (Addr × Obj)} {σ : St} {H : Hp} {s : Shared} {a : Addr} {y v : V} {u r : Value} {o : Option V} {A : Around} {E : Value -> Shared -> Prop}
end
section
variable {X : Cx} {pins : List (Addr × Obj)} {σ : St} {H : Hp} {s : Shared} {a : Addr} {kvs : List (Key × V)} {k : Key} {u : Value} {A : Around} {E : Value -> Shared -> Prop}
end
section
variable {X : Cx} {o i e value : Expr} {pos pos' tpos : Pos} {td ty tv : TE}
end
section
variable {X : Cx} {pos : Pos}
end
structure M1 (X : Cx) (o : Expr) (m : Str) (apos : Pos) (e : Expr) (cpos : Pos) : Prop where
  base : attributeBase o m X.env (eval o X.env) = eval o X.env
  few : ((backTo cpos (starEach [e] X.env)).all (fun x => !x.1) && (backToKw cpos (keywordEach [] X.env)).all (fun x => x.1.isSome)
    && decide (([e] : List Expr).length + ([] : List Keyword).length + (if ([] : List Keyword).isEmpty then 0 else 1) < 30)) = true
  line : (apos.endLine == cpos.line) = true
  trees : backTo cpos (starEach [e] X.env) = [(false, eval e X.env)]
structure M2 (X : Cx) (o : Expr) (m : Str) (apos : Pos) (e f : Expr) (cpos : Pos) : Prop where
  base : attributeBase o m X.env (eval o X.env) = eval o X.env
  few : ((backTo cpos (starEach [e, f] X.env)).all (fun x => !x.1) && (backToKw cpos (keywordEach [] X.env)).all (fun x => x.1.isSome)
    && decide (([e, f] : List Expr).length + ([] : List Keyword).length + (if ([] : List Keyword).isEmpty then 0 else 1) < 30)) = true
  line : (apos.endLine == cpos.line) = true
  trees : backTo cpos (starEach [e, f] X.env) = [(false, eval e X.env), (false, eval f X.env)]
section
variable {X : Cx} {pins : List (Addr × Obj)} {σ : St} {H : Hp} {s : Shared} {a : Addr} {y d : V} {u r : Value} {o : Option V} {A : Around} {E : Value -> Shared -> Prop}
end
section
variable {X : Cx} {o e f : Expr} {apos cpos : Pos} {td ty tx : TE}
end
section
variable {X : Cx} {pins : List (Addr × Obj)} {σ : St} {H : Hp} {s : Shared} {a : Addr} {kvs : List (Key × V)} {A : Around} {E : Value -> Shared -> Prop}
end
section
variable {X : Cx} {pins : List (Addr × Obj)} {σ : St} {H : Hp} {s : Shared} {a : Addr} {y : V} {u : Value} {A : Around} {E : Value -> Shared -> Prop}
end
end L2
namespace Att
open PySem PySem.W PySem.Calls PyProof.Rows
theorem ints_of_wellAll {P : Params} {h : Heap} : ∀ (ns : List Int) (vs : List Value), WellAll P h vs (ns.map WData.int) -> IntsAre vs ns := by
  intro ns
  induction ns with
  | nil =>
    intro vs w; rw [List.map_nil] at w; cases w; exact .nil
  | cons n ns ih =>
    intro vs w; rw [List.map_cons] at w
    cases w with
    | cons a b =>
      cases a; exact .cons _ _ (ih _ b)
theorem script_of {l : OpenLaw} {n : Nat} (hn : l.most = some n) {P : Params} {h : Heap} {args : List WData} {vals : List Value}
 (hpre : l.row.toRowW.claim.pre args = true) (hwl : WellAll P h vals args) :
 ∃ a vs ns, vals = [Value.ref a] /\ args = [WData.list (ns.map WData.int)] /\ h.get? a = some { cls := .type "list", data := .seq vs.toArray } /\ IntsAre vs ns /\ ns.length <= n := by
  have hsh : WShape.hasAll [] args [.list .int] = true := (pre_splitW hpre).1; have hc : l.pre.holds [] { args := args } = true := (pre_splitW hpre).2; obtain ⟨d, r, rfl, h1, h2⟩ := hasAllW_cons hsh; obtain rfl := hasAllW_nil h2; obtain ⟨xs, rfl, h3⟩ := hasW_list h1; obtain ⟨ns, rfl⟩ := items_int h3; have hlen : ns.length <= n := by
    unfold OpenLaw.pre at hc; have h4 : (WTm.not (.lt (.lit (.int (n : Int))) (.len (.arg 0)))).holds [] { args := [.list (ns.map .int)] } = true := by
      have h4 := (holds_andW hc).1; rw [hn] at h4; exact h4
    have h5 := condW_of h4 (w_not (w_lt w_lit (w_len_list (w_arg rfl)))); rw [List.length_map] at h5; refine Nat.le_of_not_lt fun q => ?_
    have q' : (n : Int) < ((ns.length : Nat) : Int) := by omega
    first
      | (rw [decide_eq_true q'] at h5; exact absurd h5 (by decide))
      | (simp at h5; omega)
  cases hwl with
  | cons w1 w2 =>
    cases w2
    cases w1 with
    | list ho hall => exact ⟨_, _, ns, rfl, rfl, ho, ints_of_wellAll ns _ hall, hlen⟩
theorem post_true (l : OpenLaw) (args : List WData) : l.row.toRowW.claim.post args (.bool true) args = true :=
  postW_of (r := l.row.toRowW) (X := (true == true))
    (show WShape.has [] (.bool true) .bool = true by first | rfl | decide | simp [WShape.has, WShape.arms, WShape.armsAll])
    (show (WTm.eq .res (.lit (.bool true))).value [] { args := args, res := some (.bool true), after := args } = some (.bool (true == true)) from w_eq_bool (w_res rfl) w_lit) rfl
theorem attach_call {l : OpenLaw} {n : Nat} {q : Program} {loose : List Str} {XP : (Str -> Option Value) -> Heap -> Prop} {YP : World -> Heap -> Prop} {d : DefRec}
 (hn : l.most = some n) (hdf : d.params.defaults = [])
 (call : ∀ (w : World) (s₀ s₁ : Shared) (mg mb : Str -> Option Value) (fa : Addr) (o : Obj) (pm cd doc : Value) (a : Addr) (vs : List Value) (ns : List Int),
 Ground q loose [] XP w s₀ mg mb s₁.heap -> YP w s₁.heap ->
 s₁.heap.get? fa = some o -> o.data = .func (docDef d.name d.params d.body d.scope pm cd doc) -> s₁.heap.CodeRec cd d.name -> mg d.name = some (.ref fa) ->
 s₁.heap.get? a = some { cls := .type "list", data := .seq vs.toArray } -> IntsAre vs ns -> ns.length <= n -> s₁.gens = #[] ->
 codeAny (model l.prog w) callerA (.call (.ref fa) ⟨[.ref a], []⟩) (fun r s' => r = .ok (.ret (.bool true)) /\ OldK s₁.heap s'.heap /\ s'.os = s₁.os /\ AllBare s'.gens) s₁) :
 WalkO q loose XP YP l.row.toRowW d [] (fun f vs => PySem.call f vs) := by
  intro w s₀ s₁ mg mb G Y fa o pm cd doc dV kV ho hd hcd hD hmg hg args vals as hpre hlay hrd hwl hlo; obtain rfl : dV = .none := Dflts.none hD hdf; obtain rfl : kV = .none := Dflts.noKw hD; obtain ⟨a, vs, ns, rfl, rfl, hobj, hints, hlen⟩ := script_of hn hpre hwl; refine enter_call (codeAny_mono (call w s₀ s₁ mg mb fa o pm cd doc a vs ns G Y ho (fd_plain hd) hcd hmg hobj hints hlen hg) fun r s' hq => ?_); obtain ⟨rfl, h2, h3, h4⟩ := hq; exact ⟨.inl ⟨.bool true, .bool true, [], rfl, fun _ => rfl, .bool true, post_true l _, fun _ => ⟨List.Pairwise.nil, fun _ hm => (nomatch hm)⟩⟩, h2, h3, h4⟩
section
variable {prog : Program} {w : World} {A : Around} {E : Value -> Shared -> Prop} {s : Shared} {K : Frag}
def ledger (h : Heap) (L d : Addr) : List (Addr × Obj) := (List.range h.objs.size).filterMap fun a => if a = L \/ a = d then none else (h.get? a).map fun o => (a, o)
end
end Att
namespace L2
open PySem PySem.Spec PyProof.Rows
theorem vals_ints : ∀ {vs : List Value} {ns : List Int}, IntsAre vs ns -> Vals (ns.map V.int) vs
  | _, _, .nil => .nil
  | _, _, .cons n t h => .cons ⟨t, rfl⟩ (vals_ints h)
def Only (H : Hp) : Prop := ∀ b, H b = none \/ ∃ o xs, H b = some (.frz o (.lst xs))
theorem law_call {P : Program} {w : World} {K : PySem.W.Frag} {mg mb : Str -> Option Value} {CX : CXT} {k : Nat} {fa a : Addr} {fd : FuncData} {x : Str} {sp : Sp} {s₁ : Shared} {vs : List Value} {ns : List Int}
 (KX : K.In s₁.heap) (hns : s₁.heap.Ns mainGlobals mg) (hb : s₁.heap.Ns builtinsNs mb) (hbb : ∀ x : Str, x ≠ "__name__" -> mb x = bootBuiltins x) (hlim : s₁.heap.NoLimit) (hg : s₁.gens = #[])
 (ha : s₁.heap.get? a = some { cls := .type "list", data := .seq vs.toArray }) (hi : IntsAre vs ns) (hl : ns.length <= sizeLine) (hr : Room k callerA)
 (F : ∀ base : Heap, K.In base -> base.Ns mainGlobals mg -> FnOk P w K mg base CX k fa fd [x] sp) (hbind : ∀ (s : Shared) (u : Value), BindsTo s fd ⟨[u], []⟩ [(x, u)])
 (hsp : ∀ H : Hp, Only H -> SqL K H a (ns.map V.int) -> sp [.ref a] H (fun v _ => v = .bl true) fun _ _ _ => False)
 (hCX : ∀ H e s', CX [] H s₁ (fun _ _ _ => False) e s' -> False) :
 codeAny (model P w) callerA (.call (.ref fa) ⟨[.ref a], []⟩) (fun r s' => r = .ok (.ret (.bool true)) /\ OldK s₁.heap s'.heap /\ s'.os = s₁.os /\ AllBare s'.gens) s₁ := by
  have rv := vals_ints hi; have lenV := hi.length; have core : ∀ H : Hp, Only H -> SqL K H a (ns.map V.int) -> HOk P w H s₁.heap -> (∀ b, H b ≠ none -> b = a) -> (H a ≠ none -> K.lookup a = none) ->
      codeAny (model P w) callerA (.call (.ref fa) ⟨[.ref a], []⟩) (fun r s' => r = .ok (.ret (.bool true)) /\ OldK s₁.heap s'.heap /\ s'.os = s₁.os /\ AllBare s'.gens) s₁ := by
    intro H hO hS hok hA hK; have base_of : ∀ {b : Addr} {o : Obj}, s₁.heap.get? b = some o -> H b = none -> (hidT s₁.heap H).get? b = some o := fun e n => hidT_get e n
    have noA : ∀ {b : Addr} {o : Obj} {es : Array DictEntry} {ep : Nat}, s₁.heap.get? b = some o -> o.data = .dict es ep -> H b = none := fun {b o es ep} e d => by
      cases q : H b with
      | none => rfl
      | some u =>
        have e' : b = a := hA b (by rw [q]; simp); subst e'; rw [ha] at e; cases e; have d' : Data.seq vs.toArray _ = Data.dict es ep := d; cases d'
    have nsK : ∀ {b : Addr} {m : Str -> Option Value}, s₁.heap.Ns b m -> (hidT s₁.heap H).Ns b m := fun {b m} ⟨o, es, ep, e, d, r⟩ => ⟨o, es, ep, base_of e (noA e d), d, r⟩
    have hKb : K.In (hidT s₁.heap H) := fun b o e => base_of (KX b o e) (by
      cases q : H b with
      | none => rfl
      | some u =>
        have e' : b = a := hA b (by rw [q]; simp); subst e'
        rw [hK (by rw [q]; simp)] at e; cases e)
    have hM : Mod K mg (hidT s₁.heap H) := ⟨hKb, nsK hns, ⟨mb, nsK hb, hbb⟩, let ⟨mc, h1, h2⟩ := hlim; ⟨mc, nsK h1, h2⟩⟩; have e0 : Env0 P w K mg (hidT s₁.heap H) callerA [] s₁ H := ⟨rfl, hM, fun b o e => of_hidT e, Nat.le_of_eq (hidT_size _ _), trivial, fun b hb => absurd (show b ∈ ([] : List Addr) from hb) (by simp), hok, .of_eq hg⟩; refine codeAny_mono ((F _ hKb (nsK hns)).run callerA [] s₁ H ⟨[.ref a], []⟩ [.ref a] [.ref a] _ _ hr e0 (hbind s₁ (.ref a)) (.cons rfl .nil) (hsp H hO hS)) fun r s' h => ?_
    cases r with
    | error e => exact (hCX H e s' h).elim
    | ok fl =>
      cases fl with
      | next => exact False.elim h
      | brk => exact False.elim h
      | cont => exact False.elim h
      | ret u =>
        obtain ⟨v, H', os, bare, un, hok', r', q⟩ := h; have q' : v = .bl true := q; subst q'; obtain rfl : u = Value.bool true := r'; refine ⟨rfl, OldK.of_keep fun b o e => ?_, os, bare⟩
        cases q : H b with
        | none => exact un.keep b o e q (by intro z; exact absurd (show b ∈ ([] : List Addr) from z) (by simp)) (by simp)
        | some u =>
          rcases hO b with z | ⟨ob, xs, z⟩
          · rw [q] at z; cases z
          · have z2 := un.frzs b ob _ z
            obtain ⟨e1, _⟩ := hok b _ z; obtain ⟨e2, _⟩ := hok' b _ z2; rw [e] at e1; cases e1; exact e2
  cases hk : K.lookup a with
  | some o =>
    have e := KX a o hk; rw [ha] at e; cases e; refine core (fun _ => none) (fun _ => .inl rfl) (.inr ⟨_, vs.toArray, _, hk, rfl, rfl, rfl, by rw [List.size_toArray, lenV]; exact hl, by simpa using rv⟩) (fun b u z => by have z' : (none : Option HO) = some u := z; cases z') (fun b z => absurd rfl z) fun z => absurd rfl z
  | none =>
    refine core (fun b => if b = a then some (.frz { cls := .type "list", data := .seq vs.toArray } (.lst (ns.map V.int))) else none) (fun b => ?_) (.inl (.inr ⟨{ cls := .type "list", data := .seq vs.toArray }, if_pos rfl⟩)) (fun b u z => ?_) (fun b z => ?_) fun _ => hk
    · by_cases hb : b = a
      · exact .inr ⟨_, _, if_pos hb⟩
      · exact .inl (if_neg hb)
    · by_cases hb : b = a
      · have z' := (if_pos hb).symm.trans z
        cases z'; subst hb; exact ⟨ha, by rw [List.length_map]; exact hl, vs, _, rv, ha⟩
      · have z' := (if_neg hb).symm.trans z
        cases z'
    · by_cases hb : b = a
      · exact hb
      · exact absurd (if_neg hb) z
theorem walk_of {l : PySem.W.OpenLaw} {n k : Nat} {q : Program} {loose : List Str} {XP : (Str -> Option Value) -> Heap -> Prop} {YP : World -> Heap -> Prop} {d : DefRec} {K : Params -> PySem.W.Frag} {CX : World -> CXT} {sp : World -> Sp} {x : Str}
 (hn : l.most = some n) (hn2 : n <= sizeLine) (hdf : d.params.defaults = []) (hr : Room k callerA)
 (hY : ∀ (w : World) (h : Heap), YP w h -> (K w.params).In h)
 (F : ∀ (w : World) (mg : Str -> Option Value) (fa : Addr) (h : Heap), (K w.params).In h -> h.Ns mainGlobals mg -> mg d.name = some (.ref fa) ->
 ∃ fd : FuncData, (∀ (s : Shared) (u : Value), BindsTo s fd ⟨[u], []⟩ [(x, u)]) /\
 ∀ base : Heap, (K w.params).In base -> base.Ns mainGlobals mg -> FnOk l.prog w (K w.params) mg base (CX w) k fa fd [x] (sp w))
 (hsp : ∀ (w : World) (H : Hp) (a : Addr) (ns : List Int), ns.length <= n -> Only H -> SqL (K w.params) H a (ns.map V.int) -> sp w [.ref a] H (fun v _ => v = .bl true) fun _ _ _ => False)
 (hCX : ∀ (w : World) (H : Hp) (s : Shared) (e : Value) (s' : Shared), CX w [] H s (fun _ _ _ => False) e s' -> False) :
 PySem.W.WalkO q loose XP YP l.row.toRowW d [] (fun f vs => PySem.call f vs) := by
  refine Att.attach_call hn hdf fun w s₀ s₁ mg mb fa o pm cd doc a vs ns G Y ho hd hcd hmg hobj hints hlen hg => ?_
  have KX := hY w _ Y; obtain ⟨fd, hb, hF⟩ := F w mg fa _ KX G.T.g hmg; exact law_call KX G.T.g G.T.b G.T.builtins G.T.nolimit hg hobj hints (Nat.le_trans hlen hn2) hr hF hb (fun H hO hS => hsp w H a ns hlen hO hS) fun H e s' => hCX w H s₁ e s'
def inClass (s : Stmt) (j : Nat) : Stmt := match s with
  | .ClassDef _ _ _ body _ _ _ _ _ _ _ => body.getD j (.Pass ⟨0, 0, 0, 0⟩)
  | _ => .Pass ⟨0, 0, 0, 0⟩
def defArgs (s : Stmt) : Arguments := match s with
  | .FunctionDef _ a _ _ _ _ _ _ _ _ => a
  | _ => { posonlyargs := [], args := [], vararg := none, kwonlyargs := [], kw_defaults := [], kwarg := none, defaults := [] }
def defBody (s : Stmt) : List Stmt := match s with
  | .FunctionDef _ _ b _ _ _ _ _ _ _ => b
  | _ => []
def defScope (s : Stmt) : Scope := match s with
  | .FunctionDef _ _ _ _ _ _ sc _ _ _ => sc
  | _ => { kind := .function, names := [], isGenerator := false, isCoroutine := false }
abbrev CX0 : CXT := fun _ _ _ _ _ _ => False
abbrev E0 : XK := fun _ _ _ => False
structure Fun (K : PySem.W.Frag) (x qual : Str) (st : Stmt) (f : Addr) (fd : FuncData) : Prop where
  ex : ∃ (oc : Value) (od : Option Addr) (kV doc pm : Value) (an : Option Addr) (cdv ct : Value) (osl : Array (Option Value)),
    fd = PySem.W.fnOf x qual (defArgs st) (defBody st) (defScope st) .none kV doc pm an cdv ct /\ K.lookup f = some ⟨oc, od, .func fd, osl⟩ /\ PySem.W.codeIn K cdv qual = true
  kp : PySem.W.keepIn K (.ref f) = true
section
variable {P : Program} {w : World} {K : PySem.W.Frag} {mg : Str -> Option Value} {base : Heap}
theorem Fun.ok {x qual : Str} {st : Stmt} {f : Addr} {fd : FuncData} {N ps : List Str} {k : Nat} {sp : Sp} (F : Fun K x qual st f fd) (S : FnScope N ps (defScope st)) (len : ∀ vs H Q E, sp vs H Q E -> vs.length = ps.length)
 (hbody : ∀ (cdv : Value) (A : Around) (outer : List Env) (s : Shared) (H : Hp) (vs : List V) (Q : VK) (E : XK), Room k (A.deeper (envOfC qual (defScope st) s.heap.objs.size f cdv)) -> sp vs H Q E ->
 ∃ t, PSs (cxOf CX0 P w K mg base N qual (defScope st) f cdv A outer s H E).nox (defBody st) t /\ t { nx := fun _ H' => Q .non H', rt := Q } (start N vs) H) : FnOk P w K mg base CX0 (k + 1) f fd ps sp := by
  obtain ⟨oc, od, kV, doc, pm, an, cdv, ct, osl, rfl, lk, hcd⟩ := F.ex; refine fn_of lk hcd S len fun A outer s H vs Q E hr hsp => ?_
  obtain ⟨t, h, q⟩ := hbody cdv A outer s H vs Q E hr hsp; exact ⟨t, h.nox, q⟩
theorem Fun.binds {x qual : Str} {st : Stmt} {f : Addr} {fd : FuncData} {ps : List Str} (F : Fun K x qual st f fd)
 (h : ∀ (kV doc pm : Value) (an : Option Addr) (cdv ct : Value) (us : List Value), us.length = ps.length -> bindArgs (PySem.W.fnOf x qual (defArgs st) (defBody st) (defScope st) .none kV doc pm an cdv ct) ⟨us, []⟩ = pure (ps.zip us)) : Binds K fd ps [] := by
  obtain ⟨oc, od, kV, doc, pm, an, cdv, ct, osl, rfl, lk, hcd⟩ := F.ex; exact .all (h kV doc pm an cdv ct)
theorem fun_mk {x qual : Str} {st : Stmt} {f : Addr} {oc : Value} {od an : Option Addr} {osl : Array (Option Value)} {kV doc pm cdv ct : Value} (l : K.lookup f = some ⟨oc, od, .func (PySem.W.fnOf x qual (defArgs st) (defBody st) (defScope st) .none kV doc pm an cdv ct), osl⟩)
 (c : PySem.W.codeIn K cdv qual = true) (k : PySem.W.keepIn K (.ref f) = true) : Fun K x qual st f (PySem.W.fnOf x qual (defArgs st) (defBody st) (defScope st) .none kV doc pm an cdv ct) := ⟨⟨oc, od, kV, doc, pm, an, cdv, ct, osl, rfl, l, c⟩, k⟩
end
theorem small1000 {n : Nat} (h : n <= 1000) : n < sizeLine := Nat.lt_of_le_of_lt h (by decide)
section
variable {X : Cx}
theorem pv (i : Nat) {x : Str} {pos : Pos} (hN : X.N[i]? = some x := by rfl) (hv : Vis X.env.scope x := by first | exact Or.inl rfl | exact Or.inr (Or.inl rfl) | exact Or.inr (Or.inr rfl)) (hd : (x == ("__debug__" : Str)) = false := by decide)
 (hcd : (x == ("__classdict__" : Str)) = false := by decide) : PE X (.Name x pos) (tVar i) := pe_var hN hv hd hcd
end
def Same (H H' : Hp) : Prop := ∀ b o, H b = some o -> H' b = some o
theorem Same.refl (H : Hp) : Same H H := fun _ _ h => h
theorem Same.trans {H H1 H2 : Hp} (a : Same H H1) (b : Same H1 H2) : Same H H2 := fun c o h => b c o (a c o h)
theorem Same.seq {K : PySem.W.Frag} {H H' : Hp} {a : Addr} {xs : List V} (e : Same H H') (h : SqL K H a xs) : SqL K H' a xs := by
  rcases h with (h | ⟨o, h⟩) | h
  · exact .inl (.inl (e _ _ h))
  · exact .inl (.inr ⟨o, e _ _ h⟩)
  · exact .inr h
end L2
set_option maxHeartbeats 4000000
namespace T
open PySem PyProof.Rows
structure Ord (prog : Program) (w : World) (A : Around) (s : Shared) (κ : SortKind) (S : Keyed -> Prop) (lt : Keyed -> Keyed -> Bool) : Prop where
  run : ∀ x y, S x -> S y -> ∀ (E : Value -> Shared -> Prop) (Q : Bool -> Shared -> Prop), Q (lt x y) s -> wpAny (model prog w) A (keyLt' κ x.1 y.1) Q E s
  asym : ∀ x y, S x -> S y -> lt x y = true -> lt y x = false
  le : ∀ x y z, S x -> S y -> S z -> lt y x = false -> lt z y = false -> lt z x = false
section
variable {prog : Program} {w : World} {A : Around} {E : Value -> Shared -> Prop} {s : Shared} {κ : SortKind} {S : Keyed -> Prop} {lt : Keyed -> Keyed -> Bool}
def bs (byd : Nat -> StateT SortSt Sem (Option Bool)) (n lo₀ hi₀ : Nat) : StateT SortSt Sem (Option Nat) := do
  let mut lo := lo₀
  let mut hi := hi₀
  for _ in [0:n] do
    if lo ≥ hi then break
    let m := lo + (hi - lo) / 2
    let some up <- byd m | return none
    if up then lo := m + 1 else hi := m
  return some hi
end
structure Mc (lt : Keyed -> Keyed -> Bool) (a b out : List Keyed) (ia ib : Nat) : Prop where
  perm : (out ++ (a.drop ia ++ b.drop ib)).Perm (a ++ b)
  srt : out.Pairwise fun x y => lt y x = false
  low : ∀ x ∈ out, ∀ y ∈ a.drop ia ++ b.drop ib, lt y x = false
structure Ends (lt : Keyed -> Keyed -> Bool) (a b r : List Keyed) : Prop where
  perm : r.Perm (a ++ b)
  srt : r.Pairwise fun x y => lt y x = false
section
variable {lt : Keyed -> Keyed -> Bool} {a b out : List Keyed} {ia ib : Nat}
end
structure KeepSt (st st' : SortSt) : Prop where
  k : kindOf st' = kindOf st
  a : arrOf st' = arrOf st
  p : pendingOf st' = pendingOf st
  f : failedOf st' = failedOf st
section
variable {prog : Program} {w : World} {A : Around} {E : Value -> Shared -> Prop} {s : Shared} {κ : SortKind} {S : Keyed -> Prop} {lt : Keyed -> Keyed -> Bool}
structure Mf (S : Keyed -> Prop) (lt : Keyed -> Keyed -> Bool) (a b : Array Keyed) : Prop where
  Sa : ∀ i (h : i < a.size), S a[i]
  Sb : ∀ i (h : i < b.size), S b[i]
  sa : ∀ i j (hi : i < a.size) (hj : j < a.size), i <= j -> lt a[j] a[i] = false
  sb : ∀ i j (hi : i < b.size) (hj : j < b.size), i <= j -> lt b[j] b[i] = false
variable {a b out : Array Keyed} {ia ib : Nat}
end
section
variable {prog : Program} {w : World} {A : Around} {E : Value -> Shared -> Prop} {s : Shared} {κ : SortKind} {S : Keyed -> Prop} {lt : Keyed -> Keyed -> Bool}
end
section
variable {prog : Program} {w : World} {A : Around} {E : Value -> Shared -> Prop} {s : Shared} {κ : SortKind} {S : Keyed -> Prop} {lt : Keyed -> Keyed -> Bool} {a b out : Array Keyed} {na nb : Nat}
end
section
variable {prog : Program} {w : World} {A : Around} {E : Value -> Shared -> Prop} {s : Shared} {κ : SortKind} {S : Keyed -> Prop} {lt : Keyed -> Keyed -> Bool}
end
structure Bs (κ : SortKind) (S : Keyed -> Prop) (st : SortSt) : Prop where
  k : kindOf st = κ
  f : failedOf st = none
  S : ∀ x ∈ (arrOf st).toList, S x
section
variable {prog : Program} {w : World} {A : Around} {E : Value -> Shared -> Prop} {s : Shared} {κ : SortKind} {S : Keyed -> Prop} {lt : Keyed -> Keyed -> Bool}
end
section
variable {prog : Program} {w : World} {A : Around} {E : Value -> Shared -> Prop} {s : Shared} {κ : SortKind} {S : Keyed -> Prop} {lt : Keyed -> Keyed -> Bool}
end
section
variable {prog : Program} {w : World} {A : Around} {E : Value -> Shared -> Prop} {s : Shared} {κ : SortKind} {S : Keyed -> Prop} {lt : Keyed -> Keyed -> Bool}
end
inductive Pend : Nat -> List (Nat × Nat × Nat) -> List (List Keyed) -> Prop where
  | nil {o : Nat} : Pend o [] []
  | cons {o p : Nat} {r : List Keyed} {ps : List (Nat × Nat × Nat)} {rs : List (List Keyed)} (h : Pend (o + r.length) ps rs) : Pend o ((o, r.length, p) :: ps) (r :: rs)
section
variable {prog : Program} {w : World} {A : Around} {E : Value -> Shared -> Prop} {s : Shared} {κ : SortKind} {S : Keyed -> Prop} {lt : Keyed -> Keyed -> Bool}
structure Rn (κ : SortKind) (S : Keyed -> Prop) (lt : Keyed -> Keyed -> Bool) (a₀ : List Keyed) (st : SortSt) (runs : List (List Keyed)) (rest : List Keyed) : Prop where
  b : Bs κ S st
  perm : (arrOf st).toList.Perm a₀
  arr : (arrOf st).toList = runs.flatten ++ rest
  pend : Pend 0 (pendingOf st).toList runs
  srt : ∀ r ∈ runs, r.Pairwise (fun x y => lt y x = false) /\ 0 < r.length
end
section
variable {prog : Program} {w : World} {A : Around} {E : Value -> Shared -> Prop} {s : Shared} {κ : SortKind} {S : Keyed -> Prop} {lt : Keyed -> Keyed -> Bool} {a₀ : List Keyed} {st : SortSt} {runs : List (List Keyed)} {rest : List Keyed}
end
end T
namespace M
open PySem PySem.Spec PyProof.Rows L2
def ExcAt (a C : Addr) (h : Heap) : Prop := ∃ o, h.get? a = some o /\ o.cls = .ref C
def ExcDct (a C dx : Addr) (h : Heap) : Prop := ∃ o, h.get? a = some o /\ o.cls = .ref C /\ (∀ c, o.data ≠ .cls c) /\ o.dict = some dx
def DctIs (dx : Addr) (fs : List (Str × V)) (h : Heap) : Prop := ∃ mA, h.Ns1 dx mA /\ (∀ f, RelO (fs.lookup f) (mA f)) /\ PySem.Within mA (fs.map (·.1))
def ExcRep (H : Hp) (a C : Addr) : Option (List (Str × V)) -> Prop
  | none => H a = some (.ext (ExcAt a C))
  | some fs => ∃ dx, dx ≠ a /\ H a = some (.ext (ExcDct a C dx)) /\ H dx = some (.ext (DctIs dx fs))
theorem ExcRep.to {H H' : Hp} {a C : Addr} {o : Option (List (Str × V))} (e : ∀ b φ, H b = some (.ext φ) -> H' b = some (.ext φ)) (h : ExcRep H a C o) : ExcRep H' a C o := by
  cases o with
  | none => exact e _ _ h
  | some fs => obtain ⟨dx, n, h1, h2⟩ := h; exact ⟨dx, n, e _ _ h1, e _ _ h2⟩
inductive D where
  | non | bl (b : Bool) | int (i : Int) | str (x : Str) | tup (xs : List D) | lst (xs : List D)
  | dK (kvs : List (Key × D)) | dT (kvs : List (List Key × D)) | adr (p : Addr) | exc (C : Addr) (o : Option (List (Str × V)))
mutual
def Rep (K : PySem.W.Frag) (H : Hp) : D -> V -> Prop
  | .non, v => v = .non
  | .bl b, v => v = .bl b
  | .int i, v => v = .int i
  | .str x, v => v = .str x
  | .adr p, v => v = .ref p
  | .exc C o, v => ∃ a, v = .ref a /\ ExcRep H a C o
  | .tup xs, v => ∃ a vs, v = .ref a /\ H a = some (.tup vs) /\ Reps K H xs vs
  | .lst xs, v => ∃ a vs, v = .ref a /\ SqL K H a vs /\ Reps K H xs vs
  | .dK kvs, v => ∃ a kws, v = .ref a /\ Rd H a (.dK kws) /\ RepK K H kvs kws
  | .dT kvs, v => ∃ a kws, v = .ref a /\ Rd H a (.dT kws) /\ RepT K H kvs kws
def Reps (K : PySem.W.Frag) (H : Hp) : List D -> List V -> Prop
  | [], vs => vs = []
  | d :: ds, vs => ∃ v r, vs = v :: r /\ Rep K H d v /\ Reps K H ds r
def RepK (K : PySem.W.Frag) (H : Hp) : List (Key × D) -> List (Key × V) -> Prop
  | [], ws => ws = []
  | (k, d) :: r, ws => ∃ v q, ws = (k, v) :: q /\ Rep K H d v /\ RepK K H r q
def RepT (K : PySem.W.Frag) (H : Hp) : List (List Key × D) -> List (List Key × V) -> Prop
  | [], ws => ws = []
  | (k, d) :: r, ws => ∃ v q, ws = (k, v) :: q /\ Rep K H d v /\ RepT K H r q
end
theorem same_rd {H H' : Hp} {a : Addr} {u : HO} (e : Same H H') (h : Rd H a u) : Rd H' a u := h.elim (fun z => .inl (e _ _ z)) fun ⟨o, z⟩ => .inr ⟨o, e _ _ z⟩
mutual
theorem Rep.mono {K : PySem.W.Frag} {H H' : Hp} (e : Same H H') : ∀ (d : D) (v : V), Rep K H d v -> Rep K H' d v
  | .non, v, h => by simpa only [Rep] using h
  | .bl b, v, h => by simpa only [Rep] using h
  | .int i, v, h => by simpa only [Rep] using h
  | .str x, v, h => by simpa only [Rep] using h
  | .adr x, v, h => by simpa only [Rep] using h
  | .exc C o, v, h => by
    simp only [Rep] at h ⊢; obtain ⟨a, h1, h2⟩ := h; exact ⟨a, h1, h2.to fun b φ q => e _ _ q⟩
  | .tup xs, v, h => by
    simp only [Rep] at h ⊢; obtain ⟨a, vs, h1, h2, h3⟩ := h; exact ⟨a, vs, h1, e _ _ h2, Reps.mono e xs vs h3⟩
  | .lst xs, v, h => by
    simp only [Rep] at h ⊢; obtain ⟨a, vs, h1, h2, h3⟩ := h; exact ⟨a, vs, h1, e.seq h2, Reps.mono e xs vs h3⟩
  | .dK kvs, v, h => by
    simp only [Rep] at h ⊢; obtain ⟨a, vs, h1, h2, h3⟩ := h; exact ⟨a, vs, h1, same_rd e h2, RepK.mono e kvs vs h3⟩
  | .dT kvs, v, h => by
    simp only [Rep] at h ⊢; obtain ⟨a, vs, h1, h2, h3⟩ := h; exact ⟨a, vs, h1, same_rd e h2, RepT.mono e kvs vs h3⟩
theorem Reps.mono {K : PySem.W.Frag} {H H' : Hp} (e : Same H H') : ∀ (ds : List D) (vs : List V), Reps K H ds vs -> Reps K H' ds vs
  | [], vs, h => by simpa only [Reps] using h
  | d :: ds, vs, h => by
    simp only [Reps] at h ⊢; obtain ⟨v, r, h1, h2, h3⟩ := h; exact ⟨v, r, h1, Rep.mono e d v h2, Reps.mono e ds r h3⟩
theorem RepK.mono {K : PySem.W.Frag} {H H' : Hp} (e : Same H H') : ∀ (ds : List (Key × D)) (vs : List (Key × V)), RepK K H ds vs -> RepK K H' ds vs
  | [], vs, h => by simpa only [RepK] using h
  | (k, d) :: ds, vs, h => by
    simp only [RepK] at h ⊢; obtain ⟨v, r, h1, h2, h3⟩ := h; exact ⟨v, r, h1, Rep.mono e d v h2, RepK.mono e ds r h3⟩
theorem RepT.mono {K : PySem.W.Frag} {H H' : Hp} (e : Same H H') : ∀ (ds : List (List Key × D)) (vs : List (List Key × V)), RepT K H ds vs -> RepT K H' ds vs
  | [], vs, h => by simpa only [RepT] using h
  | (k, d) :: ds, vs, h => by
    simp only [RepT] at h ⊢; obtain ⟨v, r, h1, h2, h3⟩ := h; exact ⟨v, r, h1, Rep.mono e d v h2, RepT.mono e ds r h3⟩
end
section
variable {K : PySem.W.Frag} {H : Hp}
theorem Reps.length : ∀ {ds : List D} {vs : List V}, Reps K H ds vs -> ds.length = vs.length
  | [], vs, h => by simp only [Reps] at h; subst h; rfl
  | d :: ds, vs, h => by
    simp only [Reps] at h; obtain ⟨v, r, rfl, _, h3⟩ := h; simp [Reps.length h3]
theorem Reps.get : ∀ {ds : List D} {vs : List V} {i : Nat} {d : D}, Reps K H ds vs -> ds[i]? = some d -> ∃ v, vs[i]? = some v /\ Rep K H d v
  | [], _, _, _, _, e => by simp at e
  | d :: ds, vs, 0, d', h, e => by
    simp only [Reps] at h; obtain ⟨v, r, rfl, h2, h3⟩ := h; simp at e; subst e; exact ⟨v, rfl, h2⟩
  | d :: ds, vs, i + 1, d', h, e => by
    simp only [Reps] at h; obtain ⟨v, r, rfl, h2, h3⟩ := h
    simpa using Reps.get h3 (by simpa using e)
theorem Reps.getV : ∀ {ds : List D} {vs : List V} {i : Nat} {v : V}, Reps K H ds vs -> vs[i]? = some v -> ∃ d, ds[i]? = some d /\ Rep K H d v
  | [], vs, _, _, h, e => by simp only [Reps] at h; subst h; simp at e
  | d :: ds, vs, 0, d', h, e => by
    simp only [Reps] at h; obtain ⟨v, r, rfl, h2, h3⟩ := h; simp at e; subst e; exact ⟨d, rfl, h2⟩
  | d :: ds, vs, i + 1, d', h, e => by
    simp only [Reps] at h; obtain ⟨v, r, rfl, h2, h3⟩ := h
    simpa using Reps.getV h3 (by simpa using e)
theorem Reps.cons {d : D} {v : V} {ds : List D} {vs : List V} (h : Rep K H d v) (t : Reps K H ds vs) : Reps K H (d :: ds) (v :: vs) := by
  simp only [Reps]; exact ⟨v, vs, rfl, h, t⟩
theorem Reps.nil : Reps K H [] [] := by simp only [Reps]
theorem Reps.append : ∀ {ds es : List D} {vs ws : List V}, Reps K H ds vs -> Reps K H es ws -> Reps K H (ds ++ es) (vs ++ ws)
  | [], es, vs, ws, h, k => by simp only [Reps] at h; subst h; exact k
  | d :: ds, es, vs, ws, h, k => by
    simp only [Reps] at h; obtain ⟨v, r, rfl, h2, h3⟩ := h; exact Reps.cons h2 (Reps.append h3 k)
theorem Reps.ints : ∀ (ns : List Int), Reps K H (ns.map D.int) (ns.map V.int)
  | [] => Reps.nil
  | n :: ns => Reps.cons (by simp only [Rep]) (Reps.ints ns)
theorem Reps.ints_inv : ∀ {ns : List Int} {vs : List V}, Reps K H (ns.map D.int) vs -> vs = ns.map V.int
  | [], vs, h => by simp only [List.map_nil, Reps] at h; exact h
  | n :: ns, vs, h => by
    simp only [List.map_cons, Reps, Rep] at h; obtain ⟨v, r, rfl, h2, h3⟩ := h; rw [h2, Reps.ints_inv h3]; rfl
end
inductive Sl where
  | un | fr (d : D) | ow (d : D) | lk (p : Addr) (d : D)
def Own (K : PySem.W.Frag) (G H : Hp) (p : Addr) : D -> Prop
  | .lst ds => ∃ vs, H p = some (.lst vs) /\ Reps K G ds vs
  | .dK kvs => ∃ kws, H p = some (.dK kws) /\ RepK K G kvs kws
  | .dT kvs => ∃ kws, H p = some (.dT kws) /\ RepT K G kvs kws
  | _ => False
theorem Own.mono {K : PySem.W.Frag} {G G' H H' : Hp} {p : Addr} {d : D} (h : Own K G H p d) (e : Same G G') (k : H' p = H p) : Own K G' H' p d := by
  cases d with
  | lst ds => obtain ⟨vs, h1, h2⟩ := h; exact ⟨vs, k.trans h1, Reps.mono e _ _ h2⟩
  | dK ds => obtain ⟨vs, h1, h2⟩ := h; exact ⟨vs, k.trans h1, RepK.mono e _ _ h2⟩
  | dT ds => obtain ⟨vs, h1, h2⟩ := h; exact ⟨vs, k.trans h1, RepT.mono e _ _ h2⟩
  | _ => exact h.elim
def Soft : HO -> Prop
  | .lst _ => True
  | .dK _ => True
  | .dT _ => True
  | _ => False
theorem Own.soft {K : PySem.W.Frag} {G H : Hp} {p : Addr} {d : D} (h : Own K G H p d) : ∃ o, H p = some o /\ Soft o := by
  cases d with
  | lst ds => obtain ⟨vs, h1, h2⟩ := h; exact ⟨_, h1, True.intro⟩
  | dK ds => obtain ⟨vs, h1, h2⟩ := h; exact ⟨_, h1, True.intro⟩
  | dT ds => obtain ⟨vs, h1, h2⟩ := h; exact ⟨_, h1, True.intro⟩
  | _ => exact h.elim
theorem Own.rep {K : PySem.W.Frag} {G G' H : Hp} {p : Addr} {d : D} (h : Own K G H p d) (e : Same G G') (k : G' p = H p) : Rep K G' d (.ref p) := by
  cases d with
  | lst ds => obtain ⟨vs, h1, h2⟩ := h; simp only [Rep]; exact ⟨p, vs, rfl, SqL.of (k.trans h1), Reps.mono e _ _ h2⟩
  | dK ds => obtain ⟨vs, h1, h2⟩ := h; simp only [Rep]; exact ⟨p, vs, rfl, .inl (k.trans h1), RepK.mono e _ _ h2⟩
  | dT ds => obtain ⟨vs, h1, h2⟩ := h; simp only [Rep]; exact ⟨p, vs, rfl, .inl (k.trans h1), RepT.mono e _ _ h2⟩
  | _ => exact h.elim
def Sl.mine : Sl -> Prop
  | .ow _ => True
  | .lk _ _ => True
  | _ => False
def At (σ : L2.St) (δ : List Sl) (i : Nat) (p : Addr) : Prop := ∃ l, δ[i]? = some l /\ l.mine /\ σ[i]? = some (some (.ref p))
structure Hs (K : PySem.W.Frag) (H0 : Hp) (σ : L2.St) (δ : List Sl) (G H : Hp) : Prop where
  len : σ.length = δ.length
  base : Same H0 G
  ex : ∀ b, (G b = H b /\ ∀ i, ¬ At σ δ i b) \/ (G b = none /\ ∃ i, At σ δ i b)
  fr : ∀ (i : Nat) d, δ[i]? = some (.fr d) -> ∃ v, σ[i]? = some (some v) /\ Rep K G d v
  ow : ∀ (i : Nat) d, δ[i]? = some (.ow d) -> ∃ p, σ[i]? = some (some (.ref p)) /\ Own K G H p d
  lk : ∀ (i : Nat) p d, δ[i]? = some (.lk p d) -> σ[i]? = some (some (.ref p)) /\ Own K G H p d
  ne : ∀ i j p, At σ δ i p -> At σ δ j p -> i = j
section
variable {K : PySem.W.Frag} {H0 : Hp} {σ : L2.St} {δ : List Sl} {G H : Hp}
theorem Hs.sub (h : Hs K H0 σ δ G H) : Same G H := fun b o e => by
  rcases h.ex b with ⟨q, _⟩ | ⟨q, _⟩
  · rw [<- q]; exact e
  · rw [q] at e; cases e
theorem Hs.soft (h : Hs K H0 σ δ G H) {i : Nat} {p : Addr} (a : At σ δ i p) : ∃ o, H p = some o /\ Soft o := by
  obtain ⟨l, e1, e2, e3⟩ := a
  cases l with
  | ow d =>
    obtain ⟨q, e4, o⟩ := h.ow i d e1; rw [e3] at e4; cases e4; exact o.soft
  | lk q d =>
    obtain ⟨e4, o⟩ := h.lk i q d e1; rw [e3] at e4; cases e4; exact o.soft
  | _ => exact e2.elim
theorem Hs.hard (h : Hs K H0 σ δ G H) {b : Addr} {o : HO} (e : H b = some o) (n : ¬ Soft o) : G b = some o /\ ∀ i, ¬ At σ δ i b := by
  rcases h.ex b with ⟨q, a⟩ | ⟨q, i, a⟩
  · exact ⟨q.trans e, a⟩
  · obtain ⟨o', e', s⟩ := h.soft a
    rw [e] at e'; cases e'; exact absurd s n
theorem Hs.start {ds : List D} {vs : List V} (h : Reps K H0 ds vs) (n : Nat) : Hs K H0 (vs.map some ++ List.replicate n none) (ds.map Sl.fr ++ List.replicate n .un) H0 H0 := by
  have na : ∀ i p, ¬ At (vs.map some ++ List.replicate n none) (ds.map Sl.fr ++ List.replicate n .un) i p := by
    rintro i p ⟨l, e1, e2, _⟩; have hm := List.mem_of_getElem? e1
    rcases List.mem_append.mp hm with hm | hm
    · obtain ⟨d, _, rfl⟩ := List.mem_map.mp hm
      exact e2
    · have := List.eq_of_mem_replicate hm
      subst this; exact e2
  have fr_at : ∀ (i : Nat) l, (ds.map Sl.fr ++ List.replicate n .un)[i]? = some l -> l = .un \/ ∃ d, l = .fr d /\ ds[i]? = some d := by
    intro i l e
    by_cases hi : i < ds.length
    · rw [List.getElem?_append_left (by simpa using hi), List.getElem?_map] at e
      cases q : ds[i]? with
      | none => rw [q] at e; cases e
      | some d => rw [q] at e; exact .inr ⟨d, (Option.some.inj e).symm, rfl⟩
    · rw [List.getElem?_append_right (by simpa using Nat.le_of_not_lt hi)] at e
      exact .inl (List.eq_of_mem_replicate (List.mem_of_getElem? e))
  refine ⟨by simp [h.length], Same.refl _, fun b => .inl ⟨rfl, fun i => na i b⟩, fun i d e => ?_, fun i d e => ?_, fun i p es e => ?_, fun i j p a _ => absurd a (na i p)⟩
  · rcases fr_at i _ e with z | ⟨d', z, q⟩
    · cases z
    · cases z
      obtain ⟨v, e1, r⟩ := h.get q; refine ⟨v, ?_, r⟩; have hi : i < vs.length := (List.getElem?_eq_some_iff.mp e1).1; rw [List.getElem?_append_left (by simpa using hi), List.getElem?_map, e1]; rfl
  · rcases fr_at i _ e with z | ⟨d', z, q⟩ <;> cases z
  · rcases fr_at i _ e with z | ⟨d', z, q⟩ <;> cases z
end
section
variable {K : PySem.W.Frag} {H0 : Hp} {σ : L2.St} {δ : List Sl} {G H : Hp}
theorem At.lt {i : Nat} {p : Addr} (a : At σ δ i p) : i < δ.length := by
  obtain ⟨l, e, _⟩ := a; exact (List.getElem?_eq_some_iff.mp e).1
theorem at_set {i j : Nat} {p : Addr} {v : Option V} {l : Sl} (n : j ≠ i) : At (σ.set i v) (δ.set i l) j p ↔ At σ δ j p := by
  unfold At; rw [List.getElem?_set_ne (Ne.symm n), List.getElem?_set_ne (Ne.symm n)]
theorem at_setD {i j : Nat} {p : Addr} {l : Sl} (n : j ≠ i) : At σ (δ.set i l) j p ↔ At σ δ j p := by
  unfold At; rw [List.getElem?_set_ne (Ne.symm n)]
theorem at_self {i : Nat} {p : Addr} {v : Option V} {l : Sl} (a : At (σ.set i v) (δ.set i l) i p) : l.mine /\ v = some (.ref p) := by
  obtain ⟨l', e1, e2, e3⟩ := a; have h1 : i < (δ.set i l).length := (List.getElem?_eq_some_iff.mp e1).1; have h2 : i < (σ.set i v).length := (List.getElem?_eq_some_iff.mp e3).1; rw [List.length_set] at h1 h2; rw [List.getElem?_set_self h1] at e1; rw [List.getElem?_set_self h2] at e3; cases e1; exact ⟨e2, Option.some.inj e3⟩
theorem at_selfD {i : Nat} {p : Addr} {l : Sl} (a : At σ (δ.set i l) i p) : l.mine := by
  obtain ⟨l', e1, e2, e3⟩ := a; have h1 : i < (δ.set i l).length := (List.getElem?_eq_some_iff.mp e1).1; rw [List.length_set] at h1; rw [List.getElem?_set_self h1] at e1; cases e1; exact e2
theorem Hs.freeze (h : Hs K H0 σ δ G H) {i : Nat} {d : D} (e : δ[i]? = some (.ow d)) : ∃ G', Hs K H0 σ (δ.set i (.fr d)) G' H /\ Same G G' /\ ∃ p, σ[i]? = some (some (.ref p)) /\ Rep K G' d (.ref p) := by
  obtain ⟨p, e1, o⟩ := h.ow i d e; have ai : At σ δ i p := ⟨_, e, True.intro, e1⟩; have hi : i < δ.length := ai.lt; obtain ⟨ob, eo, _⟩ := o.soft; have gp : G p = none := by
    rcases h.ex p with ⟨_, z⟩ | ⟨z, _⟩
    · exact absurd ai (z i)
    · exact z
  have s1 : Same G (upd G p ob) := fun b u q => by rw [upd_ne (ne_of_none q gp)]; exact q
  have r : Rep K (upd G p ob) d (.ref p) := o.rep s1 (by rw [upd_same, eo]); refine ⟨upd G p ob, ⟨by rw [List.length_set]; exact h.len, h.base.trans s1, fun b => ?_, fun j d' q => ?_, fun j d' q => ?_, fun j q' es q => ?_, fun j k b a1 a2 => ?_⟩, s1, p, e1, r⟩
  · by_cases hb : b = p
    · subst hb
      refine .inl ⟨by rw [upd_same, eo], fun j a => ?_⟩
      by_cases hj : j = i
      · subst hj; exact at_selfD a
      · exact hj (h.ne _ _ _ ((at_setD hj).mp a) ai)
    · rcases h.ex b with ⟨z1, z2⟩ | ⟨z1, j, z2⟩
      · refine .inl ⟨by rw [upd_ne hb]; exact z1, fun j a => ?_⟩
        by_cases hj : j = i
        · subst hj; exact at_selfD a
        · exact z2 j ((at_setD hj).mp a)
      · have hj : j ≠ i := fun z => hb (by
          subst z; obtain ⟨_, _, _, w⟩ := z2
          rw [e1] at w; cases w; rfl)
        exact .inr ⟨by rw [upd_ne hb]; exact z1, j, (at_setD hj).mpr z2⟩
  · by_cases hj : j = i
    · subst hj
      rw [List.getElem?_set_self hi] at q; cases q; exact ⟨_, e1, r⟩
    · rw [List.getElem?_set_ne (Ne.symm hj)] at q
      obtain ⟨v, w1, w2⟩ := h.fr j d' q; exact ⟨v, w1, Rep.mono s1 _ _ w2⟩
  · by_cases hj : j = i
    · subst hj
      rw [List.getElem?_set_self hi] at q; cases q
    · rw [List.getElem?_set_ne (Ne.symm hj)] at q
      obtain ⟨v, w1, w2⟩ := h.ow j d' q; exact ⟨v, w1, w2.mono s1 rfl⟩
  · by_cases hj : j = i
    · subst hj
      rw [List.getElem?_set_self hi] at q; cases q
    · rw [List.getElem?_set_ne (Ne.symm hj)] at q
      obtain ⟨w1, w2⟩ := h.lk j q' es q; exact ⟨w1, w2.mono s1 rfl⟩
  · have hj : j ≠ i := fun z => by subst z; exact at_selfD a1
    have hk : k ≠ i := fun z => by subst z; exact at_selfD a2
    exact h.ne j k b ((at_setD hj).mp a1) ((at_setD hk).mp a2)
theorem Hs.put0 (h : Hs K H0 σ δ G H) {i : Nat} {l : Sl} {d : D} {v : V} (e : δ[i]? = some l) (nm : ¬ l.mine) (r : Rep K G d v) : Hs K H0 (σ.set i (some v)) (δ.set i (.fr d)) G H := by
  have hi : i < δ.length := (List.getElem?_eq_some_iff.mp e).1; have his : i < σ.length := by rw [h.len]; exact hi
  have na : ∀ p, ¬ At σ δ i p := fun p ⟨l', e1, e2, _⟩ => by rw [e] at e1; cases e1; exact nm e2
  have na' : ∀ p, ¬ At (σ.set i (some v)) (δ.set i (.fr d)) i p := fun p a => (at_self a).1
  refine ⟨by rw [List.length_set, List.length_set]; exact h.len, h.base, fun b => ?_, fun j d' q => ?_, fun j d' q => ?_, fun j q' es q => ?_, fun j k b a1 a2 => ?_⟩
  · rcases h.ex b with ⟨z1, z2⟩ | ⟨z1, j, z2⟩
    · refine .inl ⟨z1, fun j a => ?_⟩
      by_cases hj : j = i
      · subst hj; exact na' b a
      · exact z2 j ((at_set hj).mp a)
    · have hj : j ≠ i := fun z => by subst z; exact na b z2
      exact .inr ⟨z1, j, (at_set hj).mpr z2⟩
  · by_cases hj : j = i
    · subst hj
      rw [List.getElem?_set_self hi] at q; cases q; exact ⟨v, List.getElem?_set_self his, r⟩
    · rw [List.getElem?_set_ne (Ne.symm hj)] at q ⊢
      exact h.fr j d' q
  · by_cases hj : j = i
    · subst hj
      rw [List.getElem?_set_self hi] at q; cases q
    · rw [List.getElem?_set_ne (Ne.symm hj)] at q ⊢
      exact h.ow j d' q
  · by_cases hj : j = i
    · subst hj
      rw [List.getElem?_set_self hi] at q; cases q
    · rw [List.getElem?_set_ne (Ne.symm hj)] at q ⊢
      exact h.lk j q' es q
  · have hj : j ≠ i := fun z => by subst z; exact na' b a1
    have hk : k ≠ i := fun z => by subst z; exact na' b a2
    exact h.ne j k b ((at_set hj).mp a1) ((at_set hk).mp a2)
def Sl.locked : Sl -> Bool
  | .lk _ _ => true
  | _ => false
theorem Hs.put (h : Hs K H0 σ δ G H) {i : Nat} {l : Sl} {d : D} {v : V} (e : δ[i]? = some l) (nl : l.locked = false) (r : Rep K G d v) : ∃ G', Hs K H0 (σ.set i (some v)) (δ.set i (.fr d)) G' H /\ Same G G' := by
  cases l with
  | lk p d' => cases nl
  | un => exact ⟨G, h.put0 e (fun z => z) r, Same.refl _⟩
  | fr d' => exact ⟨G, h.put0 e (fun z => z) r, Same.refl _⟩
  | ow d' =>
    have hi : i < δ.length := (List.getElem?_eq_some_iff.mp e).1; obtain ⟨G', h', s, _⟩ := h.freeze e; have := h'.put0 (i := i) (d := d) (v := v) (List.getElem?_set_self hi) (fun z => z) (Rep.mono s _ _ r); rw [List.set_set] at this; exact ⟨G', this, s⟩
theorem at_cons {i : Nat} {p : Addr} {v : Option V} {l : Sl} : At (v :: σ) (l :: δ) (i + 1) p ↔ At σ δ i p := by
  unfold At; simp
theorem at_zero {p : Addr} {v : Option V} {l : Sl} : At (v :: σ) (l :: δ) 0 p ↔ l.mine /\ v = some (.ref p) := by
  unfold At; simp
theorem Hs.drop {v : Option V} {l : Sl} (h : Hs K H0 (v :: σ) (l :: δ) G H) (nm : ¬ l.mine) : Hs K H0 σ δ G H := by
  refine ⟨by simpa using h.len, h.base, fun b => ?_, fun j d' q => ?_, fun j d' q => ?_, fun j q' es q => ?_, fun j k b a1 a2 => ?_⟩
  · rcases h.ex b with ⟨z1, z2⟩ | ⟨z1, j, z2⟩
    · exact .inl ⟨z1, fun j a => z2 (j + 1) (at_cons.mpr a)⟩
    · cases j with
      | zero => exact absurd (at_zero.mp z2).1 nm
      | succ j => exact .inr ⟨z1, j, at_cons.mp z2⟩
  · simpa using h.fr (j + 1) d' (by simpa using q)
  · simpa using h.ow (j + 1) d' (by simpa using q)
  · simpa using h.lk (j + 1) q' es (by simpa using q)
  · have := h.ne (j + 1) (k + 1) b (at_cons.mpr a1) (at_cons.mpr a2)
    omega
theorem Hs.settle {v : V} {d : D} (h : Hs K H0 (some v :: σ) (.ow d :: δ) G H) : ∃ G', Hs K H0 σ δ G' H /\ Same G G' /\ Rep K G' d v := by
  obtain ⟨G', h', s, p, e, r⟩ := h.freeze (i := 0) (d := d) rfl; simp at e; subst e; exact ⟨G', h'.drop (l := .fr d) (fun z => z), s, r⟩
theorem Hs.own0 {v : V} {d : D} (h : Hs K H0 (some v :: σ) (.ow d :: δ) G H) {i : Nat} {l : Sl} (e : δ[i]? = some l) (nm : ¬ l.mine) : Hs K H0 (σ.set i (some v)) (δ.set i (.ow d)) G H := by
  have hl : σ.length = δ.length := by simpa using h.len
  have hi : i < δ.length := (List.getElem?_eq_some_iff.mp e).1; have his : i < σ.length := by omega
  obtain ⟨p, e1, o⟩ := h.ow 0 d rfl; simp at e1; subst e1; have ai : ∀ b, At (σ.set i (some (.ref p))) (δ.set i (.ow d)) i b ↔ b = p := fun b => by
    constructor
    · intro a
      have := (at_self a).2; cases this; rfl
    · rintro rfl
      exact ⟨_, List.getElem?_set_self hi, True.intro, List.getElem?_set_self his⟩
  have na : ∀ b, ¬ At σ δ i b := fun b ⟨l', q1, q2, _⟩ => by rw [e] at q1; cases q1; exact nm q2
  have tr : ∀ b j, j ≠ i -> (At (σ.set i (some (.ref p))) (δ.set i (.ow d)) j b ↔ At (some (.ref p) :: σ) (.ow d :: δ) (j + 1) b) := fun b j hj => by
    rw [at_set hj, at_cons]
  have a0 : At (some (.ref p) :: σ) (.ow d :: δ) 0 p := at_zero.mpr ⟨True.intro, rfl⟩; refine ⟨by rw [List.length_set, List.length_set]; exact hl, h.base, fun b => ?_, fun j d' q => ?_, fun j d' q => ?_, fun j q' es q => ?_, fun j k b a1 a2 => ?_⟩
  · rcases h.ex b with ⟨z1, z2⟩ | ⟨z1, j, z2⟩
    · refine .inl ⟨z1, fun j a => ?_⟩
      by_cases hj : j = i
      · subst hj
        exact z2 0 (at_zero.mpr ⟨True.intro, by rw [(ai b).mp a]⟩)
      · exact z2 (j + 1) ((tr b j hj).mp a)
    · refine .inr ⟨z1, ?_⟩
      cases j with
      | zero =>
        have w := (at_zero.mp z2).2; cases w; exact ⟨i, (ai p).mpr rfl⟩
      | succ j =>
        have hj : j ≠ i := fun z => by subst z; exact na b (at_cons.mp z2)
        exact ⟨j, (tr b j hj).mpr z2⟩
  · by_cases hj : j = i
    · subst hj
      rw [List.getElem?_set_self hi] at q; cases q
    · rw [List.getElem?_set_ne (Ne.symm hj)] at q ⊢
      simpa using h.fr (j + 1) d' (by simpa using q)
  · by_cases hj : j = i
    · subst hj
      rw [List.getElem?_set_self hi] at q; cases q; exact ⟨p, List.getElem?_set_self his, o⟩
    · rw [List.getElem?_set_ne (Ne.symm hj)] at q ⊢
      simpa using h.ow (j + 1) d' (by simpa using q)
  · by_cases hj : j = i
    · subst hj
      rw [List.getElem?_set_self hi] at q; cases q
    · rw [List.getElem?_set_ne (Ne.symm hj)] at q ⊢
      simpa using h.lk (j + 1) q' es (by simpa using q)
  · by_cases hj : j = i
    · subst hj
      have w := (ai b).mp a1; subst w
      by_cases hk : k = j
      · exact hk.symm
      · have := h.ne _ _ _ ((tr b k hk).mp a2) a0
        omega
    · by_cases hk : k = i
      · subst hk
        have w := (ai b).mp a2; subst w; have := h.ne _ _ _ ((tr b j hj).mp a1) a0; omega
      · have := h.ne _ _ _ ((tr b j hj).mp a1) ((tr b k hk).mp a2)
        omega
theorem Hs.own {v : V} {d : D} (h : Hs K H0 (some v :: σ) (.ow d :: δ) G H) {i : Nat} {l : Sl} (e : δ[i]? = some l) (nl : l.locked = false) : ∃ G', Hs K H0 (σ.set i (some v)) (δ.set i (.ow d)) G' H /\ Same G G' := by
  cases l with
  | lk p d' => cases nl
  | un => exact ⟨G, h.own0 e (fun z => z), Same.refl _⟩
  | fr d' => exact ⟨G, h.own0 e (fun z => z), Same.refl _⟩
  | ow d' =>
    have hi : i < δ.length := (List.getElem?_eq_some_iff.mp e).1; obtain ⟨G', h', s, _⟩ := h.freeze (i := i + 1) (d := d') (by simpa using e); have h'' : Hs K H0 (some v :: σ) (.ow d :: δ.set i (.fr d')) G' H := h'; have := h''.own0 (i := i) (List.getElem?_set_self hi) (fun z => z); rw [List.set_set] at this; exact ⟨G', this, s⟩
theorem Hs.laid (h : Hs K H0 σ δ G H) {p : Addr} {o : HO} (n : H p = none) : Hs K H0 σ δ (upd G p o) (upd H p o) /\ Same G (upd G p o) := by
  have nat : ∀ i, ¬ At σ δ i p := fun i a => by
    obtain ⟨o', e, _⟩ := h.soft a; rw [n] at e; cases e
  have gp : G p = none := by
    rcases h.ex p with ⟨z, _⟩ | ⟨z, _⟩
    · exact z.trans n
    · exact z
  have s1 : Same G (upd G p o) := fun b u q => by rw [upd_ne (ne_of_none q gp)]; exact q
  have hne : ∀ i b, At σ δ i b -> b ≠ p := fun i b a z => by subst z; exact nat i a
  refine ⟨⟨h.len, h.base.trans s1, fun b => ?_, fun j d' q => ?_, fun j d' q => ?_, fun j q' es q => ?_, h.ne⟩, s1⟩
  · by_cases hb : b = p
    · subst hb; exact .inl ⟨by rw [upd_same, upd_same], nat⟩
    · rw [upd_ne hb, upd_ne hb]; exact h.ex b
  · obtain ⟨v, w1, w2⟩ := h.fr j d' q
    exact ⟨v, w1, Rep.mono s1 _ _ w2⟩
  · obtain ⟨b, w1, w2⟩ := h.ow j d' q
    exact ⟨b, w1, w2.mono s1 (upd_ne (hne j b ⟨_, q, True.intro, w1⟩))⟩
  · obtain ⟨w1, w2⟩ := h.lk j q' es q
    exact ⟨w1, w2.mono s1 (upd_ne (hne j q' ⟨_, q, True.intro, w1⟩))⟩
theorem Hs.fresh (h : Hs K H0 σ δ G H) {p : Addr} {o : HO} {d : D} (n : H p = none) (w : Own K G (upd H p o) p d) : Hs K H0 (some (.ref p) :: σ) (.ow d :: δ) G (upd H p o) := by
  have nat : ∀ i, ¬ At σ δ i p := fun i a => by
    obtain ⟨o', e, _⟩ := h.soft a; rw [n] at e; cases e
  have gp : G p = none := by
    rcases h.ex p with ⟨z, _⟩ | ⟨z, _⟩
    · exact z.trans n
    · exact z
  have hne : ∀ i b, At σ δ i b -> b ≠ p := fun i b a z => by subst z; exact nat i a
  have a0 : ∀ b, At (some (.ref p) :: σ) (.ow d :: δ) 0 b ↔ b = p := fun b => by
    rw [at_zero]
    constructor
    · rintro ⟨_, z⟩; cases z; rfl
    · rintro rfl; exact ⟨True.intro, rfl⟩
  refine ⟨by simp [h.len], h.base, fun b => ?_, fun j d' q => ?_, fun j d' q => ?_, fun j q' es q => ?_, fun j k b a1 a2 => ?_⟩
  · by_cases hb : b = p
    · subst hb; exact .inr ⟨gp, 0, (a0 b).mpr rfl⟩
    · rw [upd_ne hb]
      rcases h.ex b with ⟨z1, z2⟩ | ⟨z1, j, z2⟩
      · refine .inl ⟨z1, fun j a => ?_⟩
        cases j with
        | zero => exact hb ((a0 b).mp a)
        | succ j => exact z2 j (at_cons.mp a)
      · exact .inr ⟨z1, j + 1, at_cons.mpr z2⟩
  · cases j with
    | zero => simp at q
    | succ j => simpa using h.fr j d' (by simpa using q)
  · cases j with
    | zero =>
      simp at q; subst q; exact ⟨p, rfl, w⟩
    | succ j =>
      obtain ⟨b, w1, w2⟩ := h.ow j d' (by simpa using q); exact ⟨b, by simpa using w1, w2.mono (Same.refl _) (upd_ne (hne j b ⟨.ow d', by simpa using q, True.intro, w1⟩))⟩
  · cases j with
    | zero => simp at q
    | succ j =>
      obtain ⟨w1, w2⟩ := h.lk j q' es (by simpa using q); exact ⟨by simpa using w1, w2.mono (Same.refl _) (upd_ne (hne j q' ⟨.lk q' es, by simpa using q, True.intro, w1⟩))⟩
  · cases j with
    | zero =>
      cases k with
      | zero => rfl
      | succ k => exact absurd ((a0 b).mp a1) (hne k b (at_cons.mp a2))
    | succ j =>
      cases k with
      | zero => exact absurd ((a0 b).mp a2) (hne j b (at_cons.mp a1))
      | succ k =>
        have := h.ne j k b (at_cons.mp a1) (at_cons.mp a2); omega
theorem Hs.write (h : Hs K H0 σ δ G H) {i : Nat} {p : Addr} {d d' : D} {o : HO} (e : δ[i]? = some (.ow d)) (e1 : σ[i]? = some (some (.ref p))) (w : Own K G (upd H p o) p d') : Hs K H0 σ (δ.set i (.ow d')) G (upd H p o) := by
  have hi : i < δ.length := (List.getElem?_eq_some_iff.mp e).1; have ai : At σ δ i p := ⟨_, e, True.intro, e1⟩; have gp : G p = none := by
    rcases h.ex p with ⟨_, z⟩ | ⟨z, _⟩
    · exact absurd ai (z i)
    · exact z
  have ati : ∀ b, At σ (δ.set i (.ow d')) i b ↔ b = p := fun b => by
    constructor
    · rintro ⟨_, _, _, z⟩; rw [e1] at z; cases z; rfl
    · rintro rfl; exact ⟨_, List.getElem?_set_self hi, True.intro, e1⟩
  have aeq : ∀ j b, At σ (δ.set i (.ow d')) j b ↔ At σ δ j b := fun j b => by
    by_cases hj : j = i
    · subst hj
      rw [ati]
      constructor
      · rintro rfl; exact ai
      · rintro ⟨_, _, _, z⟩; rw [e1] at z; cases z; rfl
    · exact at_setD hj
  have hne : ∀ j b, j ≠ i -> At σ δ j b -> b ≠ p := fun j b hj a z => by subst z; exact hj (h.ne j i b a ai)
  refine ⟨by rw [List.length_set]; exact h.len, h.base, fun b => ?_, fun j d2 q => ?_, fun j d2 q => ?_, fun j q' es q => ?_, fun j k b a1 a2 => h.ne j k b ((aeq j b).mp a1) ((aeq k b).mp a2)⟩
  · by_cases hb : b = p
    · subst hb; exact .inr ⟨gp, i, (ati b).mpr rfl⟩
    · rw [upd_ne hb]
      rcases h.ex b with ⟨z1, z2⟩ | ⟨z1, j, z2⟩
      · exact .inl ⟨z1, fun j a => z2 j ((aeq j b).mp a)⟩
      · exact .inr ⟨z1, j, (aeq j b).mpr z2⟩
  · by_cases hj : j = i
    · subst hj; rw [List.getElem?_set_self hi] at q; cases q
    · rw [List.getElem?_set_ne (Ne.symm hj)] at q; exact h.fr j d2 q
  · by_cases hj : j = i
    · subst hj; rw [List.getElem?_set_self hi] at q; cases q
      exact ⟨p, e1, w⟩
    · rw [List.getElem?_set_ne (Ne.symm hj)] at q
      obtain ⟨b, w1, w2⟩ := h.ow j d2 q; exact ⟨b, w1, w2.mono (Same.refl _) (upd_ne (hne j b hj ⟨_, q, True.intro, w1⟩))⟩
  · by_cases hj : j = i
    · subst hj; rw [List.getElem?_set_self hi] at q; cases q
    · rw [List.getElem?_set_ne (Ne.symm hj)] at q
      obtain ⟨w1, w2⟩ := h.lk j q' es q; exact ⟨w1, w2.mono (Same.refl _) (upd_ne (hne j q' hj ⟨_, q, True.intro, w1⟩))⟩
inductive Fg : List Sl -> List Sl -> Prop where
  | nil : Fg [] []
  | same {l : Sl} {a b : List Sl} (h : Fg a b) : Fg (l :: a) (l :: b)
  | un {d : D} {a b : List Sl} (h : Fg a b) : Fg (.fr d :: a) (.un :: b)
theorem Fg.get {a b : List Sl} (f : Fg a b) : ∀ i : Nat, b[i]? = a[i]? \/ (b[i]? = some .un /\ ∃ d, a[i]? = some (.fr d)) := by
  induction f with
  | nil => exact fun i => .inl rfl
  | same h ih =>
    intro i
    cases i with
    | zero => exact .inl rfl
    | succ i => simpa using ih i
  | @un d a b h ih =>
    intro i
    cases i with
    | zero => exact .inr ⟨rfl, d, rfl⟩
    | succ i => simpa using ih i
theorem Fg.length {a b : List Sl} (f : Fg a b) : a.length = b.length := by
  induction f with
  | nil => rfl
  | same _ ih => simp [ih]
  | un _ ih => simp [ih]
theorem Hs.forget {δ' : List Sl} (h : Hs K H0 σ δ G H) (f : Fg δ δ') : Hs K H0 σ δ' G H := by
  have ae : ∀ i p, At σ δ' i p ↔ At σ δ i p := fun i p => by
    unfold At
    rcases f.get i with e | ⟨e1, d, e2⟩
    · rw [e]
    · rw [e1, e2]
      constructor
      · rintro ⟨l, z, m, _⟩; cases z; exact m.elim
      · rintro ⟨l, z, m, _⟩; cases z; exact m.elim
  refine ⟨h.len.trans f.length, h.base, fun b => ?_, fun i d e => ?_, fun i d e => ?_, fun i p d e => ?_, fun i j p a1 a2 => h.ne i j p ((ae i p).mp a1) ((ae j p).mp a2)⟩
  · rcases h.ex b with ⟨z1, z2⟩ | ⟨z1, i, z2⟩
    · exact .inl ⟨z1, fun i a => z2 i ((ae i b).mp a)⟩
    · exact .inr ⟨z1, i, (ae i b).mpr z2⟩
  · rcases f.get i with z | ⟨z, _⟩
    · exact h.fr i d (z ▸ e)
    · rw [z] at e; cases e
  · rcases f.get i with z | ⟨z, _⟩
    · exact h.ow i d (z ▸ e)
    · rw [z] at e; cases e
  · rcases f.get i with z | ⟨z, _⟩
    · exact h.lk i p d (z ▸ e)
    · rw [z] at e; cases e
end
def RepB (K : PySem.W.Frag) (G H : Hp) : D -> V -> Prop
  | .non, v => v = .non
  | .bl b, v => v = .bl b
  | .int i, v => v = .int i
  | .str x, v => v = .str x
  | .adr p, v => v = .ref p
  | .exc C o, v => ∃ a, v = .ref a /\ ExcRep G a C o
  | .tup xs, v => ∃ a vs, v = .ref a /\ H a = some (.tup vs) /\ Reps K G xs vs
  | .lst xs, v => ∃ a vs, v = .ref a /\ SqL K H a vs /\ Reps K G xs vs
  | .dK kvs, v => ∃ a kws, v = .ref a /\ Rd H a (.dK kws) /\ RepK K G kvs kws
  | .dT kvs, v => ∃ a kws, v = .ref a /\ Rd H a (.dT kws) /\ RepT K G kvs kws
section
variable {K : PySem.W.Frag} {H0 : Hp} {σ : L2.St} {δ : List Sl} {G G' H H' : Hp} {d : D} {v : V}
theorem Rep.b (s : Same G H) (h : Rep K G d v) : RepB K G H d v := by
  cases d with
  | tup xs => simp only [Rep] at h; obtain ⟨a, vs, h1, h2, h3⟩ := h; exact ⟨a, vs, h1, s _ _ h2, h3⟩
  | lst xs => simp only [Rep] at h; obtain ⟨a, vs, h1, h2, h3⟩ := h; exact ⟨a, vs, h1, s.seq h2, h3⟩
  | dK xs => simp only [Rep] at h; obtain ⟨a, vs, h1, h2, h3⟩ := h; exact ⟨a, vs, h1, same_rd s h2, h3⟩
  | dT xs => simp only [Rep] at h; obtain ⟨a, vs, h1, h2, h3⟩ := h; exact ⟨a, vs, h1, same_rd s h2, h3⟩
  | _ => simp only [Rep] at h; exact h
theorem RepB.mono (h : RepB K G H d v) (g : Same G G') (s : Same H H') : RepB K G' H' d v := by
  cases d with
  | tup xs => obtain ⟨a, vs, h1, h2, h3⟩ := h; exact ⟨a, vs, h1, s _ _ h2, Reps.mono g _ _ h3⟩
  | lst xs => obtain ⟨a, vs, h1, h2, h3⟩ := h; exact ⟨a, vs, h1, s.seq h2, Reps.mono g _ _ h3⟩
  | dK xs => obtain ⟨a, vs, h1, h2, h3⟩ := h; exact ⟨a, vs, h1, same_rd s h2, RepK.mono g _ _ h3⟩
  | dT xs => obtain ⟨a, vs, h1, h2, h3⟩ := h; exact ⟨a, vs, h1, same_rd s h2, RepT.mono g _ _ h3⟩
  | exc C o => obtain ⟨a, h1, h2⟩ := h; exact ⟨a, h1, h2.to fun b φ q => g _ _ q⟩
  | _ => exact h
theorem Own.b {p : Addr} (h : Own K G H p d) : RepB K G H d (.ref p) := by
  cases d with
  | lst ds => obtain ⟨vs, h1, h2⟩ := h; exact ⟨p, vs, rfl, SqL.of h1, h2⟩
  | dK ds => obtain ⟨vs, h1, h2⟩ := h; exact ⟨p, vs, rfl, .inl h1, h2⟩
  | dT ds => obtain ⟨vs, h1, h2⟩ := h; exact ⟨p, vs, rfl, .inl h1, h2⟩
  | _ => exact h.elim
theorem RepB.all (h : RepB K G H d v) (s : Same G H) : Rep K H d v := by
  cases d with
  | tup xs => obtain ⟨a, vs, h1, h2, h3⟩ := h; simp only [Rep]; exact ⟨a, vs, h1, h2, Reps.mono s _ _ h3⟩
  | lst xs => obtain ⟨a, vs, h1, h2, h3⟩ := h; simp only [Rep]; exact ⟨a, vs, h1, h2, Reps.mono s _ _ h3⟩
  | dK xs => obtain ⟨a, vs, h1, h2, h3⟩ := h; simp only [Rep]; exact ⟨a, vs, h1, h2, RepK.mono s _ _ h3⟩
  | dT xs => obtain ⟨a, vs, h1, h2, h3⟩ := h; simp only [Rep]; exact ⟨a, vs, h1, h2, RepT.mono s _ _ h3⟩
  | exc C o => obtain ⟨a, h1, h2⟩ := h; simp only [Rep]; exact ⟨a, h1, h2.to fun b φ q => s _ _ q⟩
  | _ => simp only [Rep]; exact h
end
structure Nx (K : PySem.W.Frag) (H0 : Hp) (σ : L2.St) (δ : List Sl) (G H G' H' : Hp) : Prop where
  hs : Hs K H0 σ δ G' H'
  g : Same G G'
  h : Same H H'
theorem Nx.refl {K : PySem.W.Frag} {H0 : Hp} {σ : L2.St} {δ : List Sl} {G H : Hp} (h : Hs K H0 σ δ G H) : Nx K H0 σ δ G H G H := ⟨h, Same.refl _, Same.refl _⟩
theorem Nx.trans {K : PySem.W.Frag} {H0 : Hp} {σ : L2.St} {δ : List Sl} {G H G' H' G2 H2 : Hp} (a : Nx K H0 σ δ G H G' H') (b : Nx K H0 σ δ G' H' G2 H2) : Nx K H0 σ δ G H G2 H2 := ⟨b.hs, a.g.trans b.g, a.h.trans b.h⟩
abbrev RE := List Sl -> (D -> Prop) -> Prop
abbrev RT := List Sl -> (Bool -> Prop) -> Prop
abbrev RA := List Sl -> (List D -> Prop) -> Prop
def liftE (K : PySem.W.Frag) (H0 : Hp) (t : RE) : TE := fun σ H Q => ∃ δ G Qd, Hs K H0 σ δ G H /\ t δ Qd /\ ∀ v H' G' d, Nx K H0 σ δ G H G' H' -> Rep K G' d v -> Qd d -> Q v H'
def liftB (K : PySem.W.Frag) (H0 : Hp) (t : RE) : TE := fun σ H Q => ∃ δ G Qd, Hs K H0 σ δ G H /\ t δ Qd /\ ∀ v H' G' d, Nx K H0 σ δ G H G' H' -> RepB K G' H' d v -> Qd d -> Q v H'
def liftN (K : PySem.W.Frag) (H0 : Hp) (t : RE) : TE := fun σ H Q => ∃ δ G Qd, Hs K H0 σ δ G H /\ t δ Qd /\ ∀ v H' G' d, Hs K H0 (some v :: σ) (.ow d :: δ) G' H' -> Same G G' -> Same H H' -> Qd d -> Q v H'
def liftT (K : PySem.W.Frag) (H0 : Hp) (t : RT) : TT := fun σ H Q => ∃ δ G Qd, Hs K H0 σ δ G H /\ t δ Qd /\ ∀ b H' G', Nx K H0 σ δ G H G' H' -> Qd b -> Q b H'
def liftA (K : PySem.W.Frag) (H0 : Hp) (t : RA) : TA := fun σ H Q => ∃ δ G Qd, Hs K H0 σ δ G H /\ t δ Qd /\ ∀ vs H' G' ds, Nx K H0 σ δ G H G' H' -> Reps K G' ds vs -> Qd ds -> Q vs H'
def PE2 (X : Cx) (H0 : Hp) (e : Expr) (t : RE) : Prop := PE X e (liftE X.K H0 t)
def PB2 (X : Cx) (H0 : Hp) (e : Expr) (t : RE) : Prop := PE X e (liftB X.K H0 t)
def PN2 (X : Cx) (H0 : Hp) (e : Expr) (t : RE) : Prop := PE X e (liftN X.K H0 t)
def PT2 (X : Cx) (H0 : Hp) (e : Expr) (t : RT) : Prop := PT X e (liftT X.K H0 t)
def PW2 (X : Cx) (H0 : Hp) (e : Expr) (t : RT) : Prop := PW X e (liftT X.K H0 t)
def PA2 (X : Cx) (H0 : Hp) (es : List Expr) (t : RA) : Prop := PA X es (liftA X.K H0 t)
theorem PE.weak {X : Cx} {e : Expr} {t t' : TE} (h : PE X e t) (k : ∀ σ H Q, t' σ H Q -> t σ H Q) : PE X e t' := fun pins s σ H Q I hw => h pins s σ H Q I (k σ H Q hw)
theorem PT.weak {X : Cx} {e : Expr} {t t' : TT} (h : PT X e t) (k : ∀ σ H Q, t' σ H Q -> t σ H Q) : PT X e t' := fun pins s σ H Q I hw => h pins s σ H Q I (k σ H Q hw)
theorem PW.weak {X : Cx} {e : Expr} {t t' : TT} (h : PW X e t) (k : ∀ σ H Q, t' σ H Q -> t σ H Q) : PW X e t' := fun whole pins s σ H Q I hw => h whole pins s σ H Q I (k σ H Q hw)
theorem PA.weak {X : Cx} {e : List Expr} {t t' : TA} (h : PA X e t) (k : ∀ σ H Q, t' σ H Q -> t σ H Q) : PA X e t' := fun pos pins s σ H Q I hw => h pos pins s σ H Q I (k σ H Q hw)
theorem PS.weak {X : Cx} {e : Stmt} {t t' : TS} (h : PS X e t) (k : ∀ D σ H, t' D σ H -> t D σ H) : PS X e t' := fun pins s σ H Q I hw => h pins s σ H Q I (k Q σ H hw)
theorem PSs.weak {X : Cx} {e : List Stmt} {t t' : TS} (h : PSs X e t) (k : ∀ D σ H, t' D σ H -> t D σ H) : PSs X e t' := fun pins s σ H Q I hw => h pins s σ H Q I (k Q σ H hw)
section
variable {X : Cx} {H0 : Hp} {e a b c : Expr} {t ta tb tc : RE} {pos : Pos}
theorem PE2.bo (h : PE2 X H0 e t) : PB2 X H0 e t := PE.weak h fun σ H Q ⟨δ, G, Qd, hs, ht, k⟩ => ⟨δ, G, Qd, hs, ht, fun v H' G' d n r q => k v H' G' d n (Rep.b n.hs.sub r) q⟩
theorem PN2.fx (h : PN2 X H0 e t) : PE2 X H0 e t := PE.weak h fun σ H Q ⟨δ, G, Qd, hs, ht, k⟩ => ⟨δ, G, Qd, hs, ht, fun v H' G' d n sg sh q => by
  obtain ⟨G2, n2, s2, r2⟩ := n.settle
  exact k v H' G2 d ⟨n2, sg.trans s2, sh⟩ r2 q⟩
theorem PN2.bo (h : PN2 X H0 e t) : PB2 X H0 e t := h.fx.bo
def rC (d : D) (_ : List Sl) (Q : D -> Prop) : Prop := Q d
def rVar (i : Nat) (δ : List Sl) (Q : D -> Prop) : Prop := match δ[i]? with
  | some (.fr d) => Q d
  | _ => False
def rVarB (i : Nat) (δ : List Sl) (Q : D -> Prop) : Prop := match δ[i]? with
  | some (.fr d) => Q d
  | some (.ow d) => Q d
  | some (.lk _ d) => Q d
  | _ => False
theorem e_var (i : Nat) {x : Str} {pos : Pos} (hN : X.N[i]? = some x := by rfl) (hv : Vis X.env.scope x := by first | exact Or.inl rfl | exact Or.inr (Or.inl rfl) | exact Or.inr (Or.inr rfl)) (hd : (x == ("__debug__" : Str)) = false := by decide)
 (hcd : (x == ("__classdict__" : Str)) = false := by decide) : PE2 X H0 (.Name x pos) (rVar i) := PE.weak (pe_var hN hv hd hcd) fun σ H Q ⟨δ, G, Qd, hs, ht, k⟩ => by
  unfold rVar at ht
  split at ht
  · rename_i d e
    obtain ⟨v, e1, r⟩ := hs.fr i d e; exact ⟨v, e1, k v H G d (Nx.refl hs) r ht⟩
  · exact ht.elim
theorem b_var (i : Nat) {x : Str} {pos : Pos} (hN : X.N[i]? = some x := by rfl) (hv : Vis X.env.scope x := by first | exact Or.inl rfl | exact Or.inr (Or.inl rfl) | exact Or.inr (Or.inr rfl)) (hd : (x == ("__debug__" : Str)) = false := by decide)
 (hcd : (x == ("__classdict__" : Str)) = false := by decide) : PB2 X H0 (.Name x pos) (rVarB i) := PE.weak (pe_var hN hv hd hcd) fun σ H Q ⟨δ, G, Qd, hs, ht, k⟩ => by
  unfold rVarB at ht
  split at ht
  · rename_i d e
    obtain ⟨v, e1, r⟩ := hs.fr i d e; exact ⟨v, e1, k v H G d (Nx.refl hs) (Rep.b hs.sub r) ht⟩
  · rename_i d e
    obtain ⟨p, e1, o⟩ := hs.ow i d e; exact ⟨_, e1, k _ H G d (Nx.refl hs) o.b ht⟩
  · rename_i p d e
    obtain ⟨e1, o⟩ := hs.lk i p d e; exact ⟨_, e1, k _ H G d (Nx.refl hs) o.b ht⟩
  · exact ht.elim
theorem cst {d : D} {v : V} (h : PE X e (tC v)) (r : ∀ G, Rep X.K G d v) : PE2 X H0 e (rC d) := PE.weak h fun σ H Q ⟨δ, G, Qd, hs, ht, k⟩ => k v H G d (Nx.refl hs) (r G) ht
theorem e_int {i : Int} {j : Nat} {pos : Pos} : PE2 X H0 (.Constant (.int i) j pos) (rC (.int i)) := cst pe_int fun _ => by simp only [Rep]
theorem e_bl {b : Bool} {j : Nat} {pos : Pos} : PE2 X H0 (.Constant (.bool b) j pos) (rC (.bl b)) := cst pe_bl fun _ => by simp only [Rep]
theorem e_str {x : Str} {j : Nat} {pos : Pos} : PE2 X H0 (.Constant (.str x) j pos) (rC (.str x)) := cst pe_str fun _ => by simp only [Rep]
def Lf2 (K : PySem.W.Frag) (r : R2) (r2 : D -> D -> (D -> Prop) -> Prop) : Prop :=
  ∀ (H0 : Hp) (σ : L2.St) (δ : List Sl) (G H : Hp) (x y : V) (dx dy : D) (Qd : D -> Prop) (Q : VK), Hs K H0 σ δ G H -> RepB K G H dx x -> RepB K G H dy y -> r2 dx dy Qd ->
    (∀ v H' G' d, Nx K H0 σ δ G H G' H' -> Rep K G' d v -> Qd d -> Q v H') -> r x y H Q
def rOp (r2 : D -> D -> (D -> Prop) -> Prop) (ta tb : RE) (δ : List Sl) (Q : D -> Prop) : Prop := ta δ fun x => tb δ fun y => r2 x y Q
theorem lift_op {r : R2} {r2 : D -> D -> (D -> Prop) -> Prop} (lf : Lf2 X.K r r2) : ∀ σ H Q, liftE X.K H0 (rOp r2 ta tb) σ H Q -> tOp r (liftB X.K H0 ta) (liftB X.K H0 tb) σ H Q :=
  fun σ H Q ⟨δ, G, Qd, hs, ht, k⟩ => ⟨δ, G, _, hs, ht, fun v H1 G1 d1 n1 r1 q1 => ⟨δ, G1, _, n1.hs, q1, fun v2 H2 G2 d2 n2 r2 q2 =>
    lf H0 σ δ G2 H2 v v2 d1 d2 Qd Q n2.hs (r1.mono n2.g n2.h) r2 q2 fun v3 H3 G3 d3 n3 r3 q3 => k v3 H3 G3 d3 ((n1.trans n2).trans n3) r3 q3⟩⟩
theorem e_op {op : Operator} {r : R2} {r2 : D -> D -> (D -> Prop) -> Prop} (ho : OpR X (binaryOp op) r) (lf : Lf2 X.K r r2) (ha : PB2 X H0 a ta) (hb : PB2 X H0 b tb) : PE2 X H0 (.BinOp a op b pos) (rOp r2 ta tb) :=
  PE.weak (pe_op ho ha hb) (lift_op lf)
theorem e_cmp {op : CmpOp} {r : R2} {r2 : D -> D -> (D -> Prop) -> Prop} (ho : OpR X (compareOp op) r) (lf : Lf2 X.K r r2) (ha : PB2 X H0 a ta) (hb : PB2 X H0 b tb) (hm : behindInMarks op b = false) : PE2 X H0 (.Compare a [op] [b] pos) (rOp r2 ta tb) :=
  PE.weak (pe_cmpR ho ha hb hm) (lift_op lf)
def rTest (t : RE) (δ : List Sl) (Q : Bool -> Prop) : Prop := t δ fun d => match d with
  | .bl k => Q k
  | _ => False
theorem lift_test {t' : TE} (h : ∀ σ H Q, liftE X.K H0 t σ H Q -> t' σ H Q) : ∀ σ H Q, liftT X.K H0 (rTest t) σ H Q -> tTest t' σ H Q := fun σ H Q ⟨δ, G, Qd, hs, ht, k⟩ => h σ H _ ⟨δ, G, _, hs, ht, fun v H' G' d n r q => by
  cases d with
  | bl x => exact ⟨x, by simpa only [Rep] using r, k x H' G' n q⟩
  | _ => exact q.elim⟩
theorem t_cmp {op : CmpOp} {r : R2} {r2 : D -> D -> (D -> Prop) -> Prop} (ho : OpR X (compareOp op) r) (lf : Lf2 X.K r r2) (ha : PB2 X H0 a ta) (hb : PB2 X H0 b tb) (hm : behindInMarks op b = false) : PT2 X H0 (.Compare a [op] [b] pos) (rTest (rOp r2 ta tb)) :=
  PT.weak (pt_cmpR ho ha hb hm) (lift_test (lift_op lf))
def dI (C : Int -> Int -> Prop) (g : Int -> Int -> D) (x y : D) (Q : D -> Prop) : Prop := match x, y with
  | .int i, .int j => C i j /\ Q (g i j)
  | _, _ => False
def dI0 (g : Int -> Int -> D) (x y : D) (Q : D -> Prop) : Prop := match x, y with
  | .int i, .int j => Q (g i j)
  | _, _ => False
theorem lf_i {K : PySem.W.Frag} {C : Int -> Int -> Prop} {g : Int -> Int -> V} {g2 : Int -> Int -> D} (hg : ∀ G i j, Rep K G (g2 i j) (g i j)) : Lf2 K (rI C g) (dI C g2) := fun H0 σ δ G H x y dx dy Qd Q hs rx ry h k => by
  cases dx <;> cases dy <;> first | exact h.elim | skip
  rename_i i j; obtain rfl : x = .int i := rx; obtain rfl : y = .int j := ry; exact ⟨i, j, rfl, rfl, h.1, k _ H G _ (Nx.refl hs) (hg G i j) h.2⟩
theorem lf_i0 {K : PySem.W.Frag} {g : Int -> Int -> V} {g2 : Int -> Int -> D} (hg : ∀ G i j, Rep K G (g2 i j) (g i j)) : Lf2 K (rI0 g) (dI0 g2) := fun H0 σ δ G H x y dx dy Qd Q hs rx ry h k => by
  cases dx <;> cases dy <;> first | exact h.elim | skip
  rename_i i j; obtain rfl : x = .int i := rx; obtain rfl : y = .int j := ry; exact ⟨i, j, rfl, rfl, k _ H G _ (Nx.refl hs) (hg G i j) h⟩
theorem lf_int {K : PySem.W.Frag} {C : Int -> Int -> Prop} (g : Int -> Int -> Int) : Lf2 K (rI C fun i j => .int (g i j)) (dI C fun i j => .int (g i j)) := lf_i fun _ _ _ => by simp only [Rep]
theorem lf_int0 {K : PySem.W.Frag} (g : Int -> Int -> Int) : Lf2 K (rI0 fun i j => .int (g i j)) (dI0 fun i j => .int (g i j)) := lf_i0 fun _ _ _ => by simp only [Rep]
theorem lf_bl0 {K : PySem.W.Frag} (g : Int -> Int -> Bool) : Lf2 K (rI0 fun i j => .bl (g i j)) (dI0 fun i j => .bl (g i j)) := lf_i0 fun _ _ _ => by simp only [Rep]
def CDv (i j : Int) : Prop := 0 < j /\ j < 2 ^ 200
theorem op_fdiv2 : OpR X (binaryOp .FloorDiv) (rI CDv fun i j => .int (i / j)) := opI fun i j _ _ _ _ _ hc q => by
  have e : i.fdiv j = i / j := Int.fdiv_eq_ediv_of_nonneg i (Int.le_of_lt hc.1); have hl : j.natAbs.log2 < 200 := by
    have h0 : j.natAbs ≠ 0 := by have := hc.1; omega
    refine (Nat.log2_lt h0).mpr ?_; have := hc.2; have h1 : ((j.natAbs : Nat) : Int) = j := by have := hc.1; omega
    have h2 : ((j.natAbs : Nat) : Int) < ((2 ^ 200 : Nat) : Int) := by rw [h1]; exact this
    exact Int.ofNat_lt.mp h2
  refine floordiv_int (Int.ne_of_gt hc.1) ?_ (.inl (PyProof.noPylong_of_log2 (by omega))); rw [e]; exact q
theorem e_add (ha : PB2 X H0 a ta) (hb : PB2 X H0 b tb) : PE2 X H0 (.BinOp a .Add b pos) (rOp (dI0 fun i j => .int (i + j)) ta tb) := e_op op_add (lf_int0 _) ha hb
theorem e_mul (ha : PB2 X H0 a ta) (hb : PB2 X H0 b tb) : PE2 X H0 (.BinOp a .Mult b pos) (rOp (dI CMul fun i j => .int (i * j)) ta tb) := e_op op_mul (lf_int _) ha hb
theorem e_fdiv (ha : PB2 X H0 a ta) (hb : PB2 X H0 b tb) : PE2 X H0 (.BinOp a .FloorDiv b pos) (rOp (dI CDv fun i j => .int (i / j)) ta tb) := e_op op_fdiv2 (lf_int _) ha hb
theorem e_mod (ha : PB2 X H0 a ta) (hb : PB2 X H0 b tb) : PE2 X H0 (.BinOp a .Mod b pos) (rOp (dI (fun _ j => 0 < j) fun i j => .int (i % j)) ta tb) := e_op op_mod (lf_int _) ha hb
theorem e_pow (ha : PB2 X H0 a ta) (hb : PB2 X H0 b tb) : PE2 X H0 (.BinOp a .Pow b pos) (rOp (dI CPow fun i j => .int (i ^ j.toNat)) ta tb) := e_op op_pow (lf_int _) ha hb
abbrev dLt := dI0 fun i j => .bl (decide (i < j))
abbrev dGe := dI0 fun i j => .bl (decide (j <= i))
theorem lf_lt {K : PySem.W.Frag} : Lf2 K (rI0 fun i j => .bl (decide (i < j))) dLt := lf_bl0 _
theorem lf_ge {K : PySem.W.Frag} : Lf2 K (rI0 fun i j => .bl (decide (j <= i))) dGe := lf_bl0 _
def dEqS (neg : Bool) (x y : D) (Q : D -> Prop) : Prop := match x, y with
  | .int i, .int j => Q (.bl (neg != decide (i = j)))
  | .bl i, .bl j => Q (.bl (neg != decide (i = j)))
  | .str i, .str j => Q (.bl (neg != decide (i = j)))
  | _, _ => False
theorem dec_inj {α β : Type} [DecidableEq α] [DecidableEq β] {f : α -> β} (hf : ∀ a b, f a = f b -> a = b) (a b : α) : decide (f a = f b) = decide (a = b) := by
  by_cases h : a = b
  · subst h; simp
  · rw [decide_eq_false h, decide_eq_false fun z => h (hf _ _ z)]
theorem lf_eqS {K : PySem.W.Frag} : Lf2 K rEq (dEqS false) := fun H0 σ δ G H x y dx dy Qd Q hs rx ry h k => by
  cases dx <;> cases dy <;> first | exact h.elim | skip
  · rename_i i j
    obtain rfl : x = .bl i := rx; obtain rfl : y = .bl j := ry; exact ⟨rfl, k _ H G _ (Nx.refl hs) (by simp only [Rep]; rw [dec_inj (f := V.bl) (fun a b z => by cases z; rfl)]; simp) h⟩
  · rename_i i j
    obtain rfl : x = .int i := rx; obtain rfl : y = .int j := ry; exact ⟨rfl, k _ H G _ (Nx.refl hs) (by simp only [Rep]; rw [dec_inj (f := V.int) (fun a b z => by cases z; rfl)]; simp) h⟩
  · rename_i i j
    obtain rfl : x = .str i := rx; obtain rfl : y = .str j := ry; exact ⟨rfl, k _ H G _ (Nx.refl hs) (by simp only [Rep]; rw [dec_inj (f := V.str) (fun a b z => by cases z; rfl)]; simp) h⟩
end
structure Two (b : Bool) (A B : Prop) : Prop where
  yes : b = true -> A
  no : b = false -> B
theorem Two.f {A B : Prop} (h : B) : Two false A B := ⟨(fun z => by cases z), (fun _ => h)⟩
theorem Two.dec {p : Prop} [Decidable p] {A B : Prop} (h1 : p -> A) (h2 : ¬ p -> B) : Two (decide p) A B := ⟨fun z => h1 (of_decide_eq_true z), fun z => h2 (of_decide_eq_false z)⟩
section
variable {X : Cx} {H0 : Hp} {e a b c : Expr} {t ta tb tc : RE} {u uA uB : RT} {pos : Pos} {rest : List Expr}
def rOr (t u : RT) (δ : List Sl) (Q : Bool -> Prop) : Prop := t δ fun k => Two k (Q true) (u δ Q)
def rNot (t : RT) (δ : List Sl) (Q : Bool -> Prop) : Prop := t δ fun k => Q (!k)
theorem PW2.pt (h : PW2 X H0 e u) : PT2 X H0 e u := PW.pt h
theorem t_or1 (ha : PT2 X H0 a uA) : PW2 X H0 (.BoolOp .Or [a] pos) uA := pw_or1 ha
theorem t_or (ha : PT2 X H0 a uA) (hb : PW2 X H0 (.BoolOp .Or (b :: rest) pos) uB) : PW2 X H0 (.BoolOp .Or (a :: b :: rest) pos) (rOr uA uB) :=
  PW.weak (pw_or ha hb) fun σ H Q ⟨δ, G, Qd, hs, ht, k⟩ => ⟨δ, G, _, hs, ht, fun x H1 G1 n1 q1 => by
    cases x with
    | false => replace q1 := q1.no rfl; rw [if_neg Bool.false_ne_true]; exact ⟨δ, G1, Qd, n1.hs, q1, fun y H2 G2 n2 q2 => k y H2 G2 (n1.trans n2) q2⟩
    | true => replace q1 := q1.yes rfl; rw [if_pos rfl]; exact k true H1 G1 n1 q1⟩
theorem t_not (ha : PT2 X H0 a uA) : PT2 X H0 (.UnaryOp .Not a pos) (rNot uA) :=
  PT.weak (pt_not ha) fun σ H Q ⟨δ, G, Qd, hs, ht, k⟩ => ⟨δ, G, _, hs, ht, fun x H1 G1 n1 q1 => k (!x) H1 G1 n1 q1⟩
theorem t_val (h : PE2 X H0 e t) (he : ∀ whole, isTrue e X.env whole = (do let v <- whole; standAt e.pos; holding [v] (truthy v)) := by intro _; rfl) : PT2 X H0 e (rTest t) :=
  PT.weak (pt_val h he) (lift_test (t' := liftE X.K H0 t) fun _ _ _ z => z)
def bl? (d : D) (Q : Bool -> Prop) : Prop := match d with
  | .bl k => Q k
  | _ => False
theorem bl_of {K : PySem.W.Frag} {G : Hp} {d : D} {v : V} {Q : Bool -> Prop} (h : bl? d Q) (r : Rep K G d v) : ∃ k, d = .bl k /\ v = .bl k /\ Q k := by
  cases d with
  | bl k => exact ⟨k, rfl, by simpa only [Rep] using r, h⟩
  | _ => exact h.elim
def rAndV (ta tb : RE) (δ : List Sl) (Q : D -> Prop) : Prop := ta δ fun x => bl? x fun k => Two k (tb δ Q) (Q (.bl false))
def rNotV (ta : RE) (δ : List Sl) (Q : D -> Prop) : Prop := ta δ fun x => bl? x fun k => Q (.bl (!k))
theorem e_one {op : BoolOp} (ha : PE2 X H0 a ta) : PE2 X H0 (.BoolOp op [a] pos) ta := pe_one ha
theorem e_and (ha : PE2 X H0 a ta) (hb : PE2 X H0 (.BoolOp .And (b :: rest) pos) tb) : PE2 X H0 (.BoolOp .And (a :: b :: rest) pos) (rAndV ta tb) :=
  PE.weak (pe_and ha hb) fun σ H Q ⟨δ, G, Qd, hs, ht, k⟩ => ⟨δ, G, _, hs, ht, fun v H1 G1 d n1 r1 q1 => by
    obtain ⟨x, rfl, rfl, q1⟩ := bl_of q1 r1; refine ⟨x, rfl, ?_⟩
    cases x with
    | true => replace q1 := q1.yes rfl; rw [if_pos rfl]; exact ⟨δ, G1, Qd, n1.hs, q1, fun v2 H2 G2 d2 n2 r2 q2 => k v2 H2 G2 d2 (n1.trans n2) r2 q2⟩
    | false => replace q1 := q1.no rfl; rw [if_neg Bool.false_ne_true]; exact k _ H1 G1 _ n1 (by simp only [Rep]) q1⟩
theorem e_not (ha : PE2 X H0 a ta) : PE2 X H0 (.UnaryOp .Not a pos) (rNotV ta) :=
  PE.weak (pe_not ha) fun σ H Q ⟨δ, G, Qd, hs, ht, k⟩ => ⟨δ, G, _, hs, ht, fun v H1 G1 d n1 r1 q1 => by
    obtain ⟨x, rfl, rfl, q1⟩ := bl_of q1 r1
    exact ⟨x, rfl, k _ H1 G1 _ n1 (by simp only [Rep]) q1⟩⟩
def rNeg (ta : RE) (δ : List Sl) (Q : D -> Prop) : Prop := ta δ fun x => match x with
  | .int i => Q (.int (-i))
  | _ => False
theorem e_neg (ha : PB2 X H0 a ta) : PE2 X H0 (.UnaryOp .USub a pos) (rNeg ta) :=
  PE.weak (pe_un un_neg ha) fun σ H Q ⟨δ, G, Qd, hs, ht, k⟩ => ⟨δ, G, _, hs, ht, fun v H1 G1 d n1 r1 q1 => by
    cases d with
    | int i => exact ⟨i, r1, k _ H1 G1 _ n1 (by simp only [Rep]) q1⟩
    | _ => exact q1.elim⟩
variable {es : List Expr} {tr : RA}
def rNil (_ : List Sl) (Q : List D -> Prop) : Prop := Q []
def rCons (t : RE) (r : RA) (δ : List Sl) (Q : List D -> Prop) : Prop := t δ fun d => r δ fun ds => Q (d :: ds)
theorem a_nil : PA2 X H0 [] rNil := PA.weak pa_nil fun σ H Q ⟨δ, G, Qd, hs, ht, k⟩ => k [] H G [] (Nx.refl hs) Reps.nil ht
theorem a_cons (ha : PE2 X H0 e t) (hr : PA2 X H0 es tr) (hs : starEach (e :: es) X.env = (false, eval e X.env) :: starEach es X.env := by rfl) : PA2 X H0 (e :: es) (rCons t tr) :=
  PA.weak (pa_cons ha hr hs) fun σ H Q ⟨δ, G, Qd, hs, ht, k⟩ => ⟨δ, G, _, hs, ht, fun v H1 G1 d n1 r1 q1 => ⟨δ, G1, _, n1.hs, q1, fun vs H2 G2 ds n2 r2 q2 => k (v :: vs) H2 G2 (d :: ds) (n1.trans n2) (Reps.cons (Rep.mono n2.g _ _ r1) r2) q2⟩⟩
def rTupD (r : RA) (δ : List Sl) (Q : D -> Prop) : Prop := r δ fun ds => ds.length <= sizeLine /\ Q (.tup ds)
def rLstD (r : RA) (δ : List Sl) (Q : D -> Prop) : Prop := r δ fun ds => ds.length <= sizeLine /\ Q (.lst ds)
theorem upd_mono {H : Hp} {p : Addr} {o : HO} (n : H p = none) : Same H (upd H p o) := fun b u q => by rw [upd_ne (ne_of_none q n)]; exact q
theorem e_tup {x1} (h : PA2 X H0 es tr) : PE2 X H0 (.Tuple es x1 pos) (rTupD tr) :=
  PE.weak (pe_tup h) fun σ H Q ⟨δ, G, Qd, hs, ht, k⟩ => ⟨δ, G, _, hs, ht, fun vs H1 G1 ds n1 r1 q1 => ⟨by rw [<- r1.length]; exact q1.1, fun p hp => by
    obtain ⟨h2, s2⟩ := n1.hs.laid (o := .tup vs) hp
    exact k _ _ _ (.tup ds) ⟨h2, n1.g.trans s2, n1.h.trans (upd_mono hp)⟩ (by simp only [Rep]; exact ⟨p, vs, rfl, upd_same, Reps.mono s2 _ _ r1⟩) q1.2⟩⟩
theorem n_lst (h : PA2 X H0 es tr) : PN2 X H0 (.List es pos) (rLstD tr) :=
  PE.weak (pe_lst h) fun σ H Q ⟨δ, G, Qd, hs, ht, k⟩ => ⟨δ, G, _, hs, ht, fun vs H1 G1 ds n1 r1 q1 => ⟨by rw [<- r1.length]; exact q1.1, fun p hp =>
    k _ _ G1 (.lst ds) (n1.hs.fresh hp ⟨vs, upd_same, r1⟩) n1.g (n1.h.trans (upd_mono hp)) q1.2⟩⟩
def dIx (x y : D) (Q : D -> Prop) : Prop := match x, y with
  | .lst ds, .int i => ∃ d, atI ds i = some d /\ Q d
  | .tup ds, .int i => ∃ d, atI ds i = some d /\ Q d
  | _, _ => False
theorem atI_rep {K : PySem.W.Frag} {G : Hp} {ds : List D} {vs : List V} {i : Int} {d : D} (r : Reps K G ds vs) (h : atI ds i = some d) : ∃ v, atI vs i = some v /\ Rep K G d v := by
  unfold atI at h ⊢; rw [<- r.length]
  cases q : ixN ds.length i with
  | none => rw [q] at h; cases h
  | some j =>
    rw [q] at h; exact r.get h
theorem lf_ix {K : PySem.W.Frag} : Lf2 K (rIx K) dIx := fun H0 σ δ G H x y dx dy Qd Q hs rx ry h k => by
  cases dx <;> cases dy <;> first | exact h.elim | skip
  · rename_i ds i
    obtain ⟨a, vs, rfl, h2, h3⟩ := rx; obtain rfl : y = .int i := ry; obtain ⟨d, q, h'⟩ := h; obtain ⟨v, e1, r1⟩ := atI_rep h3 q; exact .inr (.inl ⟨a, vs, i, v, rfl, rfl, SqT.of h2, e1, k _ H G _ (Nx.refl hs) r1 h'⟩)
  · rename_i ds i
    obtain ⟨a, vs, rfl, h2, h3⟩ := rx; obtain rfl : y = .int i := ry; obtain ⟨d, q, h'⟩ := h; obtain ⟨v, e1, r1⟩ := atI_rep h3 q; exact .inl ⟨a, vs, i, v, rfl, rfl, h2, e1, k _ H G _ (Nx.refl hs) r1 h'⟩
theorem e_ix (ha : PB2 X H0 a ta) (hb : PB2 X H0 b tb) (hp : PlainIx b := by intro _ _; rfl) : PE2 X H0 (.Subscript a b pos) (rOp dIx ta tb) :=
  PE.weak (pe_ix ix_seq ha hb hp) (lift_op lf_ix)
abbrev RO := List Sl -> (Option Int -> Prop) -> Prop
def liftO (K : PySem.W.Frag) (H0 : Hp) (t : RO) : TO := fun σ H Q => ∃ δ G Qd, Hs K H0 σ δ G H /\ t δ Qd /\ ∀ o H' G', Nx K H0 σ δ G H G' H' -> Qd o -> Q o H'
def PO2 (X : Cx) (H0 : Hp) (e : Option Expr) (t : RO) : Prop := PO X e (liftO X.K H0 t)
def cutD (xs : List D) (lo hi : Option Int) : List D := (xs.drop (HT.sIx xs.length 0 lo)).take (HT.sIx xs.length xs.length hi - HT.sIx xs.length 0 lo)
variable {lo hi : Option Expr} {tl th : RO} {p2 : Pos}
end
section
variable {X : Cx} {H0 : Hp} {e : Expr} {t : RE} {lo hi : Option Expr} {tl th : RO} {p2 pos : Pos}
def rCutT (te : RE) (tl th : RO) (δ : List Sl) (Q : D -> Prop) : Prop := te δ fun d => tl δ fun l => th δ fun u => match d with
  | .tup ds => ¬ (HT.sIx ds.length 0 l = 0 /\ HT.sIx ds.length ds.length u = ds.length) /\ Q (.tup (cutD ds l u))
  | _ => False
end
inductive Ret where
  | val (d : D) | new (d : D) | two (a b : D) | fo (a b : D)
def RetOk (K : PySem.W.Frag) (H0 H' : Hp) (v : V) : Ret -> Prop
  | .val d => Same H0 H' /\ Rep K H' d v
  | .new d => ∃ G p, v = .ref p /\ Same H0 G /\ G p = none /\ (∀ b, b ≠ p -> G b = H' b) /\ Own K G H' p d
  | .two x y => ∃ G a p q, v = .ref a /\ Same H0 G /\ G a = some (.tup [.ref p, .ref q]) /\ p ≠ q /\ G p = none /\ G q = none /\ (∀ b, b ≠ p -> b ≠ q -> G b = H' b) /\ Own K G H' p x /\ Own K G H' q y
  | .fo x y => ∃ G a vx q, v = .ref a /\ Same H0 G /\ G a = some (.tup [vx, .ref q]) /\ Rep K G x vx /\ G q = none /\ (∀ b, b ≠ q -> G b = H' b) /\ Own K G H' q y
def RetIn (K : PySem.W.Frag) (H0 H' : Hp) (v : V) (δ' : List Sl) : Ret -> Prop
  | .val d => ∃ σ' G', Hs K H0 σ' δ' G' H' /\ Rep K G' d v
  | .new d => RetOk K H0 H' v (.new d)
  | .two x y => RetOk K H0 H' v (.two x y)
  | .fo x y => RetOk K H0 H' v (.fo x y)
theorem RetIn.ok {K : PySem.W.Frag} {H0 H' : Hp} {v : V} {δ' : List Sl} {r : Ret} (h : RetIn K H0 H' v δ' r) : RetOk K H0 H' v r := by
  cases r with
  | val d => obtain ⟨σ', G', hs, r⟩ := h; exact ⟨hs.base.trans hs.sub, Rep.mono hs.sub _ _ r⟩
  | new d => exact h
  | two x y => exact h
  | fo x y => exact h
structure Ends2 where
  nx : List Sl -> Prop
  rt : Ret -> List Sl -> Prop
  bk : List Sl -> Prop := fun _ => False
  ct : List Sl -> Prop := fun _ => False
abbrev RS := Ends2 -> List Sl -> Prop
structure Go (K : PySem.W.Frag) (H0 G : Hp) (E : Ends2) (D : Ends) : Prop where
  nx : ∀ σ' H' δ' G', Hs K H0 σ' δ' G' H' -> Same G G' -> E.nx δ' -> D.nx σ' H'
  rt : ∀ v H' r δ', RetIn K H0 H' v δ' r -> E.rt r δ' -> D.rt v H'
  bk : ∀ σ' H' δ' G', Hs K H0 σ' δ' G' H' -> Same G G' -> E.bk δ' -> D.bk σ' H'
  ct : ∀ σ' H' δ' G', Hs K H0 σ' δ' G' H' -> Same G G' -> E.ct δ' -> D.ct σ' H'
theorem Go.mono {K : PySem.W.Frag} {H0 G G1 : Hp} {E : Ends2} {D : Ends} (g : Go K H0 G E D) (s : Same G G1) : Go K H0 G1 E D :=
  ⟨fun σ' H' δ' G' h s' => g.nx σ' H' δ' G' h (s.trans s'), g.rt, fun σ' H' δ' G' h s' => g.bk σ' H' δ' G' h (s.trans s'), fun σ' H' δ' G' h s' => g.ct σ' H' δ' G' h (s.trans s')⟩
def liftS (K : PySem.W.Frag) (H0 : Hp) (t : RS) : TS := fun D σ H => ∃ δ G E, Hs K H0 σ δ G H /\ t E δ /\ Go K H0 G E D
def PS2 (X : Cx) (H0 : Hp) (st : Stmt) (t : RS) : Prop := PS X st (liftS X.K H0 t)
def PSs2 (X : Cx) (H0 : Hp) (st : List Stmt) (t : RS) : Prop := PSs X st (liftS X.K H0 t)
section
variable {X : Cx} {H0 : Hp} {e tg : Expr} {te : RE} {st : Stmt} {rest b1 b2 : List Stmt} {t u : RS} {c : Expr} {tc : RT} {pos pos' : Pos} {x : Str}
abbrev rNext (E : Ends2) (δ : List Sl) : Prop := E.nx δ
abbrev rSeq (t u : RS) (E : Ends2) (δ : List Sl) : Prop := t { E with nx := u E } δ
theorem s_nil : PSs2 X H0 [] rNext := PSs.weak pss_nil fun D σ H ⟨δ, G, E, hs, ht, g⟩ => g.nx σ H δ G hs (Same.refl _) ht
theorem s_cons (h1 : PS2 X H0 st t) (h2 : PSs2 X H0 rest u) : PSs2 X H0 (st :: rest) (rSeq t u) :=
  PSs.weak (pss_cons h1 h2) fun D σ H ⟨δ, G, E, hs, ht, g⟩ => ⟨δ, G, { E with nx := u E }, hs, ht, ⟨fun σ' H' δ' G' h' s' q => ⟨δ', G', E, h', q, g.mono s'⟩, g.rt, g.bk, g.ct⟩⟩
theorem s_one (h1 : PS2 X H0 st t) : PSs2 X H0 [st] t := PSs.weak (pss_one h1) fun D σ H z => z
def rFreeze (i : Nat) (t : RS) (E : Ends2) (δ : List Sl) : Prop := match δ[i]? with
  | some (.ow d) => t E (δ.set i (.fr d))
  | _ => False
theorem s_freeze (i : Nat) (h : PSs2 X H0 rest t) : PSs2 X H0 rest (rFreeze i t) := PSs.weak h fun D σ H ⟨δ, G, E, hs, ht, g⟩ => by
  unfold rFreeze at ht
  split at ht
  · rename_i d e
    obtain ⟨G', h', s', _⟩ := hs.freeze e; exact ⟨_, G', E, h', ht, g.mono s'⟩
  · exact ht.elim
def rRet (te : RE) (E : Ends2) (δ : List Sl) : Prop := te δ fun d => E.rt (.val d) δ
theorem s_ret (he : PE2 X H0 e te) : PS2 X H0 (.Return (some e) pos) (rRet te) :=
  PS.weak (ps_ret he) fun D σ H ⟨δ, G, E, hs, ht, g⟩ => ⟨δ, G, _, hs, ht, fun v H1 G1 d n1 r1 q1 => g.rt v H1 (.val d) δ ⟨σ, G1, n1.hs, r1⟩ q1⟩
theorem ret_new {K : PySem.W.Frag} {σ : L2.St} {δ : List Sl} {G H : Hp} {i : Nat} {d : D} {p : Addr} (hs : Hs K H0 σ δ G H) (e : δ[i]? = some (.ow d)) (e1 : σ[i]? = some (some (.ref p))) : RetOk K H0 H (.ref p) (.new d) := by
  obtain ⟨p', e2, o⟩ := hs.ow i d e; rw [e1] at e2; cases e2; have gp : G p = none := by
    rcases hs.ex p with ⟨_, z⟩ | ⟨z, _⟩
    · exact absurd ⟨_, e, True.intro, e1⟩ (z i)
    · exact z
  have s1 : Same G (fun b => if b = p then none else H b) := fun b u q => by
    have hb : b ≠ p := ne_of_none q gp
    show (if b = p then none else H b) = some u
    rw [if_neg hb]; exact hs.sub b u q
  exact ⟨fun b => if b = p then none else H b, p, rfl, hs.base.trans s1, if_pos rfl, fun b hb => if_neg hb, o.mono s1 rfl⟩
def rRetN (te : RE) (E : Ends2) (δ : List Sl) : Prop := te δ fun d => E.rt (.new d) δ
theorem s_retN (he : PN2 X H0 e te) : PS2 X H0 (.Return (some e) pos) (rRetN te) :=
  PS.weak (ps_ret he) fun D σ H ⟨δ, G, E, hs, ht, g⟩ => ⟨δ, G, _, hs, ht, fun v H1 G1 d n1 sg sh q1 => by
    obtain ⟨p, e1, o⟩ := n1.ow 0 d rfl; simp at e1; subst e1
    exact g.rt _ H1 (.new d) δ (ret_new (i := 0) n1 rfl rfl) q1⟩
def rRetO (i : Nat) (E : Ends2) (δ : List Sl) : Prop := match δ[i]? with
  | some (.ow d) => E.rt (.new d) δ
  | _ => False
theorem s_retO (i : Nat) (hN : X.N[i]? = some x := by rfl) (hv : Vis X.env.scope x := by first | exact Or.inl rfl | exact Or.inr (Or.inl rfl) | exact Or.inr (Or.inr rfl)) (hd : (x == ("__debug__" : Str)) = false := by decide)
 (hcd : (x == ("__classdict__" : Str)) = false := by decide) : PS2 X H0 (.Return (some (.Name x pos')) pos) (rRetO i) :=
  PS.weak (ps_ret (pe_var hN hv hd hcd)) fun D σ H ⟨δ, G, E, hs, ht, g⟩ => by
    unfold rRetO at ht
    split at ht
    · rename_i d e
      obtain ⟨p, e1, o⟩ := hs.ow i d e; exact ⟨_, e1, g.rt _ H (.new d) δ (ret_new hs e e1) ht⟩
    · exact ht.elim
structure rIf (c : RT) (t u : RS) (E : Ends2) (δ : List Sl) : Prop where
  run : c δ fun b => Two b (t E δ) (u E δ)
theorem s_if (hc : PT2 X H0 c tc) (ha : PSs2 X H0 b1 t) (hb : PSs2 X H0 b2 u) : PS2 X H0 (.If c b1 b2 pos) (rIf tc t u) :=
  PS.weak (ps_if hc ha hb) fun D σ H ⟨δ, G, E, hs, ht, g⟩ => ⟨δ, G, _, hs, ht.run, fun k H1 G1 n1 q1 => by
    cases k with
    | true => rw [if_pos rfl]; exact ⟨δ, G1, E, n1.hs, q1.yes rfl, g.mono n1.g⟩
    | false => rw [if_neg Bool.false_ne_true]; exact ⟨δ, G1, E, n1.hs, q1.no rfl, g.mono n1.g⟩⟩
abbrev RG := D -> List Sl -> (List Sl -> Prop) -> Prop
def liftG (K : PySem.W.Frag) (H0 : Hp) (g : RG) : TG := fun v σ H Q => ∃ δ G d Qd, Hs K H0 σ δ G H /\ Rep K G d v /\ g d δ Qd /\ ∀ σ' H' δ' G', Hs K H0 σ' δ' G' H' -> Same G G' -> Qd δ' -> Q σ' H'
def PG2 (X : Cx) (H0 : Hp) (tg : Expr) (g : RG) : Prop := PG X tg (liftG X.K H0 g)
theorem PG.weak {X : Cx} {e : Expr} {t t' : TG} (h : PG X e t) (k : ∀ v σ H Q, t' v σ H Q -> t v σ H Q) : PG X e t' := fun pins s σ H v u Q I r hw => h pins s σ H v u Q I r (k v σ H Q hw)
def gSet (i : Nat) (d : D) (δ : List Sl) (Q : List Sl -> Prop) : Prop := match δ[i]? with
  | some (.lk _ _) => False
  | some _ => Q (δ.set i (.fr d))
  | none => False
theorem gSet_of {i : Nat} {d : D} {δ : List Sl} {Q : List Sl -> Prop} (h : gSet i d δ Q) : ∃ l, δ[i]? = some l /\ l.locked = false /\ Q (δ.set i (.fr d)) := by
  unfold gSet at h
  split at h
  · exact h.elim
  · rename_i l n e
    refine ⟨l, e, ?_, h⟩
    cases l with
    | lk p d' => exact absurd rfl (n p d')
    | _ => rfl
  · exact h.elim
theorem g_name (i : Nat) (hN : X.N.Nodup) (hi : X.N[i]? = some x := by rfl) (hx : Loc X.env.scope x := by first | exact Or.inl rfl | exact Or.inr rfl) (hf : X.fn x = true \/ X.env.scope.names.lookup x = some .local := by first | exact .inl rfl | exact .inr rfl | assumption) : PG2 X H0 (.Name x pos) (gSet i) :=
  PG.weak (pg_name hN hi hx hf) fun v σ H Q ⟨δ, G, d, Qd, hs, r, h, k⟩ => by
    obtain ⟨l, e, nl, q⟩ := gSet_of h; obtain ⟨G', h', s'⟩ := hs.put e nl r; exact k _ H _ G' h' s' q
def rSet (i : Nat) (te : RE) (E : Ends2) (δ : List Sl) : Prop := te δ fun d => gSet i d δ E.nx
theorem s_set (i : Nat) (hN : X.N.Nodup) (he : PE2 X H0 e te) (hi : X.N[i]? = some x := by rfl) (hx : Loc X.env.scope x := by first | exact Or.inl rfl | exact Or.inr rfl) (hs : swapsWith e (some (.Name x pos')) pos.line X.env = pure false := by rfl)
 (hf : X.fn x = true \/ X.env.scope.names.lookup x = some .local := by first | exact .inl rfl | exact .inr rfl | assumption) : PS2 X H0 (.Assign [.Name x pos'] e pos) (rSet i te) :=
  PS.weak (ps_set hN hi hx he hs hf) fun D σ H ⟨δ, G, E, hs, ht, g⟩ => ⟨δ, G, _, hs, ht, fun v H1 G1 d n1 r1 q1 => by
    obtain ⟨l, e, nl, q⟩ := gSet_of q1; obtain ⟨G', h', s'⟩ := n1.hs.put e nl r1
    exact g.nx _ H1 _ G' h' (n1.g.trans s') q⟩
def gOwn (i : Nat) (d : D) (δ : List Sl) (Q : List Sl -> Prop) : Prop := match δ[i]? with
  | some (.lk _ _) => False
  | some _ => Q (δ.set i (.ow d))
  | none => False
theorem gOwn_of {i : Nat} {d : D} {δ : List Sl} {Q : List Sl -> Prop} (h : gOwn i d δ Q) : ∃ l, δ[i]? = some l /\ l.locked = false /\ Q (δ.set i (.ow d)) := by
  unfold gOwn at h
  split at h
  · exact h.elim
  · rename_i l n e
    refine ⟨l, e, ?_, h⟩
    cases l with
    | lk p d' => exact absurd rfl (n p d')
    | _ => rfl
  · exact h.elim
def rSetN (i : Nat) (te : RE) (E : Ends2) (δ : List Sl) : Prop := te δ fun d => gOwn i d δ E.nx
theorem s_setN (i : Nat) (hN : X.N.Nodup) (he : PN2 X H0 e te) (hi : X.N[i]? = some x := by rfl) (hx : Loc X.env.scope x := by first | exact Or.inl rfl | exact Or.inr rfl) (hs : swapsWith e (some (.Name x pos')) pos.line X.env = pure false := by rfl)
 (hf : X.fn x = true \/ X.env.scope.names.lookup x = some .local := by first | exact .inl rfl | exact .inr rfl | assumption) : PS2 X H0 (.Assign [.Name x pos'] e pos) (rSetN i te) :=
  PS.weak (ps_set hN hi hx he hs hf) fun D σ H ⟨δ, G, E, hs, ht, g⟩ => ⟨δ, G, _, hs, ht, fun v H1 G1 d n1 sg sh q1 => by
    obtain ⟨l, e, nl, q⟩ := gOwn_of q1; obtain ⟨G', h', s'⟩ := n1.own e nl
    exact g.nx _ H1 _ G' h' (sg.trans s') q⟩
abbrev RGs := List D -> List Sl -> (List Sl -> Prop) -> Prop
def liftGs (K : PySem.W.Frag) (H0 : Hp) (g : RGs) : TGs := fun vs σ H Q => ∃ δ G ds Qd, Hs K H0 σ δ G H /\ Reps K G ds vs /\ g ds δ Qd /\ ∀ σ' H' δ' G', Hs K H0 σ' δ' G' H' -> Same G G' -> Qd δ' -> Q σ' H'
def PGs2 (X : Cx) (H0 : Hp) (ts : List Expr) (g : RGs) : Prop := PGs X ts (liftGs X.K H0 g)
theorem PGs.weak {X : Cx} {e : List Expr} {t t' : TGs} (h : PGs X e t) (k : ∀ v σ H Q, t' v σ H Q -> t v σ H Q) : PGs X e t' := fun pins s σ H v u Q I r hw => h pins s σ H v u Q I r (k v σ H Q hw)
def gNil2 (ds : List D) (δ : List Sl) (Q : List Sl -> Prop) : Prop := match ds with
  | [] => Q δ
  | _ => False
def gCons2 (g : RG) (r : RGs) (ds : List D) (δ : List Sl) (Q : List Sl -> Prop) : Prop := match ds with
  | d :: ds => g d δ fun δ1 => r ds δ1 Q
  | [] => False
theorem gs_nil : PGs2 X H0 [] gNil2 := PGs.weak pgs_nil fun vs σ H Q ⟨δ, G, ds, Qd, hs, r, h, k⟩ => by
  cases ds with
  | nil => simp only [Reps] at r; exact ⟨r, k σ H δ G hs (Same.refl _) h⟩
  | cons d ds => exact h.elim
variable {es : List Expr} {g : RG} {gs : RGs}
theorem gs_cons (h1 : PG2 X H0 e g) (h2 : PGs2 X H0 es gs) (hs : (assignEach (e :: es) X.env).map (·.2) = assign e X.env :: (assignEach es X.env).map (·.2) := by rfl) : PGs2 X H0 (e :: es) (gCons2 g gs) :=
  PGs.weak (pgs_cons h1 h2 hs) fun vs σ H Q ⟨δ, G, ds, Qd, hs, r, h, k⟩ => by
    cases ds with
    | nil => exact h.elim
    | cons d ds =>
      simp only [Reps] at r; obtain ⟨v, vr, rfl, r1, r2⟩ := r; exact ⟨v, vr, rfl, δ, G, d, _, hs, r1, h, fun σ1 H1 δ1 G1 h1 s1 q1 => ⟨δ1, G1, ds, Qd, h1, Reps.mono s1 _ _ r2, q1, fun σ2 H2 δ2 G2 h2 s2 q2 => k σ2 H2 δ2 G2 h2 (s1.trans s2) q2⟩⟩
def gTup2 (n : Nat) (gs : RGs) (d : D) (δ : List Sl) (Q : List Sl -> Prop) : Prop := match d with
  | .tup ds => ds.length = n /\ gs ds δ Q
  | _ => False
theorem g_tup {n k : Nat} (hc : X.calm = true) (h : PGs2 X H0 es gs) (hn : (assignEach es X.env).length = n := by rfl) (hst : (assignEach es X.env).findIdx? (·.1) = none := by rfl) : PG2 X H0 (.Tuple es k pos) (gTup2 n gs) :=
  PG.weak (pg_tup (n := n) hc h hn hst) fun v σ H Q ⟨δ, G, d, Qd, hs, r, h, k⟩ => by
    cases d with
    | tup ds =>
      simp only [Rep] at r; obtain ⟨a, vs, rfl, h2, h3⟩ := r; exact ⟨a, vs, rfl, SqT.of (hs.sub _ _ h2), by rw [<- h3.length]; exact h.1, δ, G, ds, Qd, hs, h3, h.2, k⟩
    | _ => exact h.elim
def rAsg (te : RE) (g : RG) (E : Ends2) (δ : List Sl) : Prop := te δ fun d => g d δ E.nx
theorem s_asg (he : PE2 X H0 e te) (hg : PG2 X H0 tg g) (hs : swapsWithSole [tg] e pos.line X.env = pure false := by rfl) (hw : swappedStores [tg] e X.env = pure none := by rfl)
 (h1 : (assignEach [tg] X.env).map (·.2) = [assign tg X.env] := by rfl) : PS2 X H0 (.Assign [tg] e pos) (rAsg te g) :=
  PS.weak (ps_asg he hg hs hw h1) fun D σ H ⟨δ, G, E, hs, ht, g⟩ => ⟨δ, G, _, hs, ht, fun v H1 G1 d n1 r1 q1 => ⟨δ, G1, d, E.nx, n1.hs, r1, q1, fun σ' H' δ' G' h' s' q => g.nx σ' H' δ' G' h' (n1.g.trans s') q⟩⟩
def loop (g : RG) (tb : RS) (E : Ends2) : List D -> List Sl -> Prop
  | [], δ => E.nx δ
  | d :: ds, δ => g d δ fun δ1 => tb { nx := fun δ2 => ∃ δ3, Fg δ2 δ3 /\ loop g tb E ds δ3, rt := E.rt, bk := E.nx, ct := fun δ2 => ∃ δ3, Fg δ2 δ3 /\ loop g tb E ds δ3 } δ1
def rForT (te : RE) (g : RG) (tb : RS) (E : Ends2) (δ : List Sl) : Prop := te δ fun d => match d with
  | .tup ds => loop g tb E ds δ
  | _ => False
variable {iter : Expr} {body : List Stmt} {tb : RS}
theorem s_forT (hp : PassesOwn (model X.prog X.w) X.A X.env X.xe) (hc : X.calm = true) (hi : PE2 X H0 iter te) (hg : PG2 X H0 tg g) (hb : PSs2 X H0 body tb) (hs : ∀ x, foldedSetIterable iter X.env x = pure x := by intro _; rfl) :
 PS2 X H0 (.For tg iter body [] pos) (rForT te g tb) :=
  PS.weak (ps_for hp hc (pi_tup hi) hg hb hs) fun D σ H ⟨δ, G, E, hs, ht, go⟩ => ⟨δ, G, _, hs, ht, fun v H1 G1 d n1 r1 q1 => by
    cases d with
    | tup ds =>
      simp only [Rep] at r1; obtain ⟨a, vs, rfl, h2, h3⟩ := r1; refine ⟨a, rfl, ⟨vs, SqT.of (n1.hs.sub _ _ h2)⟩, for_tup (K := X.K) (a := a) (xs := vs) (fun i σ' H' => ∃ δ' G', Hs X.K H0 σ' δ' G' H' /\ Same G1 G' /\ loop g tb E (ds.drop i) δ') ⟨δ, G1, n1.hs, Same.refl _, q1⟩ ?_ ?_ ?_⟩
      · rintro i σ' H' _ ⟨δ', G', h', s', _⟩
        exact SqT.of (h'.sub _ _ (s' _ _ h2))
      · rintro i x σ' H' hx ⟨δ', G', h', s', q'⟩
        obtain ⟨d, ed, rd⟩ := h3.getV hx; have hil : i < ds.length := (List.getElem?_eq_some_iff.mp ed).1; have ed' : ds[i] = d := by
          have := List.getElem?_eq_getElem hil; rw [this] at ed; exact Option.some.inj ed
        rw [List.drop_eq_getElem_cons hil, ed'] at q'; refine ⟨δ', G', d, _, h', Rep.mono s' _ _ rd, q', fun σ2 H2 δ2 G2 h2' s2 q2 => ⟨δ2, G2, _, h2', q2, ⟨fun σ3 H3 δ3 G3 h3' s3 ⟨δ4, f4, q3⟩ => ⟨δ4, G3, h3'.forget f4, (s'.trans s2).trans s3, q3⟩, go.rt, fun σ3 H3 δ3 G3 h3' s3 q3 => go.nx σ3 H3 δ3 G3 h3' (((n1.g.trans s').trans s2).trans s3) q3, fun σ3 H3 δ3 G3 h3' s3 ⟨δ4, f4, q3⟩ => ⟨δ4, G3, h3'.forget f4, (s'.trans s2).trans s3, q3⟩⟩⟩⟩
      · rintro σ' H' ⟨δ', G', h', s', q'⟩
        rw [<- h3.length, List.drop_length] at q'; exact go.nx σ' H' δ' G' h' (n1.g.trans s') q'
    | _ => exact q1.elim⟩
end
section
variable {X : Cx} {H0 : Hp} {e tg : Expr} {te : RE} {st : Stmt} {pos pos' : Pos} {x : Str} {es : List Expr} {g : RG} {gs : RGs} {iter : Expr} {body : List Stmt} {tb : RS}
def rng (lo : Int) (n : Nat) : List D := (List.range n).map fun k => D.int (lo + (k : Nat))
theorem rng_drop (lo : Int) (n i : Nat) (h : i < n) : (rng lo n).drop i = D.int (lo + i) :: (rng lo n).drop (i + 1) := by
  have hl : i < (rng lo n).length := by simpa [rng] using h
  rw [List.drop_eq_getElem_cons hl]; simp [rng]
theorem loop_range {G1 G : Hp} {E : Ends2} {Dn : Ends} {lo : Int} {n : Nat} {σ : L2.St} {δ : List Sl} {H : Hp} (hs : Hs X.K H0 σ δ G1 H) (gg : Same G G1) (go : Go X.K H0 G E Dn) (q1 : loop g tb E (rng lo n) δ) :
 ∃ W : Nat -> Nat -> L2.St -> Hp -> Prop, (∃ m, W 0 m σ H) /\ ∀ i m σ H, W i m σ H ->
 ((Itr lo n).stop i H /\ Dn.nx σ H) \/ ((Itr lo n).go i H /\ ∃ N : L2.St -> Hp -> Prop, (∀ σ' H', N σ' H' -> ∃ m', m' < m /\ W (i + 1) m' σ' H') /\ ∀ x H', (Itr lo n).yld i H x H' -> liftG X.K H0 g x σ H' fun σ2 H2 => liftS X.K H0 tb { Dn with nx := N, ct := N, bk := Dn.nx } σ2 H2) := by
  refine for_range (fun i σ' H' => ∃ δ' G', Hs X.K H0 σ' δ' G' H' /\ Same G1 G' /\ loop g tb E ((rng lo n).drop i) δ') ⟨δ, G1, hs, Same.refl _, q1⟩ ?_ ?_
  · rintro i σ' H' hx ⟨δ', G', h', s', q'⟩
    rw [rng_drop lo n i hx] at q'; refine ⟨δ', G', .int (lo + i), _, h', by simp only [Rep], q', fun σ2 H2 δ2 G2 h2' s2 q2 => ⟨δ2, G2, _, h2', q2, ⟨fun σ3 H3 δ3 G3 h3' s3 ⟨δ4, f4, q3⟩ => ⟨δ4, G3, h3'.forget f4, (s'.trans s2).trans s3, q3⟩, go.rt, fun σ3 H3 δ3 G3 h3' s3 q3 => go.nx σ3 H3 δ3 G3 h3' (((gg.trans s').trans s2).trans s3) q3, fun σ3 H3 δ3 G3 h3' s3 ⟨δ4, f4, q3⟩ => ⟨δ4, G3, h3'.forget f4, (s'.trans s2).trans s3, q3⟩⟩⟩⟩
  · rintro σ' H' ⟨δ', G', h', s', q'⟩
    rw [List.drop_of_length_le (by simp [rng])] at q'; exact go.nx σ' H' δ' G' h' (gg.trans s') q'
variable {tr : RA} {a1 a2 : Expr}
def int1 (ds : List D) (Q : Int -> Prop) : Prop := match ds with
  | [.int j] => Q j
  | _ => False
theorem int1_of {ds : List D} {Q : Int -> Prop} (h : int1 ds Q) : ∃ j, ds = [.int j] /\ Q j := by
  unfold int1 at h
  split at h
  · exact ⟨_, rfl, h⟩
  · exact h.elim
def Small62 (j : Int) : Prop := -(2 ^ 62) <= j /\ j < 2 ^ 62
def rForR1 (tr : RA) (g : RG) (tb : RS) (E : Ends2) (δ : List Sl) : Prop := tr δ fun ds => int1 ds fun j => Small62 j /\ loop g tb E (rng 0 j.toNat) δ
theorem s_forR1 {p pos2 : Pos} (hp : PassesOwn (model X.prog X.w) X.A X.env X.xe) (hc : X.calm = true) (hgl : Gl X "range") (hm : X.mg "range" = none) (ha : PA2 X H0 [a1] tr) (hg : PG2 X H0 tg g) (hb : PSs2 X H0 body tb) (hst : starEach [a1] X.env = [(false, eval a1 X.env)] := by rfl)
 (hs : ∀ x, foldedSetIterable (.Call (.Name "range" p) [a1] [] pos2) X.env x = pure x := by intro _; rfl) : PS2 X H0 (.For tg (.Call (.Name "range" p) [a1] [] pos2) body [] pos) (rForR1 tr g tb) :=
  PS.weak (ps_for hp hc (pi_range1 hgl hm ha hst) hg hb hs) fun D σ H ⟨δ, G, E, hs, ht, go⟩ => ⟨δ, G, _, hs, ht, fun vs H1 G1 ds n1 r1 q1 => by
    obtain ⟨j, rfl, ⟨h1, h2⟩, q2⟩ := int1_of q1; have e : vs = [.int j] := Reps.ints_inv (ns := [j]) r1
    exact ⟨j, e, h1, h2, loop_range n1.hs n1.g go q2⟩⟩
end
abbrev Sp2 := List D -> (Ret -> Prop) -> Prop
def liftSp (K : PySem.W.Frag) (sp : Sp2) : Sp := fun vs H Q _ => ∃ ds Qd, Reps K H ds vs /\ sp ds Qd /\ ∀ v H' r, RetOk K H H' v r -> Qd r -> Q v H'
section
variable {P : Program} {w : World} {K : PySem.W.Frag} {mg : Str -> Option Value} {base : Heap}
def start2 (N : List Str) (ds : List D) : List Sl := ds.map Sl.fr ++ List.replicate (N.length - ds.length) .un
theorem fun_ok {x qual : Str} {st : Stmt} {f : Addr} {fd : FuncData} {N ps : List Str} {k : Nat} {sp : Sp2} (F : Fun K x qual st f fd) (S : FnScope N ps (defScope st)) (len : ∀ ds Qd, sp ds Qd -> ds.length = ps.length)
 (hbody : ∀ (cdv : Value) (A : Around) (outer : List Env) (s : Shared) (H : Hp) (E : XK), Room k (A.deeper (envOfC qual (defScope st) s.heap.objs.size f cdv)) -> ∀ ds Qd, sp ds Qd ->
 ∃ t, PSs2 (cxOf CX0 P w K mg base N qual (defScope st) f cdv A outer s H E).nox H (defBody st) t /\ t { nx := fun _ => Qd (.val .non), rt := fun r _ => Qd r } (start2 N ds)) : FnOk P w K mg base CX0 (k + 1) f fd ps (liftSp K sp) := by
  refine F.ok S (fun vs H Q E h => ?_) (fun cdv A outer s H vs Q E hr h => ?_)
  · obtain ⟨ds, Qd, r, h1, _⟩ := h
    rw [<- r.length]; exact len ds Qd h1
  · obtain ⟨ds, Qd, r, h1, h2⟩ := h
    obtain ⟨t, ht, q⟩ := hbody cdv A outer s H E hr ds Qd h1; refine ⟨_, ht, start2 N ds, H, _, ?_, q, ⟨fun σ' H' δ' G' hs _ q => h2 _ H' (.val .non) ⟨hs.base.trans hs.sub, by simp only [Rep]⟩ q, fun v H' r' δ' ok q => h2 v H' r' ok.ok q, fun _ _ _ _ _ _ z => z.elim, fun _ _ _ _ _ _ z => z.elim⟩⟩; have e := Hs.start r (N.length - ds.length)
    show Hs K H (vs.map some ++ List.replicate (N.length - vs.length) none) _ H H
    rw [<- r.length]; exact e
end
theorem ObjOk.sub {P : Program} {w : World} {H1 H2 : Hp} {h : Heap} {a : Addr} (tp : ∀ b xs, H1 b = some (.tup xs) -> H2 b = some (.tup xs)) (ow : ∀ b c, H1 b = some (.own c) -> H2 b = some (.own c)) {o : HO} (x : ObjOk P w H1 h a o) : ObjOk P w H2 h a o :=
  x.stay (fun _ _ _ q => q) (fun b q => ow b a q) tp
section
variable {X : Cx} {H0 : Hp} {pins : List (Addr × Obj)} {σ : L2.St} {δ : List Sl} {G H : Hp} {s : Shared}
theorem Hs.nil_of (hs : Hs X.K H0 σ δ G H) {b : Addr} (n : H b = none) : G b = none /\ ∀ i, ¬ At σ δ i b := by
  rcases hs.ex b with ⟨q, a⟩ | ⟨q, i, a⟩
  · exact ⟨q.trans n, a⟩
  · obtain ⟨o, e, _⟩ := hs.soft a
    rw [n] at e; cases e
theorem Hs.env0 (hs : Hs X.K H0 σ δ G H) (I : Inv X pins σ H s) : Env0 X.prog X.w X.K X.mg X.base X.A X.stack s G := by
  have e := I.env0; refine ⟨e.frames, e.mod, fun b o q => ⟨(e.bs b o q).1, (hs.nil_of (e.bs b o q).2).1⟩, e.bsz, e.funs, fun b hb => (hs.nil_of (e.frf b hb)).1, fun a o q => ?_, e.bare⟩; exact ObjOk.sub (fun b xs z => (hs.hard z (fun y => y)).1) (fun b c z => (hs.hard z (fun y => y)).1) (e.hok a o (hs.sub a o q))
open Classical in
noncomputable def mix (σ : L2.St) (δ : List Sl) (H G1 : Hp) : Hp := fun b => if (∃ i, At σ δ i b) then H b else G1 b
theorem mix_own {G1 : Hp} {i : Nat} {b : Addr} (a : At σ δ i b) : mix σ δ H G1 b = H b := by unfold mix; exact if_pos ⟨i, a⟩
theorem mix_not {G1 : Hp} {b : Addr} (a : ∀ i, ¬ At σ δ i b) : mix σ δ H G1 b = G1 b := by unfold mix; exact if_neg fun ⟨i, z⟩ => a i z
theorem Hs.behind {Q : VK} {u : Value} {s' : Shared} (hs : Hs X.K H0 σ δ G H) (I : Inv X pins σ H s) (h : CE X.stack X.prog X.w G s Q u s') :
 ∃ v G1, Inv X pins σ (mix σ δ H G1) s' /\ RelV v u /\ Q v G1 /\ (∀ i b, At σ δ i b -> G1 b = none) := by
  obtain ⟨v, G1, os, bare, un, hok, r, q⟩ := h; have ownx : ∀ i b, At σ δ i b -> ∃ o ob, H b = some o /\ Soft o /\ s.heap.get? b = some ob /\ G b = none := fun i b a => by
    obtain ⟨o, e, so⟩ := hs.soft a; have lt := I.hok.lt e; have gb : G b = none := by
      rcases hs.ex b with ⟨_, z⟩ | ⟨z, _⟩
      · exact absurd a (z i)
      · exact z
    obtain ⟨ob, eo⟩ : ∃ ob, s.heap.get? b = some ob := by
      have := I.hok b o e
      cases o with
      | lst xs => obtain ⟨_, its, n, _, e⟩ := this; exact ⟨_, e⟩
      | dK xs => obtain ⟨_, _, _, _, ob, _, _, e, _⟩ := this; exact ⟨ob, e⟩
      | dT xs => obtain ⟨_, _, _, _, ob, _, _, e, _⟩ := this; exact ⟨ob, e⟩
      | _ => exact so.elim
    exact ⟨o, ob, e, so, eo, gb⟩
  have own1 : ∀ i b, At σ δ i b -> G1 b = none := fun i b a => by
    obtain ⟨o, ob, _, _, eo, gb⟩ := ownx i b a; exact un.free b ob eo gb (by simp)
  have keepo : ∀ i b, At σ δ i b -> ∀ ob, s.heap.get? b = some ob -> s'.heap.get? b = some ob := fun i b a ob eo => by
    obtain ⟨o, _, e, _, _, gb⟩ := ownx i b a; refine un.keep b ob eo gb (fun z => ?_) (by simp); rw [I.stkFree b z] at e; cases e
  have tp : ∀ b xs, H b = some (.tup xs) -> mix σ δ H G1 b = some (.tup xs) := fun b xs z => by
    obtain ⟨z1, z2⟩ := hs.hard z (fun y => y); rw [mix_not z2]; exact un.tups b xs z1
  refine ⟨v, G1, ?_, r, q, own1⟩; have un2 : Un (frs X.stack) [] H (mix σ δ H G1) s.heap s'.heap := by
    refine ⟨fun b o e n hb hx => un.keep b o e (hs.nil_of n).1 hb hx, fun b o e n hb hx => un.slot b o e (hs.nil_of n).1 hb hx, fun b o e n hx => ?_, un.there, tp, fun b o u' z => ?_, fun b ps z => ?_⟩
    · rw [mix_not (hs.nil_of n).2]; exact un.free b o e (hs.nil_of n).1 hx
    · obtain ⟨z1, z2⟩ := hs.hard z (fun y => y)
      rw [mix_not z2]; exact un.frzs b o u' z1
    · obtain ⟨z1, z2⟩ := hs.hard z (fun y => y)
      rw [mix_not z2]; exact un.tbls b ps z1
  have hok2 : HOk X.prog X.w (mix σ δ H G1) s'.heap := fun a o e => by
    by_cases ha : ∃ i, At σ δ i a
    · obtain ⟨i, ai⟩ := ha
      rw [mix_own ai] at e; obtain ⟨o', ob, e', so, eo, _⟩ := ownx i a ai; rw [e] at e'; cases e'; have x := I.hok a o e
      cases o with
      | lst xs => obtain ⟨z, its, n, r', e2⟩ := x; exact ⟨z, its, n, r', keepo i a ai _ e2⟩
      | dK xs => obtain ⟨z, y, vs, r', ob', es, ep, e2, c⟩ := x; exact ⟨z, y, vs, r', ob', es, ep, keepo i a ai _ e2, c⟩
      | dT xs =>
        obtain ⟨z, y, xs', r', ob', es, ep, e2, c⟩ := x; exact ⟨z, y, xs', Paired.mapP r' fun p q' z' => ⟨z'.1, tp _ _ z'.2.1, z'.2.2⟩, ob', es, ep, keepo i a ai _ e2, c⟩
      | _ => exact so.elim
    · have na : ∀ i, ¬ At σ δ i a := fun i z => ha ⟨i, z⟩
      rw [mix_not na] at e; refine ObjOk.sub (H1 := G1) (fun b xs z => ?_) (fun b c z => ?_) (hok a o e)
      · rw [mix_not fun i y => by rw [own1 i b y] at z; cases z]; exact z
      · rw [mix_not fun i y => by rw [own1 i b y] at z; cases z]; exact z
  obtain ⟨hh, gg, d, t, os'⟩ := s'; obtain rfl : os' = s.os := os; exact I.call (h' := hh) (g' := gg) (d' := d) (t' := t) (ch := []) un2 hok2 bare (fun b z => absurd z (by simp))
theorem Hs.behind_val {G1 : Hp} {d : D} {v : V} (hs : Hs X.K H0 σ δ G H) (own1 : ∀ i b, At σ δ i b -> G1 b = none) (ok : RetOk X.K G G1 v (.val d)) : Nx X.K H0 σ δ G H G1 (mix σ δ H G1) /\ Rep X.K G1 d v := by
  obtain ⟨s1, r⟩ := ok; have ex : ∀ b, (G1 b = mix σ δ H G1 b /\ ∀ i, ¬ At σ δ i b) \/ (G1 b = none /\ ∃ i, At σ δ i b) := fun b => by
    by_cases ha : ∃ i, At σ δ i b
    · obtain ⟨i, ai⟩ := ha
      exact .inr ⟨own1 i b ai, i, ai⟩
    · have na : ∀ i, ¬ At σ δ i b := fun i z => ha ⟨i, z⟩
      exact .inl ⟨(mix_not na).symm, na⟩
  refine ⟨⟨⟨hs.len, hs.base.trans s1, ex, fun i d e => ?_, fun i d e => ?_, fun i p ds e => ?_, hs.ne⟩, s1, fun b o e => ?_⟩, r⟩
  · obtain ⟨v, e1, r1⟩ := hs.fr i d e
    exact ⟨v, e1, Rep.mono s1 _ _ r1⟩
  · obtain ⟨p, e1, o⟩ := hs.ow i d e
    exact ⟨p, e1, o.mono s1 (mix_own ⟨_, e, True.intro, e1⟩)⟩
  · obtain ⟨e1, o⟩ := hs.lk i p ds e
    exact ⟨e1, o.mono s1 (mix_own ⟨_, e, True.intro, e1⟩)⟩
  · rcases hs.ex b with ⟨q, a⟩ | ⟨q, i, a⟩
    · rw [mix_not a]; exact s1 b o (q.trans e)
    · rw [mix_own a]; exact e
theorem Hs.behind_own {G1 G2 : Hp} {d : D} {p : Addr} (hs : Hs X.K H0 σ δ G H) (own1 : ∀ i b, At σ δ i b -> G1 b = none) (s2 : Same G G2) (gp : G2 p = none) (eq : ∀ b, b ≠ p -> G2 b = G1 b) (o : Own X.K G2 G1 p d) :
 Hs X.K H0 (some (.ref p) :: σ) (.ow d :: δ) G2 (mix σ δ H G1) /\ Same H (mix σ δ H G1) := by
  obtain ⟨ob, eo, so⟩ := o.soft; have nap : ∀ i, ¬ At σ δ i p := fun i a => by rw [own1 i p a] at eo; cases eo
  have mp : mix σ δ H G1 p = G1 p := mix_not nap; have sm : Same H (mix σ δ H G1) := fun b u e => by
    rcases hs.ex b with ⟨q, a⟩ | ⟨q, i, a⟩
    · rw [mix_not a]
      have e2 := s2 b u (q.trans e); have hb : b ≠ p := ne_of_none e2 gp; rw [<- eq b hb]; exact e2
    · rw [mix_own a]; exact e
  have a0 : ∀ b, At (some (.ref p) :: σ) (.ow d :: δ) 0 b ↔ b = p := fun b => by
    rw [at_zero]
    constructor
    · rintro ⟨_, z⟩; cases z; rfl
    · rintro rfl; exact ⟨True.intro, rfl⟩
  refine ⟨⟨by simp [hs.len], hs.base.trans s2, fun b => ?_, fun j d' q => ?_, fun j d' q => ?_, fun j q' es q => ?_, fun j k b a1 a2 => ?_⟩, sm⟩
  · by_cases hb : b = p
    · subst hb; exact .inr ⟨gp, 0, (a0 b).mpr rfl⟩
    · rcases hs.ex b with ⟨z1, z2⟩ | ⟨z1, j, z2⟩
      · refine .inl ⟨by rw [mix_not z2]; exact eq b hb, fun j a => ?_⟩
        cases j with
        | zero => exact hb ((a0 b).mp a)
        | succ j => exact z2 j (at_cons.mp a)
      · exact .inr ⟨by rw [eq b hb]; exact own1 j b z2, j + 1, at_cons.mpr z2⟩
  · cases j with
    | zero => simp at q
    | succ j =>
      obtain ⟨v, e1, r1⟩ := hs.fr j d' (by simpa using q); exact ⟨v, by simpa using e1, Rep.mono s2 _ _ r1⟩
  · cases j with
    | zero =>
      simp at q; subst q; exact ⟨p, rfl, o.mono (Same.refl _) mp⟩
    | succ j =>
      have q' : δ[j]? = some (.ow d') := by simpa using q
      obtain ⟨b, w1, w2⟩ := hs.ow j d' q'; exact ⟨b, by simpa using w1, w2.mono s2 (mix_own ⟨_, q', True.intro, w1⟩)⟩
  · cases j with
    | zero => simp at q
    | succ j =>
      have q'' : δ[j]? = some (.lk q' es) := by simpa using q
      obtain ⟨w1, w2⟩ := hs.lk j q' es q''; exact ⟨by simpa using w1, w2.mono s2 (mix_own ⟨_, q'', True.intro, w1⟩)⟩
  · cases j with
    | zero =>
      cases k with
      | zero => rfl
      | succ k =>
        have z := (a0 b).mp a1; subst z; exact absurd (at_cons.mp a2) (nap k)
    | succ j =>
      cases k with
      | zero =>
        have z := (a0 b).mp a2; subst z; exact absurd (at_cons.mp a1) (nap j)
      | succ k =>
        have := hs.ne j k b (at_cons.mp a1) (at_cons.mp a2); omega
theorem Hs.behind_new {G1 : Hp} {d : D} {v : V} (hs : Hs X.K H0 σ δ G H) (own1 : ∀ i b, At σ δ i b -> G1 b = none) (ok : RetOk X.K G G1 v (.new d)) :
 ∃ G2, Hs X.K H0 (some v :: σ) (.ow d :: δ) G2 (mix σ δ H G1) /\ Same G G2 /\ Same H (mix σ δ H G1) := by
  obtain ⟨G2, p, rfl, s2, gp, eq, o⟩ := ok; obtain ⟨h1, h2⟩ := hs.behind_own own1 s2 gp eq o; exact ⟨G2, h1, s2, h2⟩
theorem Hs.behind_two {G1 : Hp} {x y : D} {v : V} (hs : Hs X.K H0 σ δ G H) (own1 : ∀ i b, At σ δ i b -> G1 b = none) (ok : RetOk X.K G G1 v (.two x y)) :
 ∃ G2 a p q, v = .ref a /\ G2 a = some (.tup [.ref p, .ref q]) /\ Hs X.K H0 (some (.ref p) :: some (.ref q) :: σ) (.ow x :: .ow y :: δ) G2 (mix σ δ H G1) /\ Same G G2 /\ Same H (mix σ δ H G1) := by
  obtain ⟨G2, a, p, q, rfl, s2, ga, ne, gp, gq, eq, ox, oy⟩ := ok; obtain ⟨o1, e1, _⟩ := ox.soft; have nap : ∀ i, ¬ At σ δ i p := fun i z => by rw [own1 i p z] at e1; cases e1
  let G3 : Hp := fun b => if b = p then none else G1 b
  have g3 : ∀ b, b ≠ p -> G3 b = G1 b := fun b hb => if_neg hb
  obtain ⟨h1, h2⟩ := hs.behind_own (G1 := G3) (G2 := G2) (d := y) (p := q) (fun i b z => by
      by_cases hb : b = p
      · exact if_pos hb
      · rw [g3 b hb]; exact own1 i b z) s2 gq (fun b hb => by
      by_cases hp : b = p
      · subst hp; rw [gp]; exact (if_pos rfl).symm
      · rw [g3 b hp]; exact eq b hp hb) (oy.mono (Same.refl _) (g3 q (fun z => ne z.symm)))
  have m3 : mix σ δ H G1 = upd (mix σ δ H G3) p o1 := by
    funext b
    by_cases hb : b = p
    · subst hb; rw [upd_same, mix_not nap]; exact e1
    · rw [upd_ne hb]
      by_cases ha : ∃ i, At σ δ i b
      · obtain ⟨i, ai⟩ := ha; rw [mix_own ai, mix_own ai]
      · rw [mix_not fun i z => ha ⟨i, z⟩, mix_not fun i z => ha ⟨i, z⟩, g3 b hb]
  have n3 : mix σ δ H G3 p = none := by rw [mix_not nap]; exact if_pos rfl
  refine ⟨G2, a, p, q, rfl, ga, ?_, s2, ?_⟩
  · rw [m3]
    exact h1.fresh n3 (ox.mono (Same.refl _) (by rw [upd_same, e1]))
  · rw [m3]; exact h2.trans (upd_mono n3)
end
structure Fn2 (P : Program) (w : World) (K : PySem.W.Frag) (mg : Str -> Option Value) (base : Heap) (k : Nat) (x : Str) (sp : Sp2) : Prop where
  ex : ∃ (f : Addr) (fd : FuncData) (ps : List Str), FnOk P w K mg base CX0 k f fd ps (liftSp K sp) /\ mg x = some (.ref f) /\ PySem.W.keepIn K (.ref f) = true /\ Binds K fd ps []
section
variable {X : Cx} {H0 : Hp} {k : Nat} {x : Str} {sp : Sp2} {e : Expr} {es : List Expr} {tr : RA} {p pos : Pos}
theorem run_fn2 {pins : List (Addr × Obj)} {σ : L2.St} {δ : List Sl} {G H : Hp} {s : Shared} {f : Addr} {fd : FuncData} {ps : List Str} {us : List Value} {vs : List V} {ds : List D} {Qd : Ret -> Prop} {Q : Value -> Shared -> Prop}
 (F : FnOk X.prog X.w X.K X.mg X.base CX0 k f fd ps (liftSp X.K sp)) (hr : Room k X.A) (hb : Binds X.K fd ps []) (hs : Hs X.K H0 σ δ G H) (I : Inv X pins σ H s) (r : Vals vs us) (rd : Reps X.K G ds vs) (h : sp ds Qd)
 (q : ∀ v G1 r u s', Inv X pins σ (mix σ δ H G1) s' -> RelV v u -> (∀ i b, At σ δ i b -> G1 b = none) -> RetOk X.K G G1 v r -> Qd r -> Q u s') : wpAny (model X.prog X.w) X.A (call (.ref f) us) Q X.xe s := by
  have hh : liftSp X.K sp vs G (fun v G1 => ∃ r, RetOk X.K G G1 v r /\ Qd r) E0 := ⟨ds, Qd, rd, h, fun v H' r ok q => ⟨r, ok, q⟩⟩; have hl : us.length = ps.length := by rw [<- r.length]; exact F.len _ _ _ _ hh
  have hbt : BindsTo s fd ⟨us, []⟩ (ps.zip us) := by simpa using hb s us I.kIn (by simpa using hl)
  refine wpAny_call (codeAny_mono (F.run X.A X.stack s G ⟨us, []⟩ us vs _ E0 hr (hs.env0 I) hbt r hh) fun r s' hq => ?_)
  cases r with
  | error e => exact False.elim hq
  | ok fl =>
    cases fl with
    | ret u =>
      obtain ⟨v, G1, I1, rv, ⟨r, ok, q1⟩, own1⟩ := hs.behind I hq; exact q v G1 r u s' I1 rv own1 ok q1
    | next => exact False.elim hq
    | brk => exact False.elim hq
    | cont => exact False.elim hq
def retQ (Qd : D -> Prop) (r : Ret) : Prop := match r with
  | .val d => Qd d
  | .new d => Qd d
  | .two x y => Qd (.tup [x, y])
  | .fo x y => Qd (.tup [x, y])
def rCall (sp : Sp2) (tr : RA) (δ : List Sl) (Q : D -> Prop) : Prop := tr δ fun ds => sp ds (retQ Q)
theorem e_call (F : Fn2 X.prog X.w X.K X.mg X.base k x sp) (hr : Room k X.A) (ha : PA2 X H0 (e :: es) tr) (hg : Gl X x := by rfl) (hdb : (x == ("__debug__" : Str)) = false := by decide)
 (he : starEach (e :: es) X.env = (false, eval e X.env) :: starEach es X.env := by rfl) (hpl : (backTo pos (starEach es X.env)).any (·.1) = false := by rfl) : PE2 X H0 (.Call (.Name x p) (e :: es) [] pos) (rCall sp tr) := by
  obtain ⟨f, fd, ps, F, hm, hk, hb⟩ := F.ex; intro pins s σ H Q I ⟨δ, G, Qd, hs, ht, kk⟩; refine wpAny_Call_Name_kw (ld_glob I hg hm ?_ hdb); have hA : liftA X.K H0 tr σ H (fun vs H' => ∃ G' ds, Nx X.K H0 σ δ G H G' H' /\ Reps X.K G' ds vs /\ sp ds (retQ Qd)) := ⟨δ, G, _, hs, ht, fun vs H' G' ds n r q => ⟨G', ds, n, r, q⟩⟩; refine PySem.W.callWith_K (h₀ := X.base) I.ok.mod.kin hk (thn (ha pos pins s σ H _ I hA) fun us s1 ⟨vs, H1, I1, r, G', ds, n, rd, q⟩ => ⟨I1.kIn, ?_⟩) he hpl; refine run_fn2 F hr hb n.hs I1 r rd q fun v G1 r u s' I2 rv own1 ok q2 => ?_
  cases r with
  | val d =>
    obtain ⟨n2, r2⟩ := n.hs.behind_val own1 ok; exact ⟨v, _, I2, rv, kk v _ _ d (n.trans n2) r2 q2⟩
  | new d =>
    obtain ⟨G2, n2, sg, sh⟩ := n.hs.behind_new own1 ok; obtain ⟨G3, n3, s3, r3⟩ := n2.settle; exact ⟨v, _, I2, rv, kk v _ _ d ⟨n3, (n.g.trans sg).trans s3, n.h.trans sh⟩ r3 q2⟩
  | two x y =>
    obtain ⟨G2, a, p, q, rfl, ga, n2, sg, sh⟩ := n.hs.behind_two own1 ok; obtain ⟨G3, n3, s3, r3⟩ := n2.settle; obtain ⟨G4, n4, s4, r4⟩ := n3.settle; exact ⟨_, _, I2, rv, kk _ _ _ (.tup [x, y]) ⟨n4, ((n.g.trans sg).trans s3).trans s4, n.h.trans sh⟩ (by simp only [Rep]; exact ⟨a, _, rfl, s4 _ _ (s3 _ _ ga), Reps.cons (Rep.mono s4 _ _ r3) (Reps.cons r4 Reps.nil)⟩) q2⟩
  | fo x y =>
    obtain ⟨G2, a, vx, q, rfl, s2, ga, rx, gq, eq, oy⟩ := ok; obtain ⟨n2, sh⟩ := n.hs.behind_own own1 s2 gq eq oy; obtain ⟨G3, n3, s3, r3⟩ := n2.settle; exact ⟨_, _, I2, rv, kk _ _ _ (.tup [x, y]) ⟨n3, (n.g.trans s2).trans s3, n.h.trans sh⟩ (by simp only [Rep]; exact ⟨a, _, rfl, s3 _ _ ga, Reps.cons (Rep.mono s3 _ _ rx) (Reps.cons r3 Reps.nil)⟩) q2⟩
end
section
variable {prog : Program} {w : World} {A : Around} {E : Value -> Shared -> Prop}
theorem draw_list {it t : Addr} {items : Array Value} (hne : t ≠ it) : ∀ (n i : Nat) (s : Shared) (Q : List Value -> Shared -> Prop), s.heap.IsListIter it t i -> s.heap.IsList t items -> i + n <= items.size ->
 (∀ h', h'.IsListIter it t (i + n) -> Heap.SameBut it s.heap h' -> Q ((items.toList.drop i).take n) { s with heap := h' }) -> wpAny (model prog w) A (draw (.ref it) n) Q E s
  | 0, i, s, Q, hit, _, _, hQ => by
    show wpAny _ _ (pure []) Q E s
    exact wpAny_pure (by simpa using hQ s.heap hit (Heap.SameBut.refl ..))
  | n + 1, i, s, Q, hit, ht, hle, hQ => by
    have hlt : i < items.size := by omega
    show wpAny _ _ (pyNext (.ref it) >>= _) Q E s
    refine wpAny_bind (wpAny_pyNext_list_item hit ht (x := items[i]) (by simp [hlt]) fun h₁ hit₁ hs₁ => ?_); refine wpAny_bind (wpAny_holding (draw_list hne n (i + 1) _ _ hit₁ (ht.at fun o e => (hs₁.2 t hne).trans e) (by omega) fun h₂ hit₂ hs₂ => wpAny_pure ?_)); have hd : items.toList.drop i = items[i] :: items.toList.drop (i + 1) := by simp [List.drop_eq_getElem_cons, hlt]
    have := hQ h₂ (by rw [show i + (n + 1) = i + 1 + n by omega]; exact hit₂) (hs₁.trans hs₂); rw [hd, List.take_succ_cons] at this; exact this
theorem unpackItems_list {s : Shared} {t : Addr} {items : Array Value} {Q : List Value -> Shared -> Prop} (hh : A.handled = none) (ht : s.heap.IsList t items)
 (hQ : ∀ h', Heap.ExtBut s.heap.objs.size s.heap h' -> Q items.toList { s with heap := h' }) : wpAny (model prog w) A (unpackItems (.ref t) items.size none) Q E s := by
  have hlt : t ≠ s.heap.objs.size := by obtain ⟨o, ho, _⟩ := ht; exact Nat.ne_of_lt (Heap.lt_size ho)
  unfold unpackItems; refine wpAny_bind ?_
  · unfold notIterableAtAll
    refine wpAny_bind (wpAny_specialOf ht.typeIs PySem.slot_list_iter.lookup ?_); refine wpAny_pure ?_; simp only [Bool.false_eq_true, if_false]; refine wpAny_bind (wpAny_holding (wpAny_pyIter_list ht ?_)); refine wpAny_bind (wpAny_holding (draw_list hlt items.size 0 _ _ ⟨_, Heap.get?_push_size _ rfl, rfl, rfl⟩ (ht.at fun o e => Heap.get?_push_of_some _ e) (by omega) fun h₁ hit₁ hs₁ => ?_)); have hall : List.take items.size (List.drop 0 items.toList) = items.toList := by
      rw [List.drop_zero]; exact List.take_of_length_le (by simp)
    rw [hall]; rw [if_neg (by simp)]; have ht₁ : h₁.IsList t items := ht.at fun o e => (hs₁.2 t hlt).trans (Heap.get?_push_of_some _ e)
    refine wpAny_bind (wpAny_holding (wpAny_pyNext_list_end hh hit₁ ht₁ (by simp) fun h₂ he₂ => ?_)); simp only [Option.isSome_none, Bool.false_eq_true, if_false]; refine wpAny_pure (hQ h₂ fun b o hb e => he₂ b o hb (hs₁.extBut b o hb (Heap.get?_push_of_some _ e)))
theorem assign_Tuple_list {s : Shared} {env : Env} {elts : List Expr} {x1} {pos : Pos} {t : Addr} {items : Array Value} {Q : Unit -> Shared -> Prop} (hh : A.handled = none) (ht : s.heap.IsList t items)
 (hn : (assignEach elts env).length = items.size) (hstar : (assignEach elts env).findIdx? (·.1) = none)
 (h : ∀ h', Heap.ExtBut s.heap.objs.size s.heap h' -> wpAny (model prog w) A (assignInOrder ((assignEach elts env).map (·.2)) items.toList) Q E { s with heap := h' }) :
 wpAny (model prog w) A (assign (.Tuple elts x1 pos) env (.ref t)) Q E s := by
  rw [PyProof.Rows.assign_Tuple]; refine wpAny_bind (wpAny_standAt ?_); unfold unpack; rw [hn, hstar]; exact wpAny_bind (wpAny_holding (unpackItems_list hh ht h))
end
section
variable {X : Cx} {H0 : Hp} {es : List Expr} {gs : RGs} {pos : Pos}
def gLstT (K : PySem.W.Frag) (n : Nat) (t : TGs) : TG := fun v σ H Q => ∃ a xs, v = .ref a /\ SqL K H a xs /\ xs.length = n /\ t xs σ H Q
theorem pg_lst {es : List Expr} {k : Nat} {t : TGs} {n : Nat} (hc : X.calm = true) (h : PGs X es t)
 (hn : (assignEach es X.env).length = n := by rfl) (hst : (assignEach es X.env).findIdx? (·.1) = none := by rfl) : PG X (.Tuple es k pos) (gLstT X.K n t) := by
  intro pins s σ H v u Q I r hw; obtain ⟨a, xs, e1, hq, hl, hw⟩ := hw; subst e1; cases r; obtain ⟨its, rv, ht, hz⟩ := I.list hq; refine assign_Tuple_list (I.ok.hd hc) ht.isList (by simp [hn, <- hl, rv.length]) hst fun h' hx => ?_
  have I1 : L2.Inv X pins σ H { s with heap := h' } := I.kept (t' := s.toks) fun b o e => hx b o (Nat.ne_of_lt (Heap.lt_size e)) e
  exact h pins _ σ H xs _ Q I1 (by simpa using rv) hw
def gLst2 (n : Nat) (gs : RGs) (d : D) (δ : List Sl) (Q : List Sl -> Prop) : Prop := match d with
  | .lst ds => ds.length = n /\ gs ds δ Q
  | _ => False
theorem g_lst {n k : Nat} (hc : X.calm = true) (h : PGs2 X H0 es gs) (hn : (assignEach es X.env).length = n := by rfl) (hst : (assignEach es X.env).findIdx? (·.1) = none := by rfl) : PG2 X H0 (.Tuple es k pos) (gLst2 n gs) :=
  PG.weak (pg_lst (n := n) hc h hn hst) fun v σ H Q ⟨δ, G, d, Qd, hs, r, h, k⟩ => by
    cases d with
    | lst ds =>
      simp only [Rep] at r; obtain ⟨a, vs, rfl, h2, h3⟩ := r; exact ⟨a, vs, rfl, hs.sub.seq h2, by rw [<- h3.length]; exact h.1, δ, G, ds, Qd, hs, h3, h.2, k⟩
    | _ => exact h.elim
end
section
def Ite (K : PySem.W.Frag) (a : Addr) : It :=
  ⟨fun i H => ∃ xs x, SqL K H a xs /\ xs[i]? = some x, fun i H x H' => ∃ p y, H p = none /\ x = .ref p /\ (∀ xs, SqL K H a xs -> xs[i]? = some y) /\ H' = upd H p (.tup [.int i, y]), fun i H => ∃ xs, SqL K H a xs /\ xs.length <= i⟩
theorem turn_enum {P : Program} {w : World} {K : PySem.W.Frag} {ts : List Expr} {k : Nat} {tp : Pos} (a e it : Addr) (hne : e ≠ it) : Turn P w K (.Tuple ts k tp) (Ite K a) [e, it] e (fun i h => (∃ old, IsEnum h e it i old) /\ h.IsListIter it a i) where
  mem := by simp
  obj := fun i h st b hb => by
    obtain ⟨⟨old, h1⟩, o, h2, c, d⟩ := st
    rcases List.mem_cons.mp hb with z | z
    · subst z; exact ⟨_, h1, fun v z => by cases z⟩
    · have z : b = it := by simpa using z
      subst z; exact ⟨o, h2, fun v z => by rw [d] at z; cases z⟩
  keep := fun i h h' st k => by
    obtain ⟨⟨old, h1⟩, h2⟩ := st; exact ⟨⟨old, k e (by simp) _ h1⟩, h2.at fun o q => k it (by simp) o q⟩
  item := by
    intro X hP hw hK hc i pins s σ H E I hf st hg; subst hP hw hK; obtain ⟨xs, x, hq, hx⟩ := hg; obtain ⟨its, rv, p, hz⟩ := I.list hq; obtain ⟨u, hu, ru⟩ := rv.get hx; obtain ⟨⟨old, h1⟩, h2⟩ := st; obtain ⟨f0, f1, f2, f3, f4, f5⟩ := hf e (by simp); obtain ⟨g0, g1, g2, g3, g4, g5⟩ := hf it (by simp); have fr : H s.heap.objs.size = none := I.hok.fresh (Nat.le_refl _); refine wpAny_pyNext_enum_item h1 h2 p.isList (x := u) (by simpa using hu) hne fun h' ho hit' hT hsz hk => ⟨_, rfl, ?_⟩
    have elt : e < s.heap.objs.size := Heap.lt_size h1; have ilt : it < s.heap.objs.size := by obtain ⟨o, q, _⟩ := h2; exact Heap.lt_size q
    refine wpAny_letOwnedTupleGo_enum ho fun h3 he3 hs3 => ?_
    replace hs3 : Heap.SameBut e h' h3 := hs3; have kk : ∀ b o, b ≠ e -> b ≠ it -> s.heap.get? b = some o -> h3.get? b = some o := fun b o hb hb' q => (hs3.2 b hb).trans (hk b o hb hb' q)
    have nit : ∀ b u, H b = some u -> b ≠ e /\ b ≠ it := fun b u q => ⟨(fun z => by rw [z, f0] at q; cases q), (fun z => by rw [z, g0] at q; cases q)⟩
    have hT3 : h3.get? s.heap.objs.size = some { cls := .type "tuple", data := .seq #[.int i s.toks, u] } := (hs3.2 _ (Nat.ne_of_gt elt)).trans hT; refine ⟨.ref s.heap.objs.size, upd H s.heap.objs.size (.tup [.int i, x]), ?_, rfl, ⟨_, x, fr, rfl, fun ys hy => by rw [I.list_inj hy hq]; exact hx, rfl⟩, ⟨⟨u, by simpa using he3⟩, hit'.at fun o q => (hs3.2 it hne.symm).trans q⟩, fun b hb => ?_⟩
    · suffices h : L2.Inv X pins σ (upd H s.heap.objs.size (.tup [.int i, x])) { s with heap := h3, gens := s.gens, drawn := s.drawn, toks := s.toks + 1 } from h
      refine I.step (g' := s.gens) (d' := s.drawn) (ch := [e, it]) (h' := h3) (t' := s.toks + 1) (fun b hb => ?_) (fun b o _ _ hc e' _ => ?_) (fun b o _ _ hc e' _ => ⟨o.slots, ?_⟩) (fun b o hc e' n => ?_) (fun b o hc e' => ⟨o, ?_⟩) (fun b ys q => ?_) (fun b o u' q => ?_) (fun b ps q => ⟨#[], ?_⟩) (fun m hm => ?_) (fun b o q => ?_) I.bare
      · rcases List.mem_cons.mp hb with z | z
        · subst z; exact ⟨f3, f1, f4, f5⟩
        · have z : b = it := by simpa using z
          subst z; exact ⟨g3, g1, g4, g5⟩
      · exact kk b o (fun z => hc (by simp [z])) (fun z => hc (by simp [z])) e'
      · exact kk b o (fun z => hc (by simp [z])) (fun z => hc (by simp [z])) e'
      · rw [upd_ne (Nat.ne_of_lt (Heap.lt_size e'))]; exact n
      · exact kk b o (fun z => hc (by simp [z])) (fun z => hc (by simp [z])) e'
      · rw [upd_ne (ne_of_none q fr)]; exact q
      · rw [upd_ne (ne_of_none q fr)]; exact q
      · rw [upd_ne (ne_of_none q fr), q]; simp
      · obtain ⟨o, es, ep, ho', r⟩ := hm
        exact ⟨o, es, ep, kk _ o f1.symm g1.symm ho', r⟩
      · by_cases hb : b = s.heap.objs.size
        · subst hb
          rw [upd_same] at q; cases q; exact ⟨by show 2 <= sizeLine; decide, [.int i s.toks, u], .cons ⟨_, rfl⟩ (.cons ru .nil), ⟨_, hT3, rfl, _, rfl⟩⟩
        · rw [upd_ne hb] at q
          refine (I.hok b o q).stay (fun c v hc z => ?_) (fun c z => ?_) (fun c ys z => ?_)
          · rcases hc with y | y
            · rw [y] at z ⊢; exact kk b v (nit b _ q).1 (nit b _ q).2 z
            · exact kk c v (nit c _ y).1 (nit c _ y).2 z
          · rw [upd_ne (ne_of_none z fr)]; exact z
          · rw [upd_ne (ne_of_none z fr)]; exact z
    · have hb' : b ≠ s.heap.objs.size := by
        rcases List.mem_cons.mp hb with z | z
        · subst z; exact Nat.ne_of_lt elt
        · have z : b = it := by simpa using z
          subst z; exact Nat.ne_of_lt ilt
      rw [upd_ne hb']; exact (hf b hb).1
  done := by
    intro X hP hw hK hc i pins s σ H E I hf st hg; subst hP hw hK; obtain ⟨xs, hq, hx⟩ := hg; obtain ⟨its, rv, p, hz⟩ := I.list hq; obtain ⟨⟨old, h1⟩, h2⟩ := st; obtain ⟨f0, f1, f2, f3, f4, f5⟩ := hf it (by simp); have hl := rv.length; exact wpAny_pyNext_enum_end (I.ok.hd hc) h1 h2 p.isList (by simp; omega) fun h' eb => ⟨rfl, I.turned (t' := s.toks) (fun b o hb e => eb b o hb e) f0 f1 f3 f4 f5⟩
  self := fun _ _ _ _ _ st h => by
    obtain ⟨⟨old, h1⟩, _⟩ := st; exact wpAny_pyIter_enum h1 h
variable {X : Cx} {H0 : Hp}
def iEnum (K : PySem.W.Frag) (ta : TA) : TI := fun σ H R => ta σ H fun vs H1 => ∃ a, vs = [.ref a] /\ (∃ xs, SqL K H1 a xs) /\ R (Ite K a) H1
theorem pi_enum {ts : List Expr} {k : Nat} {tp : Pos} {a : Expr} {ta : TA} {p pos : Pos} (hg : Gl X "enumerate") (hm : X.mg "enumerate" = none) (ha : PA X [a] ta) (hs : starEach [a] X.env = [(false, eval a X.env)] := by rfl) :
 PI X (.Tuple ts k tp) (.Call (.Name "enumerate" p) [a] [] pos) (iEnum X.K ta) := by
  intro pins s σ H R I h; refine wpAny_Call_Name_kw (ld_blt I hg hm (u := .type "enumerate") rfl ?_); refine PyProof.Rows.callWith_type1 (thn (ha pos pins s σ H _ I h) fun us s1 ⟨vs, H1, I1, r1, q1⟩ => ?_) hs rfl; obtain ⟨l, e, ⟨xs, hq⟩, q⟩ := q1; subst e; obtain ⟨u, rfl, ru⟩ := vals1 r1; cases ru; obtain ⟨its, rv, pl, hz⟩ := I1.list hq; refine call_enumerate_list pl.isList fun h' he hit hsz hk => ?_
  refine wpAny_pyIter_enum he ?_
  have I2 : L2.Inv X pins σ H1 { s1 with heap := h' } := I1.kept (t' := s1.toks) hk; refine ⟨s1.heap.objs.size + 1, [s1.heap.objs.size + 1, s1.heap.objs.size], _, _, H1, rfl, I2, turn_enum l _ _ (Nat.succ_ne_self _), ⟨⟨_, by simpa using he⟩, hit⟩, fun b hb => ?_, q⟩; have hb' : s1.heap.objs.size <= b := by
    rcases List.mem_cons.mp hb with z | z
    · rw [z]; exact Nat.le_succ _
    · have z : b = s1.heap.objs.size := by simpa using z
      rw [z]; exact Nat.le_refl _
  exact I1.fpOk hb' (I1.hok.fresh hb')
def enumD (n : Nat) : List D -> List D
  | [] => []
  | d :: ds => .tup [.int n, d] :: enumD (n + 1) ds
theorem enumD_length (n : Nat) (ds : List D) : (enumD n ds).length = ds.length := by
  induction ds generalizing n with
  | nil => rfl
  | cons d ds ih => simp [enumD, ih]
theorem enumD_drop : ∀ (n i : Nat) (ds : List D) (d : D), ds[i]? = some d -> (enumD n ds).drop i = .tup [.int (n + i : Nat), d] :: (enumD n ds).drop (i + 1)
  | n, _, [], _, h => by simp at h
  | n, 0, d' :: ds, d, h => by simp at h; subst h; simp [enumD]
  | n, i + 1, d' :: ds, d, h => by
    have := enumD_drop (n + 1) i ds d (by simpa using h); simp only [enumD, List.drop_succ_cons]; rw [this]; simp only [Nat.add_assoc, Nat.add_comm 1 i]
def lst1 (ds : List D) (Q : List D -> Prop) : Prop := match ds with
  | [.lst xs] => Q xs
  | _ => False
theorem lst1_of {ds : List D} {Q : List D -> Prop} (h : lst1 ds Q) : ∃ xs, ds = [.lst xs] /\ Q xs := by
  unfold lst1 at h
  split at h
  · exact ⟨_, rfl, h⟩
  · exact h.elim
def rForE (tr : RA) (g : RG) (tb : RS) (E : Ends2) (δ : List Sl) : Prop := tr δ fun ds => lst1 ds fun xs => loop g tb E (enumD 0 xs) δ
variable {ts : List Expr} {k : Nat} {tp p pos pos2 : Pos} {a : Expr} {tr : RA} {g : RG} {tb : RS} {body : List Stmt}
theorem s_forE (hp : PassesOwn (model X.prog X.w) X.A X.env X.xe) (hc : X.calm = true) (hgl : Gl X "enumerate") (hm : X.mg "enumerate" = none) (ha : PA2 X H0 [a] tr) (hg : PG2 X H0 (.Tuple ts k tp) g) (hb : PSs2 X H0 body tb) (hst : starEach [a] X.env = [(false, eval a X.env)] := by rfl)
 (hs : ∀ x, foldedSetIterable (.Call (.Name "enumerate" p) [a] [] pos2) X.env x = pure x := by intro _; rfl) : PS2 X H0 (.For (.Tuple ts k tp) (.Call (.Name "enumerate" p) [a] [] pos2) body [] pos) (rForE tr g tb) :=
  PS.weak (ps_for hp hc (pi_enum hgl hm ha hst) hg hb hs) fun D σ H ⟨δ, G, E, hs, ht, go⟩ => ⟨δ, G, _, hs, ht, fun vs H1 G1 ds n1 r1 q1 => by
    obtain ⟨xs, rfl, q2⟩ := lst1_of q1; simp only [Reps, Rep] at r1; obtain ⟨v, r, rfl, ⟨l, ws, rfl, h2, h3⟩, rfl⟩ := r1; refine ⟨l, rfl, ⟨ws, n1.hs.sub.seq h2⟩, fun i m σ' H' => m = ws.length - i /\ i <= ws.length /\ ∃ δ' G', Hs X.K H0 σ' δ' G' H' /\ Same G1 G' /\ loop g tb E ((enumD 0 xs).drop i) δ', ⟨ws.length, by simp, Nat.zero_le _, δ, G1, n1.hs, Same.refl _, q2⟩, ?_⟩; rintro i m σ' H' ⟨rfl, hi, δ', G', h', s', q'⟩; have sq : SqL X.K H' l ws := h'.sub.seq (s'.seq h2)
    by_cases hlt : i < ws.length
    · have hx : ws[i]? = some ws[i] := by simp [hlt]
      obtain ⟨d, ed, rd⟩ := h3.getV hx; rw [enumD_drop 0 i xs d ed] at q'; refine .inr ⟨⟨ws, ws[i], sq, hx⟩, fun σ2 H2 => ∃ δ' G', Hs X.K H0 σ2 δ' G' H2 /\ Same G1 G' /\ loop g tb E ((enumD 0 xs).drop (i + 1)) δ', fun σ2 H2 z => ⟨ws.length - (i + 1), by omega, rfl, hlt, z⟩, fun x H2 ⟨p, y, hp, ex, hy, eh⟩ => ?_⟩; subst ex eh; have ey : ws[i] = y := by
        have := hy ws sq; rw [hx] at this; exact Option.some.inj this
      obtain ⟨h4, s4⟩ := h'.laid (o := .tup [.int i, y]) hp; refine ⟨δ', _, .tup [.int (0 + i : Nat), d], _, h4, ?_, q', fun σ2 H2 δ2 G2 h2' s2 q2 => ⟨δ2, G2, _, h2', q2, ⟨fun σ3 H3 δ3 G3 h3' s3 ⟨δ4, f4, q3⟩ => ⟨δ4, G3, h3'.forget f4, ((s'.trans s4).trans s2).trans s3, q3⟩, go.rt, fun σ3 H3 δ3 G3 h3' s3 q3 => go.nx σ3 H3 δ3 G3 h3' ((((n1.g.trans s').trans s4).trans s2).trans s3) q3, fun σ3 H3 δ3 G3 h3' s3 ⟨δ4, f4, q3⟩ => ⟨δ4, G3, h3'.forget f4, ((s'.trans s4).trans s2).trans s3, q3⟩⟩⟩⟩; simp only [Rep]; refine ⟨p, _, rfl, upd_same, Reps.cons (by simp only [Rep]; rw [Nat.zero_add]) (Reps.cons ?_ Reps.nil)⟩; subst ey; exact Rep.mono (s'.trans s4) _ _ rd
    · have e : i = ws.length := by omega
      subst e; refine .inl ⟨⟨ws, sq, Nat.le_refl _⟩, go.nx σ' H' δ' G' h' (n1.g.trans s') ?_⟩; rw [List.drop_of_length_le (by rw [enumD_length, h3.length]; exact Nat.le_refl _)] at q'
      exact q'⟩
end
def RepsB (K : PySem.W.Frag) (G H : Hp) : List D -> List V -> Prop
  | [], vs => vs = []
  | d :: ds, vs => ∃ v r, vs = v :: r /\ RepB K G H d v /\ RepsB K G H ds r
def liftAB (K : PySem.W.Frag) (H0 : Hp) (t : RA) : TA := fun σ H Q => ∃ δ G Qd, Hs K H0 σ δ G H /\ t δ Qd /\ ∀ vs H' G' ds, Nx K H0 σ δ G H G' H' -> RepsB K G' H' ds vs -> Qd ds -> Q vs H'
def PAB2 (X : Cx) (H0 : Hp) (es : List Expr) (t : RA) : Prop := PA X es (liftAB X.K H0 t)
section
variable {X : Cx} {H0 : Hp} {e : Expr} {t : RE} {pos p : Pos} {es : List Expr} {tr : RA} {x : Str} {id T : String}
theorem ab_nil : PAB2 X H0 [] rNil := PA.weak pa_nil fun σ H Q ⟨δ, G, Qd, hs, ht, k⟩ => k [] H G [] (Nx.refl hs) rfl ht
theorem ab_cons (ha : PB2 X H0 e t) (hr : PAB2 X H0 es tr) (hs : starEach (e :: es) X.env = (false, eval e X.env) :: starEach es X.env := by rfl) : PAB2 X H0 (e :: es) (rCons t tr) :=
  PA.weak (pa_cons ha hr hs) fun σ H Q ⟨δ, G, Qd, hs, ht, k⟩ => ⟨δ, G, _, hs, ht, fun v H1 G1 d n1 r1 q1 => ⟨δ, G1, _, n1.hs, q1, fun vs H2 G2 ds n2 r2 q2 => k (v :: vs) H2 G2 (d :: ds) (n1.trans n2) ⟨v, vs, rfl, r1.mono n2.g n2.h, r2⟩ q2⟩⟩
def LfC (K : PySem.W.Frag) (r : List V -> Hp -> VK -> Prop) (r2 : List D -> (D -> Prop) -> Prop) : Prop :=
  ∀ (H0 : Hp) (σ : L2.St) (δ : List Sl) (G H : Hp) (vs : List V) (ds : List D) (Qd : D -> Prop) (Q : VK), Hs K H0 σ δ G H -> RepsB K G H ds vs -> r2 ds Qd -> (∀ v H' G' d, Nx K H0 σ δ G H G' H' -> Rep K G' d v -> Qd d -> Q v H') -> r vs H Q
def rCB (r2 : List D -> (D -> Prop) -> Prop) (tr : RA) (δ : List Sl) (Q : D -> Prop) : Prop := tr δ fun ds => r2 ds Q
variable {r : List V -> Hp -> VK -> Prop} {r2 : List D -> (D -> Prop) -> Prop}
theorem lift_cb (lf : LfC X.K r r2) : ∀ σ H Q, liftE X.K H0 (rCB r2 tr) σ H Q -> tCB r (liftAB X.K H0 tr) σ H Q := fun σ H Q ⟨δ, G, Qd, hs, ht, k⟩ =>
  ⟨δ, G, _, hs, ht, fun vs H1 G1 ds n1 r1 q1 => lf H0 σ δ G1 H1 vs ds Qd Q n1.hs r1 q1 fun v H2 G2 d n2 rr q2 => k v H2 G2 d (n1.trans n2) rr q2⟩
theorem e_callB (hc : CallR X (.builtin id) r) (lf : LfC X.K r r2) (hm : X.mg x = none) (hv : bootBuiltins x = some (.builtin id)) (ha : PAB2 X H0 (e :: es) tr) (hg : Gl X x := by rfl) (hn : x ≠ "__name__" := by decide) (hdb : (x == ("__debug__" : Str)) = false := by decide)
 (he : starEach (e :: es) X.env = (false, eval e X.env) :: starEach es X.env := by rfl) (hpl : (backTo pos (starEach es X.env)).any (·.1) = false := by rfl) : PE2 X H0 (.Call (.Name x p) (e :: es) [] pos) (rCB r2 tr) :=
  PE.weak (pe_callB hc hg hm hv ha hn hdb he hpl) (lift_cb lf)
def dLen (ds : List D) (Q : D -> Prop) : Prop := match ds with
  | [.lst xs] => Q (.int xs.length)
  | [.tup xs] => Q (.int xs.length)
  | _ => False
theorem lf_len {K : PySem.W.Frag} : LfC K (fun xs H Q => ∃ p ys, xs = [.ref p] /\ (SqL K H p ys \/ SqT K H p ys) /\ Q (.int ys.length) H) dLen := fun H0 σ δ G H vs ds Qd Q hs r h k => by
  unfold dLen at h
  split at h
  · rename_i xs
    obtain ⟨v, rr, rfl, ⟨a, ws, rfl, h2, h3⟩, h4⟩ := r; obtain rfl : rr = [] := h4; exact ⟨a, ws, rfl, .inl h2, k _ H G _ (Nx.refl hs) (by simp only [Rep]; rw [h3.length]) h⟩
  · rename_i xs
    obtain ⟨v, rr, rfl, ⟨a, ws, rfl, h2, h3⟩, h4⟩ := r; obtain rfl : rr = [] := h4; exact ⟨a, ws, rfl, .inr (SqT.of h2), k _ H G _ (Nx.refl hs) (by simp only [Rep]; rw [h3.length]) h⟩
  · exact h.elim
theorem e_len (hm : X.mg "len" = none) (ha : PAB2 X H0 (e :: es) tr) (hg : Gl X "len" := by rfl)
 (he : starEach (e :: es) X.env = (false, eval e X.env) :: starEach es X.env := by rfl) (hpl : (backTo pos (starEach es X.env)).any (·.1) = false := by rfl) : PE2 X H0 (.Call (.Name "len" p) (e :: es) [] pos) (rCB dLen tr) :=
  e_callB call_len_seq lf_len hm PySem.boot_len ha hg (by decide) (by decide) he hpl
end
section
variable {X : Cx} {H0 : Hp} {e : Expr} {t : RE} {pos cpos apos p : Pos} {x : Str}
def rApp (i : Nat) (te : RE) (E : Ends2) (δ : List Sl) : Prop := match δ[i]? with
  | some (.ow (.lst ds)) => te δ fun d => ds.length < sizeLine /\ E.nx (δ.set i (.ow (.lst (ds ++ [d]))))
  | _ => False
theorem s_app (i : Nat) (he : PE2 X H0 e t) (hN : X.N[i]? = some x := by rfl) (hv : Vis X.env.scope x := by first | exact Or.inl rfl | exact Or.inr (Or.inl rfl) | exact Or.inr (Or.inr rfl)) (hd : (x == ("__debug__" : Str)) = false := by decide)
 (hcd : (x == ("__classdict__" : Str)) = false := by decide)
 (hbase : attributeBase (.Name x p) "append" X.env (eval (.Name x p) X.env) = eval (.Name x p) X.env := by rfl)
 (hfew : ((backTo cpos (starEach [e] X.env)).all (fun x => !x.1) && (backToKw cpos (keywordEach [] X.env)).all (fun x => x.1.isSome)
 && decide ([e].length + ([] : List Keyword).length + (if ([] : List Keyword).isEmpty then 0 else 1) < 30)) = true := by rfl)
 (hline : (apos.endLine == cpos.line) = true := by rfl) (hs : starEach [e] X.env = (false, eval e X.env) :: starEach [] X.env := by rfl) (hplain : (backTo cpos (starEach [] X.env)).any (·.1) = false := by rfl)
 (hsw : swapsWith (.Call (.Attribute (.Name x p) "append" apos) [e] [] cpos) none pos.line X.env = pure false := by rfl) :
 PS2 X H0 (.Expr (.Call (.Attribute (.Name x p) "append" apos) [e] [] cpos) pos) (rApp i t) :=
  PS.weak (ps_expr (pe_bm PySem.F.plainAttrs_list PySem.F.slot_list_append PySem.F.type_list_append mt_append (pe_var hN hv hd hcd) (pa_cons he pa_nil hs) hbase hfew hline hs hplain) hsw) fun D σ H ⟨δ, G, E, hs, ht, go⟩ => by
    unfold rApp at ht
    split at ht
    · rename_i ds e0
      obtain ⟨q, e1, vs, h1, h2⟩ := hs.ow i _ e0; refine ⟨.ref q, e1, .inl ⟨rfl, vs, SqL.of h1⟩, δ, G, _, hs, ht, fun v H1 G1 d n1 r1 q1 => ?_⟩; obtain ⟨q', e1', vs', h1', h2'⟩ := n1.hs.ow i _ e0; rw [e1] at e1'; cases e1'; refine ⟨q, vs', v, rfl, rfl, h1', by rw [<- h2'.length]; exact q1.1, ?_⟩; exact go.nx _ _ _ G1 (n1.hs.write (d' := .lst (ds ++ [d])) e0 e1 ⟨_, upd_same, Reps.append h2' (Reps.cons r1 Reps.nil)⟩) n1.g q1.2
    · exact ht.elim
end
theorem loop_ind {g : RG} {tb : RS} {E : Ends2} (I : List D -> List Sl -> Prop) (fin : ∀ δ, I [] δ -> E.nx δ)
 (step : ∀ d r δ (L : List Sl -> Prop), (∀ δ2 δ3, I r δ3 -> Fg δ2 δ3 -> L δ2) -> I (d :: r) δ -> g d δ fun δ1 => tb { nx := L, rt := E.rt, bk := E.nx, ct := L } δ1) : ∀ ds δ, I ds δ -> loop g tb E ds δ
  | [], δ, h => fin δ h
  | d :: r, δ, h => step d r δ (fun δ2 => ∃ δ3, Fg δ2 δ3 /\ loop g tb E r δ3) (fun δ2 δ3 h' f => ⟨δ3, f, loop_ind I fin step r δ3 h'⟩) h
theorem cmulR {i j : Int} (h1 : -(2 ^ 64) < j := by decide) (h2 : j < 2 ^ 64 := by decide) : CMul i j := .inr ⟨h1, h2⟩
theorem cmulL {i j : Int} (h1 : -(2 ^ 64) < i := by decide) (h2 : i < 2 ^ 64 := by decide) : CMul i j := .inl ⟨h1, h2⟩
theorem cpow {i j : Int} (h1 : 0 <= j := by decide) (h2 : j <= 1000000 := by decide) (h3 : i.natAbs < 2 ^ 64 := by decide) : CPow i j := ⟨h1, h2, h3⟩
theorem atI_map {ns : List Int} {n : Nat} (h : n < ns.length) : atI (ns.map D.int) (n : Int) = some (.int (ns.getD n 0)) := atI_nat (by simp [h])
section
variable {c : RT} {t u : RS} {E : Ends2} {δ : List Sl}
end
def RdT (t : RT) (δ : List Sl) (b : Bool) : Prop := ∀ Q : Bool -> Prop, Q b -> t δ Q
def RdE (t : RE) (δ : List Sl) (d : D) : Prop := ∀ Q : D -> Prop, Q d -> t δ Q
section
variable {δ : List Sl} {u v : RT} {ta tb : RE} {b1 b2 : Bool}
theorem or_by (h1 : RdT u δ b1) (h2 : b1 = false -> RdT v δ b2) : RdT (rOr u v) δ (b1 || b2) := fun Q q => h1 _ ⟨(fun e => by subst e; exact q), (fun e => by subst e; exact h2 rfl Q q)⟩
theorem not_by (h1 : RdT u δ b1) : RdT (rNot u) δ (!b1) := fun Q q => h1 _ q
theorem andV_by (h1 : RdE ta δ (.bl b1)) (h2 : b1 = true -> RdE tb δ (.bl b2)) : RdE (rAndV ta tb) δ (.bl (b1 && b2)) := fun Q q => h1 _ ⟨(fun e => by subst e; exact h2 rfl Q q), (fun e => by subst e; exact q)⟩
theorem or_ff (h1 : RdT u δ false) (h2 : RdT v δ false) : RdT (rOr u v) δ false := or_by h1 fun _ => h2
theorem andV_tt (h1 : RdE ta δ (.bl true)) (h2 : RdE tb δ (.bl true)) : RdE (rAndV ta tb) δ (.bl true) := andV_by h1 fun _ => h2
end
section
variable {c : RT} {t u : RS} {E : Ends2} {δ : List Sl} {te : RE}
theorem if_f (h : RdT c δ false) (k : u E δ) : rIf c t u E δ := ⟨h _ (Two.f k)⟩
theorem if_by {b : Bool} (h : RdT c δ b) (k1 : b = true -> t E δ) (k2 : b = false -> u E δ) : rIf c t u E δ := ⟨h _ ⟨k1, k2⟩⟩
theorem if_p {p : Prop} [Decidable p] (h : RdT c δ (decide p)) (k1 : p -> t E δ) (k2 : ¬ p -> u E δ) : rIf c t u E δ := ⟨h _ (Two.dec k1 k2)⟩
theorem ret_by {d : D} (h : RdE te δ d) (q : E.rt (.val d) δ) : rRet te E δ := h _ q
end
inductive Drawn : List Int -> List Int -> Prop where
  | nil : Drawn [] []
  | cons {d s : Int} {ds ss : List Int} (h0 : 0 <= d) (h1 : d < s) (h : Drawn ds ss) : Drawn (d :: ds) (s :: ss)
theorem Drawn.three {s1 s2 s3 : Int} {P : List Int -> Prop} (h : ∀ a b c : Int, 0 <= a -> a < s1 -> 0 <= b -> b < s2 -> 0 <= c -> c < s3 -> P [a, b, c]) : ∀ out, Drawn out [s1, s2, s3] -> P out := fun out w => by
  cases w with | cons a0 a1 w => cases w with | cons b0 b1 w => cases w with | cons c0 c1 w => cases w with | nil => exact h _ _ _ a0 a1 b0 b1 c0 c1
theorem Drawn.snoc {out ss : List Int} {d s : Int} (h : Drawn out ss) (h0 : 0 <= d) (h1 : d < s) : Drawn (out ++ [d]) (ss ++ [s]) := by
  induction h with
  | nil => exact .cons h0 h1 .nil
  | cons a b _ ih => exact .cons a b ih
theorem cpos {n : Int} (h : 0 < n := by decide) : 0 < n := h
theorem sz3 : 3 <= sizeLine := by decide
mutual
def eqD : D -> D -> Bool
  | .non, y => match y with
    | .non => true
    | _ => false
  | .bl a, y => match y with
    | .bl b => a == b
    | .int b => (if a then 1 else 0) == b
    | _ => false
  | .int a, y => match y with
    | .bl b => a == (if b then 1 else 0)
    | .int b => a == b
    | _ => false
  | .str a, y => match y with
    | .str b => a == b
    | _ => false
  | .tup xs, y => match y with
    | .tup ys => eqDs xs ys
    | _ => false
  | .lst xs, y => match y with
    | .lst ys => eqDs xs ys
    | _ => false
  | .dK _, _ => false
  | .dT _, _ => false
  | .adr _, _ => false
  | .exc _ _, _ => false
def eqDs : List D -> List D -> Bool
  | [], ys => match ys with
    | [] => true
    | _ => false
  | x :: xs, ys => match ys with
    | y :: ys => eqD x y && eqDs xs ys
    | _ => false
end
def plainD : Nat -> D -> Bool
  | _, .non => true
  | _, .bl _ => true
  | _, .int _ => true
  | _, .str _ => true
  | n + 1, .tup xs => xs.all (plainD n)
  | n + 1, .lst xs => xs.all (plainD n)
  | _, _ => false
theorem eqDs_len : ∀ {xs ys : List D}, eqDs xs ys = true -> xs.length = ys.length
  | [], [], _ => rfl
  | [], _ :: _, h => by simp [eqDs] at h
  | _ :: _, [], h => by simp [eqDs] at h
  | x :: xs, y :: ys, h => by
    simp only [eqDs, Bool.and_eq_true] at h; simp [eqDs_len h.2]
theorem eqDs_range : ∀ (xs ys : List D), xs.length = ys.length -> (List.range xs.length).all (fun j => eqD (xs.getD j .non) (ys.getD j .non)) = eqDs xs ys
  | [], [], _ => rfl
  | [], _ :: _, h => by simp at h
  | _ :: _, [], h => by simp at h
  | x :: xs, y :: ys, h => by
    have ih := eqDs_range xs ys (by simpa using h); rw [List.length_cons, List.range_succ_eq_map, List.all_cons, List.all_map, eqDs]; rw [<- ih]; rfl
mutual
theorem eqD_self : ∀ (n : Nat) (d : D), plainD n d = true -> eqD d d = true
  | _, .non, _ => by simp [eqD]
  | _, .bl _, _ => by simp [eqD]
  | _, .int _, _ => by simp [eqD]
  | _, .str _, _ => by simp [eqD]
  | 0, .tup _, h => by simp [plainD] at h
  | 0, .lst _, h => by simp [plainD] at h
  | n + 1, .tup xs, h => by simp only [plainD] at h; simp only [eqD]; exact eqDs_self n xs h
  | n + 1, .lst xs, h => by simp only [plainD] at h; simp only [eqD]; exact eqDs_self n xs h
  | n, .dK _, h => by cases n <;> simp [plainD] at h
  | n, .dT _, h => by cases n <;> simp [plainD] at h
  | n, .adr _, h => by cases n <;> simp [plainD] at h
  | n, .exc _ _, h => by cases n <;> simp [plainD] at h
theorem eqDs_self : ∀ (n : Nat) (xs : List D), xs.all (plainD n) = true -> eqDs xs xs = true
  | _, [], _ => by simp [eqDs]
  | n, x :: xs, h => by
    rw [List.all_cons, Bool.and_eq_true] at h; simp only [eqDs, Bool.and_eq_true]; exact ⟨eqD_self n x h.1, eqDs_self n xs h.2⟩
end
section
variable {X : Cx} {pins : List (Addr × Obj)} {σ : L2.St} {H G : Hp} {s : Shared}
open SeqAt
theorem lst_tup_apart {K : PySem.W.Frag} {a : Addr} {xs ys : List V} (I : L2.Inv X pins σ H s) (h1 : SqL X.K H a xs) (h2 : SqT X.K H a ys) : False := by
  obtain ⟨its, r, pl, _⟩ := I.list h1; obtain ⟨its', r', pt, _⟩ := I.tuple h2; exact ne_of_list_tuple pl.isList pt rfl
mutual
theorem rep_eq (I : L2.Inv X pins σ H s) : ∀ (n : Nat) (d d' : D) (v : V), plainD n d = true -> plainD n d' = true -> Rep X.K H d v -> Rep X.K H d' v -> eqD d d' = true := fun n d d' v p p' r r' => by
  cases d with
  | adr _ => cases n <;> simp [plainD] at p
  | exc _ _ => cases n <;> simp [plainD] at p
  | dK _ => cases n <;> simp [plainD] at p
  | dT _ => cases n <;> simp [plainD] at p
  | non => cases d' <;> simp_all [Rep, eqD]
  | bl b => cases d' <;> simp_all [Rep, eqD]
  | int b => cases d' <;> simp_all [Rep, eqD]
  | str b => cases d' <;> simp_all [Rep, eqD]
  | tup xs =>
    simp only [Rep] at r; obtain ⟨a, vs, rfl, h1, h2⟩ := r
    cases d' with
    | tup ys =>
      simp only [Rep] at r'; obtain ⟨a', ws, e, h3, h4⟩ := r'; cases e; obtain rfl := I.tuple_inj (SqT.of h1) (SqT.of h3)
      cases n with
      | zero => simp [plainD] at p
      | succ n =>
        simp only [plainD] at p p'; simp only [eqD]; exact reps_eq I n xs ys _ p p' h2 h4
    | lst ys =>
      simp only [Rep] at r'; obtain ⟨a', ws, e, h3, h4⟩ := r'; cases e; exact (lst_tup_apart (K := X.K) I h3 (SqT.of h1)).elim
    | dK _ => cases n <;> simp [plainD] at p'
    | dT _ => cases n <;> simp [plainD] at p'
    | adr _ => cases n <;> simp [plainD] at p'
    | exc _ _ => cases n <;> simp [plainD] at p'
    | _ => simp [Rep] at r'
  | lst xs =>
    simp only [Rep] at r; obtain ⟨a, vs, rfl, h1, h2⟩ := r
    cases d' with
    | lst ys =>
      simp only [Rep] at r'; obtain ⟨a', ws, e, h3, h4⟩ := r'; cases e; obtain rfl := I.list_inj h1 h3
      cases n with
      | zero => simp [plainD] at p
      | succ n =>
        simp only [plainD] at p p'; simp only [eqD]; exact reps_eq I n xs ys _ p p' h2 h4
    | tup ys =>
      simp only [Rep] at r'; obtain ⟨a', ws, e, h3, h4⟩ := r'; cases e; exact (lst_tup_apart (K := X.K) I h1 (SqT.of h3)).elim
    | dK _ => cases n <;> simp [plainD] at p'
    | dT _ => cases n <;> simp [plainD] at p'
    | adr _ => cases n <;> simp [plainD] at p'
    | exc _ _ => cases n <;> simp [plainD] at p'
    | _ => simp [Rep] at r'
termination_by n => (n, 0)
theorem reps_eq (I : L2.Inv X pins σ H s) : ∀ (n : Nat) (xs ys : List D) (vs : List V), xs.all (plainD n) = true -> ys.all (plainD n) = true -> Reps X.K H xs vs -> Reps X.K H ys vs -> eqDs xs ys = true
  | n, [], ys, vs, _, _, h1, h2 => by
    simp only [Reps] at h1; subst h1
    cases ys with
    | nil => simp [eqDs]
    | cons y ys => simp [Reps] at h2
  | n, x :: xs, ys, vs, p, p', h1, h2 => by
    simp only [Reps] at h1; obtain ⟨v, r, rfl, h3, h4⟩ := h1
    cases ys with
    | nil => simp [Reps] at h2
    | cons y ys =>
      simp only [Reps] at h2; obtain ⟨v', r', e, h5, h6⟩ := h2; cases e; rw [List.all_cons, Bool.and_eq_true] at p p'; simp only [eqDs, Bool.and_eq_true]; exact ⟨rep_eq I n x y v p.1 p'.1 h3 h5, reps_eq I n xs ys r p.2 p'.2 h4 h6⟩
termination_by n xs => (n, xs.length + 1)
end
end
section
variable {X : Cx} {pins : List (Addr × Obj)} {σ : L2.St} {H G : Hp} {s : Shared}
open SeqAt
theorem items_eq {A : Around} {n : Nat} {xs ys : List D} {vs ws : List V} {its its2 : List Value} (hx : Reps X.K H xs vs) (hy : Reps X.K H ys ws) (rx : Vals vs its) (ry : Vals ws its2) (px : xs.all (plainD n) = true) (py : ys.all (plainD n) = true)
 (ih : ∀ d d' v v' u u', plainD n d = true -> plainD n d' = true -> Rep X.K H d v -> Rep X.K H d' v' -> L2.RelV v u -> L2.RelV v' u' -> EqAt A s u u' (eqD d d')) :
 ∀ j (h1 : j < its.toArray.size) (h2 : j < its2.toArray.size), EqAt A s its.toArray[j] its2.toArray[j] (eqD (xs.getD j .non) (ys.getD j .non)) := by
  intro j h1 h2; have l1 : its.length = xs.length := by rw [<- rx.length, hx.length]
  have l2 : its2.length = ys.length := by rw [<- ry.length, hy.length]
  have h1' : j < xs.length := by simpa [l1] using h1
  have h2' : j < ys.length := by simpa [l2] using h2
  obtain ⟨v, ev, rv⟩ := hx.get (i := j) (d := xs[j]) (by simp [h1']); obtain ⟨v', ev', rv'⟩ := hy.get (i := j) (d := ys[j]) (by simp [h2']); obtain ⟨u, eu, ru⟩ := rx.get ev; obtain ⟨u', eu', ru'⟩ := ry.get ev'; have e1 : its.toArray[j] = u := by
    have : its[j]? = some its[j] := by simp [l1, h1']
    rw [this] at eu; simpa using eu
  have e2 : its2.toArray[j] = u' := by
    have : its2[j]? = some its2[j] := by simp [l2, h2']
    rw [this] at eu'; simpa using eu'
  have g1 : xs.getD j .non = xs[j] := by simp [List.getD, h1']
  have g2 : ys.getD j .non = ys[j] := by simp [List.getD, h2']
  rw [e1, e2, g1, g2]; exact ih _ _ v v' u u' (List.all_eq_true.mp px _ (List.getElem_mem h1')) (List.all_eq_true.mp py _ (List.getElem_mem h2')) rv rv' ru ru'
theorem lists_at {A : Around} {n : Nat} {xs ys : List D} {vs ws : List V} {a b : Addr} (I : L2.Inv X pins σ H s) (ha : SqL X.K H a vs) (hb : SqL X.K H b ws) (hx : Reps X.K H xs vs) (hy : Reps X.K H ys ws) (px : xs.all (plainD n) = true) (py : ys.all (plainD n) = true) (hu : A.units < cLine)
 (ih : ∀ d d' v v' u u', plainD n d = true -> plainD n d' = true -> Rep X.K H d v -> Rep X.K H d' v' -> L2.RelV v u -> L2.RelV v' u' -> EqAt A.in1 s u u' (eqD d d')) : RcAt A s (.ref a) (.ref b) (eqDs xs ys) /\ RcNeAt A s (.ref a) (.ref b) (!eqDs xs ys) := by
  obtain ⟨its, rx, pl, _⟩ := I.list ha; obtain ⟨its2, ry, pl2, _⟩ := I.list hb; have l1 : its.length = xs.length := by rw [<- rx.length, hx.length]
  have l2 : its2.length = ys.length := by rw [<- ry.length, hy.length]
  by_cases hl : xs.length = ys.length
  · have e := eqDs_range xs ys hl
    have it := items_eq hx hy rx ry px py ih; rw [<- e, <- l1]; exact ⟨RcAt.lists pl.isList pl2.isList (by simp [l1, l2, hl]) hu it, RcNeAt.lists pl.isList pl2.isList (by simp [l1, l2, hl]) hu it⟩
  · have e : eqDs xs ys = false := by
      cases q : eqDs xs ys with
      | false => rfl
      | true => exact absurd (eqDs_len q) hl
    rw [e]; exact ⟨RcAt.lists_lengths pl.isList pl2.isList (by simp [l1, l2, hl]) hu, RcNeAt.lists_lengths pl.isList pl2.isList (by simp [l1, l2, hl]) hu⟩
theorem tuples_at {A : Around} {n : Nat} {xs ys : List D} {vs ws : List V} {a b : Addr} (I : L2.Inv X pins σ H s) (ha : SqT X.K H a vs) (hb : SqT X.K H b ws) (hx : Reps X.K H xs vs) (hy : Reps X.K H ys ws) (px : xs.all (plainD n) = true) (py : ys.all (plainD n) = true) (hu : A.units < cLine)
 (ih : ∀ d d' v v' u u', plainD n d = true -> plainD n d' = true -> Rep X.K H d v -> Rep X.K H d' v' -> L2.RelV v u -> L2.RelV v' u' -> EqAt A.in1 s u u' (eqD d d')) : RcAt A s (.ref a) (.ref b) (eqDs xs ys) /\ RcNeAt A s (.ref a) (.ref b) (!eqDs xs ys) := by
  obtain ⟨its, rx, pl, _⟩ := I.tuple ha; obtain ⟨its2, ry, pl2, _⟩ := I.tuple hb; have l1 : its.length = xs.length := by rw [<- rx.length, hx.length]
  have l2 : its2.length = ys.length := by rw [<- ry.length, hy.length]
  have it := items_eq hx hy rx ry px py ih; have e : ((List.range (min its.toArray.size its2.toArray.size)).all (fun j => eqD (xs.getD j .non) (ys.getD j .non)) && its.toArray.size == its2.toArray.size) = eqDs xs ys := by
    simp only [List.size_toArray, l1, l2]
    by_cases hl : xs.length = ys.length
    · rw [<- eqDs_range xs ys hl, <- hl, Nat.min_self]; simp
    · have e : eqDs xs ys = false := by
        cases q : eqDs xs ys with
        | false => rfl
        | true => exact absurd (eqDs_len q) hl
      rw [e, beq_false_of_ne hl, Bool.and_false]
  have r1 := RcAt.tuples pl pl2 hu it; have r2 := RcNeAt.tuples pl pl2 hu it; rw [e] at r1; refine ⟨r1, ?_⟩
  first | (rw [e] at r2; exact r2) | (rw [<- e]; exact r2)
theorem both_at (I : L2.Inv X pins σ H s) : ∀ (n : Nat) (A : Around) (d d' : D) (v v' : V) (u u' : Value), A.units + n < cLine -> plainD n d = true -> plainD n d' = true -> Rep X.K H d v -> Rep X.K H d' v' -> L2.RelV v u -> L2.RelV v' u' ->
 (RcAt A s u u' (eqD d d') /\ RcNeAt A s u u' (!eqD d d')) /\ EqAt A s u u' (eqD d d') := by
  intro n
  induction n with
  | zero =>
    intro A d d' v v' u u' hu p p' r r' ru ru'
    cases d <;> (try simp [plainD] at p) <;> cases d' <;> (try simp [plainD] at p')
    all_goals
      simp only [Rep] at r r'; subst r r'; simp only [L2.RelV] at ru ru'
      first | (subst ru) | (obtain ⟨t, rfl⟩ := ru)
      first | (subst ru') | (obtain ⟨t', rfl⟩ := ru')
      simp only [eqD]
    · exact ⟨⟨.none_none, .none_none⟩, .same _⟩
    · exact ⟨⟨.none_bool _, .none_bool _⟩, .none_bool _⟩
    · exact ⟨⟨.none_int _ _, .none_int _ _⟩, .none_int _ _⟩
    · exact ⟨⟨.none_str _ _, .none_str _ _⟩, .none_str _ _⟩
    · exact ⟨⟨.bool_none _, .bool_none _⟩, .bool_none _⟩
    · exact ⟨⟨.bool_bool _ _, .bool_bool _ _⟩, .bool_bool _ _⟩
    · exact ⟨⟨.bool_int _ _ _, .bool_int _ _ _⟩, .bool_int _ _ _⟩
    · exact ⟨⟨.bool_str _ _ _, .bool_str _ _ _⟩, .bool_str _ _ _⟩
    · exact ⟨⟨.int_none _ _, .int_none _ _⟩, .int_none _ _⟩
    · exact ⟨⟨.int_bool _ _ _, .int_bool _ _ _⟩, .int_bool _ _ _⟩
    · exact ⟨⟨.int_int _ _ _ _, .int_int _ _ _ _⟩, .int_int _ _ _ _⟩
    · exact ⟨⟨.int_str _ _ _ _, .int_str _ _ _ _⟩, .int_str _ _ _ _⟩
    · exact ⟨⟨.str_none _ _, .str_none _ _⟩, .str_none _ _⟩
    · exact ⟨⟨.str_bool _ _ _, .str_bool _ _ _⟩, .str_bool _ _ _⟩
    · exact ⟨⟨.str_int _ _ _ _, .str_int _ _ _ _⟩, .str_int _ _ _ _⟩
    · exact ⟨⟨.str_str _ _ _ _, .str_str _ _ _ _⟩, .str_str _ _ _ _⟩
  | succ n ih =>
    intro A d d' v v' u u' hu p p' r r' ru ru'; have hu0 : A.units < cLine := by omega
    have ihe : ∀ d d' v v' u u', plainD n d = true -> plainD n d' = true -> Rep X.K H d v -> Rep X.K H d' v' -> L2.RelV v u -> L2.RelV v' u' -> EqAt A.in1 s u u' (eqD d d') := fun d d' v v' u u' a b c e f g => (ih A.in1 d d' v v' u u' (by show A.units + 1 + n < cLine; omega) a b c e f g).2
    have refs : ∀ {a b : Addr} {k : Bool}, RcAt A s (.ref a) (.ref b) k -> (a = b -> k = true) -> EqAt A s (.ref a) (.ref b) k := fun {a b k} h e => by
      by_cases hab : a = b
      · subst hab; rw [e rfl]; exact .same _
      · exact .of_refs hab h
    cases d with
    | dK _ => simp [plainD] at p
    | dT _ => simp [plainD] at p
    | adr _ => simp [plainD] at p
    | exc _ _ => simp [plainD] at p
    | tup xs =>
      have r0 := r; simp only [Rep] at r; obtain ⟨a, vs, rfl, h1, h2⟩ := r; simp only [L2.RelV] at ru; subst ru; obtain ⟨its, rx, pt, _⟩ := I.tuple (SqT.of h1); simp only [plainD] at p
      cases d' with
      | dK _ => simp [plainD] at p'
      | dT _ => simp [plainD] at p'
      | adr _ => simp [plainD] at p'
      | exc _ _ => simp [plainD] at p'
      | tup ys =>
        have r0' := r'; have p0' := p'; simp only [Rep] at r'; obtain ⟨b, ws, rfl, h3, h4⟩ := r'; simp only [L2.RelV] at ru'; subst ru'; simp only [plainD] at p'; have t := tuples_at I (SqT.of h1) (SqT.of h3) h2 h4 p p' hu0 ihe; simp only [eqD]; refine ⟨t, refs t.1 fun e => ?_⟩; subst e; have := rep_eq I (n + 1) (.tup xs) (.tup ys) _ (by simpa only [plainD] using p) p0' r0 r0'
        simpa only [eqD] using this
      | lst ys =>
        simp only [Rep] at r'; obtain ⟨b, ws, rfl, h3, h4⟩ := r'; simp only [L2.RelV] at ru'; subst ru'; obtain ⟨its2, ry, pl, _⟩ := I.list h3; simp only [eqD]; exact ⟨⟨.tuple_list pt pl.isList hu0, .tuple_list pt pl.isList hu0⟩, .tuple_list pt pl.isList hu0⟩
      | non => simp only [Rep] at r'; subst r'; simp only [L2.RelV] at ru'; subst ru'; simp only [eqD]; exact ⟨⟨.tuple_none pt hu0, .tuple_none pt hu0⟩, .tuple_none pt hu0⟩
      | bl b => simp only [Rep] at r'; subst r'; simp only [L2.RelV] at ru'; subst ru'; simp only [eqD]; exact ⟨⟨.tuple_bool _ pt hu0, .tuple_bool _ pt hu0⟩, .tuple_bool _ pt hu0⟩
      | int b => simp only [Rep] at r'; subst r'; simp only [L2.RelV] at ru'; obtain ⟨t', rfl⟩ := ru'; simp only [eqD]; exact ⟨⟨.tuple_int _ _ pt hu0, .tuple_int _ _ pt hu0⟩, .tuple_int _ _ pt hu0⟩
      | str b => simp only [Rep] at r'; subst r'; simp only [L2.RelV] at ru'; obtain ⟨t', rfl⟩ := ru'; simp only [eqD]; exact ⟨⟨.tuple_str _ _ pt hu0, .tuple_str _ _ pt hu0⟩, .tuple_str _ _ pt hu0⟩
    | lst xs =>
      have r0 := r; simp only [Rep] at r; obtain ⟨a, vs, rfl, h1, h2⟩ := r; simp only [L2.RelV] at ru; subst ru; obtain ⟨its, rx, pl, _⟩ := I.list h1; have pt := pl.isList; simp only [plainD] at p
      cases d' with
      | dK _ => simp [plainD] at p'
      | dT _ => simp [plainD] at p'
      | adr _ => simp [plainD] at p'
      | exc _ _ => simp [plainD] at p'
      | lst ys =>
        have r0' := r'; have p0' := p'; simp only [Rep] at r'; obtain ⟨b, ws, rfl, h3, h4⟩ := r'; simp only [L2.RelV] at ru'; subst ru'; simp only [plainD] at p'; have t := lists_at I h1 h3 h2 h4 p p' hu0 ihe; simp only [eqD]; refine ⟨t, refs t.1 fun e => ?_⟩; subst e; have := rep_eq I (n + 1) (.lst xs) (.lst ys) _ (by simpa only [plainD] using p) p0' r0 r0'
        simpa only [eqD] using this
      | tup ys =>
        simp only [Rep] at r'; obtain ⟨b, ws, rfl, h3, h4⟩ := r'; simp only [L2.RelV] at ru'; subst ru'; obtain ⟨its2, ry, pt2, _⟩ := I.tuple (SqT.of h3); simp only [eqD]; exact ⟨⟨.list_tuple pt pt2 hu0, .list_tuple pt pt2 hu0⟩, .list_tuple pt pt2 hu0⟩
      | non => simp only [Rep] at r'; subst r'; simp only [L2.RelV] at ru'; subst ru'; simp only [eqD]; exact ⟨⟨.list_none pt hu0, .list_none pt hu0⟩, .list_none pt hu0⟩
      | bl b => simp only [Rep] at r'; subst r'; simp only [L2.RelV] at ru'; subst ru'; simp only [eqD]; exact ⟨⟨.list_bool _ pt hu0, .list_bool _ pt hu0⟩, .list_bool _ pt hu0⟩
      | int b => simp only [Rep] at r'; subst r'; simp only [L2.RelV] at ru'; obtain ⟨t', rfl⟩ := ru'; simp only [eqD]; exact ⟨⟨.list_int _ _ pt hu0, .list_int _ _ pt hu0⟩, .list_int _ _ pt hu0⟩
      | str b => simp only [Rep] at r'; subst r'; simp only [L2.RelV] at ru'; obtain ⟨t', rfl⟩ := ru'; simp only [eqD]; exact ⟨⟨.list_str _ _ pt hu0, .list_str _ _ pt hu0⟩, .list_str _ _ pt hu0⟩
    | non =>
      cases d' with
      | tup ys =>
        simp only [Rep] at r r'; subst r; obtain ⟨b, ws, rfl, h3, h4⟩ := r'; simp only [L2.RelV] at ru ru'; subst ru ru'; obtain ⟨_, _, pt, _⟩ := I.tuple (SqT.of h3); simp only [eqD]; exact ⟨⟨.none_tuple pt hu0, .none_tuple pt hu0⟩, .none_tuple pt hu0⟩
      | lst ys =>
        simp only [Rep] at r r'; subst r; obtain ⟨b, ws, rfl, h3, h4⟩ := r'; simp only [L2.RelV] at ru ru'; subst ru ru'; obtain ⟨_, _, pl, _⟩ := I.list h3; simp only [eqD]; exact ⟨⟨.none_list pl.isList hu0, .none_list pl.isList hu0⟩, .none_list pl.isList hu0⟩
      | dK _ => simp [plainD] at p'
      | dT _ => simp [plainD] at p'
      | adr _ => simp [plainD] at p'
      | exc _ _ => simp [plainD] at p'
      | _ => exact ih A _ _ v v' u u' (by omega) (by cases n <;> rfl) (by cases n <;> rfl) r r' ru ru'
    | bl x =>
      cases d' with
      | tup ys =>
        simp only [Rep] at r r'; subst r; obtain ⟨b, ws, rfl, h3, h4⟩ := r'; simp only [L2.RelV] at ru ru'; subst ru ru'; obtain ⟨_, _, pt, _⟩ := I.tuple (SqT.of h3); simp only [eqD]; exact ⟨⟨.bool_tuple _ pt hu0, .bool_tuple _ pt hu0⟩, .bool_tuple _ pt hu0⟩
      | lst ys =>
        simp only [Rep] at r r'; subst r; obtain ⟨b, ws, rfl, h3, h4⟩ := r'; simp only [L2.RelV] at ru ru'; subst ru ru'; obtain ⟨_, _, pl, _⟩ := I.list h3; simp only [eqD]; exact ⟨⟨.bool_list _ pl.isList hu0, .bool_list _ pl.isList hu0⟩, .bool_list _ pl.isList hu0⟩
      | dK _ => simp [plainD] at p'
      | dT _ => simp [plainD] at p'
      | adr _ => simp [plainD] at p'
      | exc _ _ => simp [plainD] at p'
      | _ => exact ih A _ _ v v' u u' (by omega) (by cases n <;> rfl) (by cases n <;> rfl) r r' ru ru'
    | int x =>
      cases d' with
      | tup ys =>
        simp only [Rep] at r r'; subst r; obtain ⟨b, ws, rfl, h3, h4⟩ := r'; simp only [L2.RelV] at ru ru'; obtain ⟨t, rfl⟩ := ru; subst ru'; obtain ⟨_, _, pt, _⟩ := I.tuple (SqT.of h3); simp only [eqD]; exact ⟨⟨.int_tuple _ _ pt hu0, .int_tuple _ _ pt hu0⟩, .int_tuple _ _ pt hu0⟩
      | lst ys =>
        simp only [Rep] at r r'; subst r; obtain ⟨b, ws, rfl, h3, h4⟩ := r'; simp only [L2.RelV] at ru ru'; obtain ⟨t, rfl⟩ := ru; subst ru'; obtain ⟨_, _, pl, _⟩ := I.list h3; simp only [eqD]; exact ⟨⟨.int_list _ _ pl.isList hu0, .int_list _ _ pl.isList hu0⟩, .int_list _ _ pl.isList hu0⟩
      | dK _ => simp [plainD] at p'
      | dT _ => simp [plainD] at p'
      | adr _ => simp [plainD] at p'
      | exc _ _ => simp [plainD] at p'
      | _ => exact ih A _ _ v v' u u' (by omega) (by cases n <;> rfl) (by cases n <;> rfl) r r' ru ru'
    | str x =>
      cases d' with
      | tup ys =>
        simp only [Rep] at r r'; subst r; obtain ⟨b, ws, rfl, h3, h4⟩ := r'; simp only [L2.RelV] at ru ru'; obtain ⟨t, rfl⟩ := ru; subst ru'; obtain ⟨_, _, pt, _⟩ := I.tuple (SqT.of h3); simp only [eqD]; exact ⟨⟨.str_tuple _ _ pt hu0, .str_tuple _ _ pt hu0⟩, .str_tuple _ _ pt hu0⟩
      | lst ys =>
        simp only [Rep] at r r'; subst r; obtain ⟨b, ws, rfl, h3, h4⟩ := r'; simp only [L2.RelV] at ru ru'; obtain ⟨t, rfl⟩ := ru; subst ru'; obtain ⟨_, _, pl, _⟩ := I.list h3; simp only [eqD]; exact ⟨⟨.str_list _ _ pl.isList hu0, .str_list _ _ pl.isList hu0⟩, .str_list _ _ pl.isList hu0⟩
      | dK _ => simp [plainD] at p'
      | dT _ => simp [plainD] at p'
      | adr _ => simp [plainD] at p'
      | exc _ _ => simp [plainD] at p'
      | _ => exact ih A _ _ v v' u u' (by omega) (by cases n <;> rfl) (by cases n <;> rfl) r r' ru ru'
end
section
variable {X : Cx}
def rEqU (K : PySem.W.Frag) (neg : Bool) : R2 := fun x y H Q => ∃ d d', plainD 60 d = true /\ plainD 60 d' = true /\ Rep K H d x /\ Rep K H d' y /\ Q (.bl (neg != eqD d d')) H
theorem op_neD (hu : X.A.units + 64 < cLine) : OpR X (compareOp .NotEq) (rEqU X.K true) := by
  intro pins s σ H x y v u Q I rx ry h; obtain ⟨d, d', p, p', r, r', q⟩ := h; exact (both_at I 60 X.A d d' x y v u (by omega) p p' r r' rx ry).1.2 X.prog X.w X.xe _ ⟨.bl _, H, I, rfl, by simpa using q⟩
def dEqU (neg : Bool) (x y : D) (Q : D -> Prop) : Prop := plainD 60 x = true /\ plainD 60 y = true /\ Q (.bl (neg != eqD x y))
theorem lf_eqU {K : PySem.W.Frag} {neg : Bool} : Lf2 K (rEqU K neg) (dEqU neg) := fun H0 σ δ G H x y dx dy Qd Q hs rx ry h k =>
  ⟨dx, dy, h.1, h.2.1, rx.all hs.sub, ry.all hs.sub, k _ H G _ (Nx.refl hs) (by simp only [Rep]) h.2.2⟩
end
def kindD : D -> String
  | .non => "NoneType"
  | .bl _ => "bool"
  | .int _ => "int"
  | .str _ => "str"
  | .tup _ => "tuple"
  | .lst _ => "list"
  | .dK _ => "dict"
  | .dT _ => "dict"
  | .adr _ => "adr"
  | .exc _ _ => "adr"
def noAdr (d : D) (P : Prop) : Prop := match d with
  | .adr _ => False
  | .exc _ _ => False
  | _ => P
theorem noAdr_of {d : D} {P : Prop} (h : noAdr d P) : kindD d ≠ "adr" /\ P := by
  cases d <;> first | exact h.elim | exact ⟨by simp [kindD], h⟩
def isKind (k T : String) : Bool := k == T || (k == "bool" && T == "int")
structure KindOk (K : PySem.W.Frag) (T : String) : Prop where
  h : ∀ k ∈ ["NoneType", "bool", "int", "str", "tuple", "list", "dict"], PySem.W.kitOne K (.type k) (.type T) = some (isKind k T)
section
variable {X : Cx} {H0 : Hp} {e : Expr} {t : RE} {pos p p2 : Pos} {T : String} {x : Str}
theorem isi_ok {pins : List (Addr × Obj)} {σ : L2.St} {H : Hp} {s : Shared} {d : D} {v : V} {u : Value} {Q : Value -> Shared -> Prop} {E : Value -> Shared -> Prop} {A : Around} (k : KindOk X.K T) (I : L2.Inv X pins σ H s) (nk : kindD d ≠ "adr") (r : Rep X.K H d v) (ru : L2.RelV v u) (h : ∀ tk, Q (.bool (isKind (kindD d) T)) { s with toks := tk }) :
 wpAny (model X.prog X.w) A (call (.builtin "isinstance") [u, .type T]) Q E s := by
  cases d with
  | adr p => exact absurd rfl nk
  | exc _ _ => exact absurd rfl nk
  | non => simp only [Rep] at r; subst r; cases (show u = Value.none from ru); exact PySem.W.kia_one PySem.W.kitx_none I.kIn True.intro (k.h _ (by simp)) (fun z => nomatch z) h
  | bl b => simp only [Rep] at r; subst r; cases (show u = Value.bool b from ru); exact PySem.W.kia_one PySem.W.kitx_bool I.kIn True.intro (k.h _ (by simp)) (fun z => nomatch z) h
  | int b => simp only [Rep] at r; subst r; obtain ⟨t, q⟩ := (show ∃ t, u = Value.int b t from ru); cases q; exact PySem.W.kia_one PySem.W.kitx_int I.kIn True.intro (k.h _ (by simp)) (fun z => nomatch z) h
  | str b => simp only [Rep] at r; subst r; obtain ⟨t, q⟩ := (show ∃ t, u = Value.str b t from ru); cases q; exact PySem.W.kia_one PySem.W.kitx_str I.kIn True.intro (k.h _ (by simp)) (fun z => nomatch z) h
  | tup xs =>
    simp only [Rep] at r; obtain ⟨a, vs, rfl, h1, _⟩ := r; cases (show u = Value.ref a from ru); obtain ⟨_, _, ⟨o, h2, h3, _⟩, _⟩ := I.tuple (SqT.of h1); exact PySem.W.kia_one PySem.W.kitx_tuple I.kIn ⟨o, h2, h3⟩ (k.h _ (by simp)) (fun z => nomatch z) h
  | lst xs =>
    simp only [Rep] at r; obtain ⟨a, vs, rfl, h1, _⟩ := r; cases (show u = Value.ref a from ru); obtain ⟨_, _, ⟨o, n, h2, h3, _⟩, _⟩ := I.list h1; exact PySem.W.kia_one PySem.W.kitx_list I.kIn ⟨o, h2, h3⟩ (k.h _ (by simp)) (fun z => nomatch z) h
  | dK xs =>
    simp only [Rep] at r; obtain ⟨a, vs, rfl, h1, _⟩ := r; cases (show u = Value.ref a from ru); obtain ⟨_, _, _, _, o, _, _, h2, h3, _⟩ := dk_rd I.hok h1; exact PySem.W.kia_one PySem.W.kitx_dict I.kIn ⟨o, h2, h3.1⟩ (k.h _ (by simp)) (fun z => nomatch z) h
  | dT xs =>
    simp only [Rep] at r; obtain ⟨a, vs, rfl, h1, _⟩ := r; cases (show u = Value.ref a from ru); obtain ⟨_, _, _, _, o, _, _, h2, h3, _⟩ := dt_rd I.hok h1; exact PySem.W.kia_one PySem.W.kitx_dict I.kIn ⟨o, h2, h3.1⟩ (k.h _ (by simp)) (fun z => nomatch z) h
def rIsiV (K : PySem.W.Frag) (T : String) : List V -> Hp -> VK -> Prop := fun xs H Q => ∃ d v, xs = [v, .ty T] /\ kindD d ≠ "adr" /\ Rep K H d v /\ Q (.bl (isKind (kindD d) T)) H
theorem call_isi (k : KindOk X.K T) : CallR X (.builtin "isinstance") (rIsiV X.K T) := by
  intro pins s σ H xs us Q I r h; obtain ⟨d, v, rfl, nk, rd, q⟩ := h
  cases r with
  | cons r1 r =>
    cases r with
    | cons r2 r =>
      cases r with
      | nil =>
        cases (show _ = Value.type T from r2); exact isi_ok k I nk rd r1 fun tk => ⟨.bl _, H, I.tok _, rfl, q⟩
def rIsi (T : String) (te : RE) (δ : List Sl) (Q : D -> Prop) : Prop := te δ fun d => noAdr d (Q (.bl (isKind (kindD d) T)))
theorem e_isi (k : KindOk X.K T) (hm : X.mg "isinstance" = none) (hm2 : X.mg x = none) (ha : PB2 X H0 e t) (hv : bootBuiltins x = some (.type T) := by rfl) (hg : Gl X "isinstance" := by rfl) (hg2 : Gl X x := by rfl) (hn : x ≠ "__name__" := by decide) (hdb : (x == ("__debug__" : Str)) = false := by decide)
 (he : starEach (e :: [.Name x p2]) X.env = (false, eval e X.env) :: starEach [.Name x p2] X.env := by rfl) (he2 : starEach [.Name x p2] X.env = (false, eval (.Name x p2) X.env) :: starEach [] X.env := by rfl)
 (hpl : (backTo pos (starEach [.Name x p2] X.env)).any (·.1) = false := by rfl) : PE2 X H0 (.Call (.Name "isinstance" p) [e, .Name x p2] [] pos) (rIsi T t) :=
  PE.weak (pe_callB (call_isi k) hg hm rfl (pa_cons ha (pa_cons (pe_bltn hg2 hm2 hv (v := .ty T) rfl hn hdb) pa_nil he2) he) (by decide) (by decide) he hpl) fun σ H Q ⟨δ, G, Qd, hs, ht, kk⟩ =>
    ⟨δ, G, _, hs, ht, fun v H1 G1 d n1 r1 q1 => ⟨d, v, rfl, (noAdr_of q1).1, r1.all n1.hs.sub, kk _ H1 G1 _ n1 (by simp only [Rep]) (noAdr_of q1).2⟩⟩
end
section
variable {X : Cx} {H0 : Hp} {e : Expr} {es : List Expr} {tr : RA} {pos p : Pos}
end
section
variable {X : Cx} {H0 : Hp} {e : Expr} {te : RE} {pos pos' : Pos} {x : Str}
end
theorem mem7 {P : String -> Prop} (h1 : P "NoneType") (h2 : P "bool") (h3 : P "int") (h4 : P "str") (h5 : P "tuple") (h6 : P "list") (h7 : P "dict") : ∀ k ∈ ["NoneType", "bool", "int", "str", "tuple", "list", "dict"], P k := by
  intro k hk; simp only [List.mem_cons, List.not_mem_nil, or_false] at hk
  rcases hk with rfl | rfl | rfl | rfl | rfl | rfl | rfl
  all_goals assumption
theorem kind_int (K : PySem.W.Frag) : KindOk K "int" := ⟨mem7 (by first | rfl | kernel_rfl) (by first | rfl | kernel_rfl) (by first | rfl | kernel_rfl) (by first | rfl | kernel_rfl) (by first | rfl | kernel_rfl) (by first | rfl | kernel_rfl) (by first | rfl | kernel_rfl)⟩
theorem kind_bool (K : PySem.W.Frag) : KindOk K "bool" := ⟨mem7 (by first | rfl | kernel_rfl) (by first | rfl | kernel_rfl) (by first | rfl | kernel_rfl) (by first | rfl | kernel_rfl) (by first | rfl | kernel_rfl) (by first | rfl | kernel_rfl) (by first | rfl | kernel_rfl)⟩
theorem plain_ints (k : Nat) (ns : List Int) : plainD (k + 1) (.lst (ns.map D.int)) = true := by
  simp only [plainD, List.all_map, List.all_eq_true]
  intro x _; cases k <;> rfl
theorem eq_self60 {d : D} (h : plainD 60 d = true) : eqD d d = true := eqD_self 60 d h
section
variable {κ : Type} [DecidableEq κ]
end
section
variable {K : PySem.W.Frag} {H : Hp}
end
section
variable {K : PySem.W.Frag} {H : Hp}
end
section
variable {X : Cx} {H0 : Hp} {a b e f value o : Expr} {ta tb te tf : RE} {pos pos' apos cpos p : Pos} {x : Str}
variable {es : List Expr} {tr : RA}
end
open PySem PySem.Spec PyProof.Rows L2 SeqAt
section
variable {κ : Type} [DecidableEq κ]
end
section
variable {X : Cx}
end
section
variable {X : Cx} {H0 : Hp} {c : Expr} {body : List Stmt} {tc : RT} {tb : RS} {pos : Pos}
end
abbrev Sp3 := List D -> D -> (D -> D -> Prop) -> Prop
def liftSp3 (K : PySem.W.Frag) (sp : Sp3) : Sp := fun vs H Q _ => ∃ ws p G d ds Qd, vs = ws ++ [.ref p] /\ G p = none /\ (∀ b, b ≠ p -> G b = H b) /\ Own K G H p d /\ Reps K G ds ws /\ sp ds d Qd /\
  ∀ v H' G' x d', Same G G' -> G' p = none -> (∀ b, b ≠ p -> G' b = H' b) -> Own K G' H' p d' -> Rep K G' x v -> Qd x d' -> Q v H'
section
variable {K : PySem.W.Frag} {H0 : Hp} {σ : L2.St} {δ : List Sl} {G H : Hp}
end
section
variable {P : Program} {w : World} {K : PySem.W.Frag} {mg : Str -> Option Value} {base : Heap}
end
section
variable {X : Cx} {H0 : Hp} {pins : List (Addr × Obj)} {σ : L2.St} {δ : List Sl} {G H : Hp} {s : Shared}
end
structure Fn3 (P : Program) (w : World) (K : PySem.W.Frag) (mg : Str -> Option Value) (base : Heap) (k : Nat) (x : Str) (sp : Sp3) : Prop where
  ex : ∃ (f : Addr) (fd : FuncData) (ps : List Str), FnOk P w K mg base CX0 k f fd ps (liftSp3 K sp) /\ mg x = some (.ref f) /\ PySem.W.keepIn K (.ref f) = true /\ Binds K fd ps []
def liftAL (K : PySem.W.Frag) (H0 : Hp) (i : Nat) (tr : RA) : TA := fun σ H Q => ∃ δ G Qd a, Hs K H0 σ δ G H /\ σ[i]? = some (some (.ref a)) /\ tr δ Qd /\ ∀ ws H' G' ds, Nx K H0 σ δ G H G' H' -> Reps K G' ds ws -> Qd ds -> Q (ws ++ [.ref a]) H'
def PAL (X : Cx) (H0 : Hp) (i : Nat) (es : List Expr) (tr : RA) : Prop := PA X es (liftAL X.K H0 i tr)
section
variable {X : Cx} {H0 : Hp} {k : Nat} {x : Str} {sp : Sp3} {e : Expr} {es : List Expr} {t : RE} {tr : RA} {p pos : Pos} {i : Nat}
variable {tg : Expr} {g : RG}
end
section
variable {X : Cx} {pins : List (Addr × Obj)} {σ : L2.St} {H : Hp} {s : Shared} {h' : Heap}
theorem Inv.track {a : Addr} {o : HO} {t' : Nat} (I : L2.Inv X pins σ H s) (f : FpOk X pins H a) (k : ∀ b u, b ≠ a -> s.heap.get? b = some u -> h'.get? b = some u)
 (new : ObjOk X.prog X.w (upd H a o) h' a o) : L2.Inv X pins σ (upd H a o) { s with heap := h', toks := t' } := by
  obtain ⟨f0, f1, f2, f3, f4, f5⟩ := f; have na : ∀ b u, H b = some u -> b ≠ a := fun b u e z => by rw [z, f0] at e; cases e
  refine I.step (g' := s.gens) (d' := s.drawn) (ch := [a]) (fun b hb => ?_) (fun b o _ _ hc e _ => k b o (fun z => hc (by simp [z])) e) (fun b o _ _ hc e _ => ⟨o.slots, k b o (fun z => hc (by simp [z])) e⟩) (fun b o hc e n => ?_)
    (fun b o hc e => ⟨o, k b o (fun z => hc (by simp [z])) e⟩) (fun b xs e => ?_) (fun b o u e => ?_) (fun b ps e => ⟨#[], ?_⟩) (fun m hm => ?_) (fun b u e => ?_) I.bare
  · have e : b = a := by simpa using hb
    subst e; exact ⟨f3, f1, f4, f5⟩
  · rw [upd_ne (fun z => hc (by simp [z]))]; exact n
  · rw [upd_ne (na b _ e)]; exact e
  · rw [upd_ne (na b _ e)]; exact e
  · rw [upd_ne (na b _ e), e]; simp
  · obtain ⟨o, es, ep, ho, r⟩ := hm
    exact ⟨o, es, ep, k _ o f1.symm ho, r⟩
  · by_cases hb : b = a
    · subst hb
      rw [upd_same] at e; cases e; exact new
    · rw [upd_ne hb] at e
      refine (I.hok b u e).stay (fun c v hc z => ?_) (fun c z => ?_) (fun c ys z => ?_)
      · rcases hc with y | y
        · rw [y] at z ⊢; exact k b v hb z
        · exact k c v (na c _ y) z
      · rw [upd_ne (na _ _ z)]; exact z
      · rw [upd_ne (na _ _ z)]; exact z
end
structure Out (X : Cx) (pins : List (Addr × Obj)) (b : Addr) : Prop where
  l : b ≠ X.env.locals
  f : b ∉ X.fs
  x : b ∈ X.ex \/ X.s₀.heap.objs.size <= b
  c : ∀ x c, X.env.cells.lookup x = some c -> c ≠ b
  p : ∀ p ∈ X.pn ++ pins, p.1 ≠ b
section
variable {X : Cx} {pins : List (Addr × Obj)} {σ : L2.St} {H : Hp} {s : Shared} {A : Around} {E : Value -> Shared -> Prop} {P : PySem.Fin -> Shared -> Prop} {kS a : Addr} {kA : Array Value} {e e1 : Nat}
end
section
variable {X : Cx} {pins : List (Addr × Obj)} {σ : L2.St} {H : Hp} {s : Shared} {E : Value -> Shared -> Prop} {P : PySem.Fin -> Shared -> Prop} {kS a : Addr} {e1 : Nat}
end
section
variable {K : PySem.W.Frag} {H0 : Hp} {σ : L2.St} {δ : List Sl} {G H H' : Hp}
open Classical in
end
abbrev SR := List D -> (D -> D) -> (List D -> Prop) -> Prop
section
variable {X : Cx} {H0 : Hp} {k : Nat} {fx : Str} {sp : Sp2} {e : Expr} {te : RE} {p p2 pos kp : Pos} {S : SR}
end
section
variable {prog : Program} {w : World} {A : Around} {E : Value -> Shared -> Prop} {s : Shared}
end
section
variable {X : Cx} {pins : List (Addr × Obj)} {σ : L2.St} {H : Hp} {s : Shared}
end
section
variable {X : Cx} {H0 : Hp} {a b e : Expr} {ta tb : RE} {pos : Pos}
def rCatL (K : PySem.W.Frag) : R2 := fun x y H Q => ∃ l b xs zs, x = .ref l /\ y = .ref b /\ SqL K H l xs /\ SqL K H b zs /\ xs.length + zs.length <= sizeLine /\ ∀ p, H p = none -> Q (.ref p) (upd H p (.lst (xs ++ zs)))
theorem op_catL : OpR X (binaryOp .Add) (rCatL X.K) := by
  intro pins s σ H x y v u Q I rx ry h; obtain ⟨l, b, xs, zs, rfl, rfl, hl, hb, hz, q⟩ := h; cases rx; cases ry; obtain ⟨its, r, ⟨⟨cls, dd, data, sl⟩, n, ho, hc, hd, hs⟩, z⟩ := I.list hl; obtain ⟨its2, r2, ⟨⟨cls2, dd2, data2, sl2⟩, n2, ho2, hc2, hd2, hs2⟩, z2⟩ := I.list hb; simp only at hc hd hs hc2 hd2 hs2; subst hc hd hs hc2 hd2 hs2; have e : its.toArray ++ its2.toArray = (its ++ its2).toArray := by simp
  have l1 := r.length; have l2 := r2.length; refine concat_meets ⟨_, ho, rfl⟩ ⟨_, ho2, rfl⟩ noFill_list_add seq_list_add PySem.F.slot_list_add PySem.F.entry_list_add (PySem.F.args_list_add_2 _ _) (list_addW l b its.toArray its2.toArray n n2 none none sl sl2 (by simp; omega)) ⟨ho, ho2, ?_⟩; rw [e]; exact ⟨.ref _, _, I.lnew (t' := s.toks) (r.append r2) (by rw [List.length_append]; omega), rfl, q _ I.fresh⟩
def rCat2 (ta tb : RE) (δ : List Sl) (Q : D -> Prop) : Prop := ta δ fun x => tb δ fun y => match x, y with
  | .lst xs, .lst ys => xs.length + ys.length <= sizeLine /\ Q (.lst (xs ++ ys))
  | _, _ => False
theorem n_cat (ha : PB2 X H0 a ta) (hb : PB2 X H0 b tb) : PN2 X H0 (.BinOp a .Add b pos) (rCat2 ta tb) :=
  PE.weak (pe_op op_catL ha hb) fun σ H Q ⟨δ, G, Qd, hs, ht, k⟩ => ⟨δ, G, _, hs, ht, fun v H1 G1 d n1 r1 q1 => ⟨δ, G1, _, n1.hs, q1, fun v2 H2 G2 d2 n2 r2 q2 => by
    cases d with
    | lst xs =>
      cases d2 with
      | lst ys =>
        obtain ⟨hz, q⟩ := q2; obtain ⟨a, vs, rfl, h2, h3⟩ := r1.mono n2.g n2.h; obtain ⟨b, ws, rfl, g2, g3⟩ := r2; refine ⟨a, b, vs, ws, rfl, rfl, h2, g2, by rw [<- h3.length, <- g3.length]; exact hz, fun p hp => k _ _ G2 (.lst (xs ++ ys)) (n2.hs.fresh hp ⟨_, upd_same, Reps.append h3 g3⟩) (n1.trans n2).g ((n1.trans n2).h.trans (upd_mono hp)) q⟩
      | _ => exact q2.elim
    | _ => exact q2.elim⟩⟩
variable {x : Str} {p apos cpos : Pos}
end
section
variable {X : Cx} {pins : List (Addr × Obj)} {σ : L2.St} {H : Hp} {s : Shared}
end
inductive FlatsAre : List Value -> List Key -> Prop
  | nil : FlatsAre [] []
  | int (n : Int) (t : Tok) {vs ks} : FlatsAre vs ks -> FlatsAre (.int n t :: vs) (.inl n :: ks)
  | str (x : Str) (t : Tok) {vs ks} : FlatsAre vs ks -> FlatsAre (.str x t :: vs) (.inr x :: ks)
section
variable {prog : Program} {w : World} {A : Around} {E : Value -> Shared -> Prop} {s : Shared}
end
section
variable {X : Cx} {pins : List (Addr × Obj)} {σ : L2.St} {H : Hp} {s : Shared}
end
section
variable {X : Cx} {H0 : Hp} {e : Expr} {es : List Expr} {tr : RA} {pos p : Pos}
end
section
variable {K : PySem.W.Frag} {H0 : Hp} {σ : L2.St} {δ : List Sl} {G H : Hp}
end
section
variable {X : Cx} {H0 : Hp} {tg : Expr} {g : RG} {body : List Stmt} {tb : RS} {pos p : Pos} {x : Str}
end
section
variable {X : Cx} {pins : List (Addr × Obj)} {σ : L2.St} {H : Hp} {s : Shared} {h' : Heap}
end
section
variable {X : Cx} {H0 : Hp}
variable {ts : List Expr} {k : Nat} {tp p pos pos2 : Pos} {a b : Expr} {tr : RA} {g : RG} {tb : RS} {body : List Stmt}
end
section
variable {X : Cx} {H0 : Hp} {pins : List (Addr × Obj)} {σ : L2.St} {H : Hp} {s : Shared}
variable {e : Expr} {es : List Expr} {tr : RA} {p pos : Pos}
variable {k i : Nat} {x : Str} {sp : Sp3} {b1 b2 : List Stmt} {t u : RS} {p2 p3 p4 : Pos}
end
def compX (X : Cx) (scope : Scope) (N' : List Str) (s3 : Shared) (H3 : Hp) (C : Addr) (cl : List (Str × Addr)) (fp : List Addr) : Cx :=
  { X with N := N', s₀ := s3, H₀ := H3, env := compEnvC scope cl C X.env, outer := X.stack, ex := fp, fn := fun _ => false, pn := [], xe := fun _ _ => False }
section
variable {X : Cx} {pins : List (Addr × Obj)} {σ : L2.St} {H : Hp} {s : Shared} {scope : Scope} {N' : List Str} {C : Addr} {cl : List (Str × Addr)} {fp : List Addr}
structure ClOk (X : Cx) (scope : Scope) (cl : List (Str × Addr)) : Prop where
  sub : ∀ x c, cl.lookup x = some c -> X.env.cells.lookup x = some c
  has : ∀ x, ((relabel scope X.env).names.lookup x = some .cell \/ (relabel scope X.env).names.lookup x = some .free) -> ∃ c, cl.lookup x = some c
theorem comp_ok (I : L2.Inv X pins σ H s) (hc : X.calm = true) (hk : scope.kind = .function) (hcl : ClOk X scope cl) (hC : s.heap.objs.size <= C) (hf : ∀ b ∈ fp, FpOk X pins H b) (hb : ∀ b ∈ fp, b < s.heap.objs.size) :
 (compX X scope N' s H C cl fp).Ok where
  mod := I.ok.mod
  kind := hk
  glob := I.ok.glob
  blt := I.ok.blt
  above := hC
  inj := fun x y c e1 e2 => I.ok.inj x y c (hcl.sub x c e1) (hcl.sub y c e2)
  has := fun x h => hcl.has x h
  cab := fun x c h => by cases h
  hd := fun _ => I.ok.hd hc
  frames := I.ok.frames
  stk := .inl rfl
  exf := fun b hb' => ⟨Nat.ne_of_lt (Nat.lt_of_lt_of_le (hb b hb') hC), fun x c e => (hf b hb').2.2.2.2.1 x c (hcl.sub x c e)⟩
  bs := I.bs
  bsz := Nat.le_trans I.ok.bsz I.sz
  noex := fun b o e hb' => by
    rcases (hf b hb').2.2.2.1 with z | z
    · exact I.ok.noex b o e z
    · exact absurd (Nat.lt_of_lt_of_le (Heap.lt_size e) (Nat.le_trans I.ok.bsz z)) (Nat.lt_irrefl _)
  exfs := fun b hb' z => by
    rcases List.mem_cons.mp (I.stkSub b z) with e | e
    · exact (hf b hb').2.1 e
    · exact (hf b hb').2.2.1 e
  funs := I.stack
  frf := I.stkFree
def CapOk (X : Cx) (scope : Scope) (nT : Nat) (N' : List Str) : Prop :=
  N'.length = nT + 1 + X.N.length /\ (∀ x, N'[nT]? = some x -> ¬ Vis (relabel scope X.env) x) /\
    ∀ (j : Nat) (x : Str), N'[nT + 1 + j]? = some x -> Vis (relabel scope X.env) x -> X.N[j]? = some x /\ X.env.kindOf x = some .cell /\ ((relabel scope X.env).names.lookup x = some .cell \/ (relabel scope X.env).names.lookup x = some .free)
theorem comp_inv {nT : Nat} {D : Addr} {h1 : Heap} {t' : Nat} (I : L2.Inv X pins σ H s) (hc : X.calm = true) (hk : scope.kind = .function) (hcl : ClOk X scope cl) (hC : s.heap.objs.size <= C) (hf : ∀ b ∈ fp, FpOk X pins H b) (hb : ∀ b ∈ fp, b < s.heap.objs.size)
 (cap : CapOk X scope nT N') (k : ∀ b o, s.heap.get? b = some o -> h1.get? b = some o) (ns : h1.Ns C fun _ => none) :
 L2.Inv (compX X scope N' s H C cl fp) [] (List.replicate nT none ++ some (.ref D) :: σ) H { s with heap := h1, toks := t' } := by
  refine ⟨comp_ok I hc hk hcl hC hf hb, rfl, I.bare, Un.kept k, ⟨_, ns, fun i x v e1 e2 hv => ?_⟩, fun x c e => ?_, I.hok.fresh hC, fun x c e => I.freeC x c (hcl.sub x c e), (fun p hp => nomatch hp), I.hok.kept k, ?_⟩
  · obtain ⟨c1, c2, c3⟩ := cap
    rcases Nat.lt_trichotomy i nT with z | z | z
    · rw [List.getElem?_append_left (by simpa using z), List.getElem?_replicate, if_pos z] at e2
      cases e2
    · subst z
      exact absurd hv (c2 x e1)
    · obtain ⟨j, rfl⟩ : ∃ j, i = nT + 1 + j := ⟨i - nT - 1, by omega⟩
      rw [List.getElem?_append_right (by simp; omega), List.length_replicate, show nT + 1 + j - nT = j + 1 by omega, List.getElem?_cons_succ] at e2; obtain ⟨d1, d2, d3⟩ := c3 j x e1 hv; obtain ⟨m, _, hl⟩ := I.loc; obtain ⟨u, ru, lk⟩ := hl j x v d1 e2 (Or.inr (Or.inl d2)); refine ⟨u, ru, .inr ⟨d3, ?_⟩⟩; obtain ⟨c, ec⟩ := hcl.has x d3; refine ⟨c, ec, ?_⟩
      rcases lk with ⟨q, _⟩ | ⟨_, c', ec', hcell⟩
      · rw [d2] at q; cases q
      · have e3 := hcl.sub x c ec
        rw [ec'] at e3; cases e3; obtain ⟨o, ho, hd⟩ := hcell; exact ⟨o, k _ _ ho, hd⟩
  · obtain ⟨v, o, ho, hd⟩ := I.cell x c (hcl.sub x c e)
    exact ⟨v, o, k _ _ ho, hd⟩
  · rw [List.length_append, List.length_replicate, List.length_cons, I.len]
    show nT + (X.N.length + 1) = N'.length
    rw [cap.1]; omega
theorem comp_back {nT : Nat} {σ' : L2.St} {H' : Hp} {s' : Shared} {h' : Heap} {pins' : List (Addr × Obj)} (I : L2.Inv X pins σ H s) (hC : s.heap.objs.size <= C) (hf : ∀ b ∈ fp, FpOk X pins H b) (I' : L2.Inv (compX X scope N' s H C cl fp) pins' σ' H' s') (hs : Heap.SameBut C s'.heap h') (t' : Nat) :
 L2.Inv X pins σ H' { s' with heap := h', toks := t' } := by
  have hn : H' C = none := I'.free; have k : ∀ b u, b ≠ C -> s'.heap.get? b = some u -> h'.get? b = some u := fun b u hb e => hs.extBut b u hb e
  have u2 : Un (frs X.stack) fp H H' s.heap h' := by
    have u := I'.base; have ne : ∀ b o, s.heap.get? b = some o -> b ≠ C := fun b o e => Nat.ne_of_lt (Nat.lt_of_lt_of_le (Heap.lt_size e) hC)
    refine ⟨fun b o e n a c => k b o (ne b o e) (u.keep b o e n a c), fun b o e n a c => ?_, u.free, fun b o e c => ?_, u.tups, u.frzs, u.tbls⟩
    · obtain ⟨sl, z⟩ := u.slot b o e n a c
      exact ⟨sl, k b _ (ne b o e) z⟩
    · obtain ⟨o', z⟩ := u.there b o e c
      exact ⟨o', k b _ (ne b o e) z⟩
  have hok : HOk X.prog X.w H' h' := fun b o e => (I'.hok b o e).stay (fun c v hc q => k c v (by
    rcases hc with z | z
    · rw [z]; exact ne_of_none e hn
    · exact ne_of_none z hn) q) (fun _ q => q) fun _ _ q => q
  have r := I.call (g' := s'.gens) (t' := t') (d' := s'.drawn) (ch := fp) u2 hok I'.bare (fun b hb => by
    obtain ⟨f0, f1, f2, f3, f4, f5⟩ := hf b hb
    exact ⟨f3, f1, f4, f5⟩)
  have e : ({ s' with heap := h', toks := t' } : Shared) = { s with heap := h', gens := s'.gens, drawn := s'.drawn, toks := t' } := by
    have := I'.os; cases s'; cases s; simp only [compX] at this; subst this; rfl
  rw [e]; exact r
end
section
variable {prog : Program} {w : World} {A : Around} {R : Result -> Shared -> Prop} {s : Shared}
theorem compLoop_gen {elt target iter : Expr} {ifs : List Expr} {scope : Scope} {pos : Pos} {it acc : Value} {env : Env} (I : Nat -> Shared -> Prop)
 (turn : ∀ n s, I n s -> wpAny (model prog w) A (pyNext it) (fun r s1 => match r with
      | none => R (.ok .next) s1
      | some v => wpAny (model prog w) A (letOwnedTupleGo target it v) (fun _ s1' => wpAny (model prog w) A (assign target env v) (fun _ s2 =>
 wpAny (model prog w) A (forIn ifs true fun c r => if r = true then do let ok <- isTrue c env (eval c env); pure (ForInStep.yield ok) else pure (ForInStep.yield r)) (fun ok s3 =>
 if ok = true then wpAny (model prog w) A (eval elt env) (fun x s4 =>
 wpAny (model prog w) A (call (.builtin "list.append") [acc, x]) (fun _ s5 => ∃ m, m < n /\ I m s5) (notedBy (model prog w) A env fun e s' => R (.error e) s') s4) (notedBy (model prog w) A env fun e s' => R (.error e) s') s3
 else ∃ m, m < n /\ I m s3) (notedBy (model prog w) A env fun e s' => R (.error e) s') s2) (notedBy (model prog w) A env fun e s' => R (.error e) s') s1') (notedBy (model prog w) A env fun e s' => R (.error e) s') s1) (notedBy (model prog w) A env fun e s' => R (.error e) s') s)
 (n : Nat) (h : I n s) : codeAny (model prog w) A (.compLoop (.ListComp elt [⟨target, iter, ifs, 0⟩] scope pos) 0 it acc env) R s := by
  refine codeAny_loop rfl I (fun n s hI => ?_) n h
  show wpAny _ A ((compTurn (.ListComp elt [⟨target, iter, ifs, 0⟩] scope pos) 0 it acc env).onRaise (fun x => do noteFrame x env; theTreesLotGoes x)) _ _ s
  refine wpAny_noted ?_; rw [compTurn_list]; refine wpAny_bind (wpAny_standAt (wpAny_bind (wpAny_mono (turn n s hI) (fun r s1 h1 => ?_) fun _ _ h' => h')))
  cases r with
  | none => exact wpAny_pure h1
  | some v =>
    refine wpAny_bind (wpAny_mono h1 (fun _ s1' h1' => ?_) fun _ _ h' => h'); refine wpAny_bind (wpAny_mono h1' (fun _ s2 h2 => wpAny_bind (wpAny_mono h2 (fun ok s3 h3 => ?_) fun _ _ h' => h')) fun _ _ h' => h')
    cases ok with
    | false => exact wpAny_pure ⟨rfl, h3⟩
    | true =>
      exact wpAny_bind (wpAny_bind (wpAny_mono h3 (fun x s4 h4 => wpAny_bind (wpAny_mono h4 (fun _ s5 h5 => wpAny_pure (wpAny_pure ⟨rfl, h5⟩)) fun _ _ h' => h')) fun _ _ h' => h'))
end
def PIf (X : Cx) (ifs : List Expr) (t : TT) : Prop :=
  ∀ (pins : List (Addr × Obj)) (s : Shared) (σ : L2.St) (H : Hp) (Q : Bool -> Hp -> Prop), L2.Inv X pins σ H s -> t σ H Q -> wpAny (model X.prog X.w) X.A (forIn ifs true fun c r => if r = true then do let ok <- isTrue c X.env (eval c X.env); pure (ForInStep.yield ok) else pure (ForInStep.yield r)) (TP X pins σ Q) X.xe s
theorem pif_nil {X : Cx} : PIf X [] (fun _ H Q => Q true H) := fun pins s σ H Q I h => wpAny_tests_nil ⟨H, I, h⟩
def CompW (J : It) (D : Addr) (g : TG) (tc : TT) (tel : TE) (σ0 : L2.St) (H0 : Hp) (QD : Hp -> Prop) : Prop :=
  ∃ W : Nat -> Nat -> L2.St -> Hp -> Prop, (∃ m, W 0 m σ0 H0) /\ ∀ i m σ H, W i m σ H ->
    (J.stop i H /\ QD H) \/ (J.go i H /\ ∃ N : L2.St -> Hp -> Prop, (∀ σ' H', N σ' H' -> ∃ m', m' < m /\ W (i + 1) m' σ' H') /\
      ∀ x H', J.yld i H x H' -> g x σ H' fun σ2 H2 => tc σ2 H2 fun b H3 => if b = true then tel σ2 H3 fun y H4 => ∃ zs, H4 D = some (.lst zs) /\ zs.length < sizeLine /\ N σ2 (upd H4 D (.lst (zs ++ [y]))) else N σ2 H3)
section
variable {X : Cx} {pins : List (Addr × Obj)} {σ : L2.St} {H : Hp} {s : Shared} {scope : Scope} {N' : List Str} {cl : List (Str × Addr)} {fp : List Addr} {target iter elt : Expr} {ifs : List Expr} {pos : Pos} {g : TG} {tc : TT} {tel : TE} {nT : Nat} {J : It} {it D : Addr} {tn : Nat -> Heap -> Prop}
theorem comp_block {E : Value -> Shared -> Prop} (I : L2.Inv X pins σ H s) (hc : X.calm = true) (hk : scope.kind = .function) (hcell : ∀ y ∈ scope.names, y.2 ≠ .cell) (hcl : ClOk X scope cl) (cap : CapOk X scope nT N')
 (T : Turn X.prog X.w X.K target J fp it tn) (st : tn 0 s.heap) (hf : ∀ b ∈ fp, FpOk X pins H b)
 (hg : ∀ s3 H3 C cl fp, PG (compX X scope N' s3 H3 C cl fp) target g) (hif : ∀ s3 H3 C cl fp, PIf (compX X scope N' s3 H3 C cl fp) ifs tc) (hel : ∀ s3 H3 C cl fp, PE (compX X scope N' s3 H3 C cl fp) elt tel)
 {QD : Hp -> Prop} (hw : CompW J D g tc tel (List.replicate nT none ++ some (.ref D) :: σ) H QD) {RR : Addr -> Result -> Shared -> Prop}
 (hRR : ∀ C s' H' σ' pins', s.heap.objs.size <= C -> L2.Inv (compX X scope N' s H C cl fp) pins' σ' H' s' -> QD H' -> RR C (.ok .next) s') :
 wpAny (model X.prog X.w) X.A (newFunctionEnv scope X.env.globals cl [] X.env.qual none .none (some X.env)) (fun cenv s4 =>
 codeAny (model X.prog X.w) X.A (.compStart (.ListComp elt [⟨target, iter, ifs, 0⟩] scope pos) 0 (.ref it) (.ref D) { cenv with scope := relabel scope X.env }) (RR cenv.locals) s4) E s := by
  refine wpAny_newFunctionEnv hcell (by intro y hy; simp at hy) (fun h1 ns sb => ?_) hk
  try dsimp only at ns sb ⊢
  have hC : s.heap.objs.size <= s.heap.objs.size := Nat.le_refl _; have k : ∀ b o, s.heap.get? b = some o -> h1.get? b = some o := fun b o e => sb.extBut b o (Nat.ne_of_lt (Heap.lt_size e)) (Heap.get?_push_of_some _ e)
  have hb : ∀ b ∈ fp, b < s.heap.objs.size := fun b hb => by obtain ⟨o, e, _⟩ := T.obj _ _ st b hb; exact Heap.lt_size e
  have I0 : L2.Inv (compX X scope N' s H s.heap.objs.size cl fp) [] (List.replicate nT none ++ some (.ref D) :: σ) H { s with heap := h1, toks := s.toks + ([] : List (Str × Value)).length } :=
    comp_inv I hc hk hcl hC hf hb cap k ns
  have st1 : tn 0 h1 := T.keep _ _ _ st fun b _ o e => k b o e
  obtain ⟨W, ⟨m0, w0⟩, turn⟩ := hw; have stat : ∀ {H' : Hp}, (∀ b ∈ fp, H' b = none) -> ∀ b ∈ fp, FpOk (compX X scope N' s H s.heap.objs.size cl fp) [] H' b := fun hn b hb' =>
    ⟨hn b hb', Nat.ne_of_lt (hb b hb'), I0.ok.exfs b hb', .inl hb', (I0.ok.exf b hb').2, fun p hp => nomatch hp⟩
  have loop : codeAny (model X.prog X.w) X.A (.compLoop (.ListComp elt [⟨target, iter, ifs, 0⟩] scope pos) 0 (.ref it) (.ref D) (compEnvC scope cl s.heap.objs.size X.env)) (RR s.heap.objs.size) { s with heap := h1, toks := s.toks + ([] : List (Str × Value)).length } := by
    refine compLoop_gen (fun n s' => ∃ i σ' H', L2.Inv (compX X scope N' s H s.heap.objs.size cl fp) [] σ' H' s' /\ tn i s'.heap /\ (∀ b ∈ fp, H' b = none) /\ W i n σ' H') ?_ m0 ⟨0, _, H, I0, st1, fun b hb' => (hf b hb').1, w0⟩; rintro n s3 ⟨i, σ3, H3, I3, st3, fr3, w3⟩
    rcases turn i n σ3 H3 w3 with ⟨stop, qn⟩ | ⟨go, N, hN, step⟩
    · refine thn (T.done (compX X scope N' s H s.heap.objs.size cl fp) rfl rfl rfl hc i [] s3 σ3 H3 _ I3 (stat fr3) st3 stop) fun r s4 ⟨hr, I4⟩ => ?_
      subst hr; exact hRR _ s4 H3 σ3 [] hC I4 qn
    · refine thn (T.item (compX X scope N' s H s.heap.objs.size cl fp) rfl rfl rfl hc i [] s3 σ3 H3 _ I3 (stat fr3) st3 go) fun r s4 ⟨u, hr, h4⟩ => ?_
      subst hr; refine thn h4 fun _ s5 ⟨x, H5, I5, r5, y5, st5, fr5⟩ => ?_
      have I5' := I5.pinned (stat fr5) (T.obj _ _ st5); refine wpAny_mono (hg s H s.heap.objs.size cl fp _ s5 σ3 H5 x u _ I5' r5 (step x H5 y5)) (fun _ s6 ⟨σ6, H6, I6, q6⟩ => ?_) fun _ _ z => z.elim
      have again : ∀ {s7 : Shared} {σ7 : L2.St} {H7 : Hp}, L2.Inv (compX X scope N' s H s.heap.objs.size cl fp) ([] ++ pinsAt fp s5.heap) σ7 H7 s7 -> N σ7 H7 -> ∃ m, m < n /\ ∃ i σ' H', L2.Inv (compX X scope N' s H s.heap.objs.size cl fp) [] σ' H' s7 /\ tn i s7.heap /\ (∀ b ∈ fp, H' b = none) /\ W i m σ' H' := fun {s7 σ7 H7} I7 n7 => by
        obtain ⟨m', hm, w7⟩ := hN σ7 H7 n7; refine ⟨m', hm, i + 1, σ7, H7, I7.unpinned, T.keep _ _ _ st5 fun b hb' o e => (I7.pin (b, o) (List.mem_append_right _ (List.mem_append_right _ (mem_pinsAt hb' e)))).1, fun b hb' => ?_, w7⟩; obtain ⟨o, e, d⟩ := T.obj _ _ st5 b hb'; exact (I7.pin (b, o) (List.mem_append_right _ (List.mem_append_right _ (mem_pinsAt hb' e)))).2.1
      refine wpAny_mono (hif s H s.heap.objs.size cl fp _ s6 σ6 H6 _ I6 q6) (fun ok s7 ⟨H7, I7, q7⟩ => ?_) fun _ _ z => z.elim
      cases ok with
      | false =>
        rw [if_neg Bool.false_ne_true] at q7 ⊢; exact again I7 q7
      | true =>
        rw [if_pos rfl] at q7 ⊢; refine wpAny_mono (hel s H s.heap.objs.size cl fp _ s7 σ6 H7 _ I7 q7) (fun u8 s8 ⟨y, H8, I8, r8, zs, hz, hl, q8⟩ => ?_) fun _ _ z => z.elim
        refine wpAny_mono (mt_append (X := compX X scope N' s H s.heap.objs.size cl fp) _ s8 σ6 H8 (.ref D) [y] (.ref D) [u8] (fun v H' => H' = upd H8 D (.lst (zs ++ [y]))) I8 rfl (.cons r8 .nil) ⟨D, zs, y, rfl, rfl, hz, hl, rfl⟩) (fun _ s9 ⟨v9, H9, I9, r9, e9⟩ => ?_) fun _ _ z => z.elim
        subst e9; exact again I9 q8
  exact codeAny_compStart_list loop (T.self _ 0 _ _ _ st1 loop)
end
def clOf (env : Env) : List (Str × NameKind) -> List (Str × Addr) -> List (Str × Addr)
  | [], cs => cs
  | (n, k) :: r, cs => clOf env r (if (k == .free) = true then (match env.cells.lookup n with
    | some c => (n, c) :: cs
    | none => cs) else cs)
theorem closure_eq {scope : Scope} {env : Env} (h : ∀ x ∈ scope.names, x.2 = .free -> ∃ c, env.cells.lookup x.1 = some c) : closureFor scope env = pure (clOf env scope.names []) := by
  have key : ∀ (names : List (Str × NameKind)) (cs : List (Str × Addr)), (∀ x ∈ names, x.2 = .free -> ∃ c, env.cells.lookup x.1 = some c) ->
      (forIn names cs (fun (x : Str × NameKind) (r : List (Str × Addr)) => match x with
        | (name, kind) => if (kind == NameKind.free) = true then (do let c <- cellOf env name; pure (ForInStep.yield ((name, c) :: r))) else (pure (ForInStep.yield r))) : Sem (List (Str × Addr))) = pure (clOf env names cs) := by
    intro names
    induction names with
    | nil => intro cs _; rfl
    | cons p r ih =>
      intro cs hp; obtain ⟨n, k⟩ := p; rw [List.forIn_cons]
      cases hk : (k == NameKind.free) with
      | false =>
        simp only [hk, Bool.false_eq_true, if_false, clOf, pure_bind]; exact ih cs fun x hx => hp x (.tail _ hx)
      | true =>
        obtain ⟨c, e⟩ := hp (n, k) (.head _) (by simpa using hk); simp only [hk, if_true, clOf, cellOf, e, pure_bind]; exact ih _ fun x hx => hp x (.tail _ hx)
  simp only [closureFor]; have := key scope.names [] h; simp only at this ⊢; rw [this]; rfl
theorem clOf_sub {env : Env} : ∀ (names : List (Str × NameKind)) (cs : List (Str × Addr)), (∀ x c, cs.lookup x = some c -> env.cells.lookup x = some c) -> ∀ x c, (clOf env names cs).lookup x = some c -> env.cells.lookup x = some c
  | [], cs, h => h
  | (n, k) :: r, cs, h => by
    simp only [clOf]; refine clOf_sub r _ ?_; intro x c e
    split at e
    · split at e
      · rename_i c' e'
        rw [List.lookup_cons] at e
        cases hx : x == n with
        | true =>
          rw [hx] at e; have : x = n := by simpa using hx
          cases e; rw [this]; exact e'
        | false =>
          rw [hx] at e; exact h x c e
      · exact h x c e
    · exact h x c e
theorem clOf_keep {env : Env} : ∀ (names : List (Str × NameKind)) (cs : List (Str × Addr)) (x : Str), (∃ c, cs.lookup x = some c) -> ∃ c, (clOf env names cs).lookup x = some c
  | [], cs, x, h => h
  | (n, k) :: r, cs, x, h => by
    simp only [clOf]; refine clOf_keep r _ x ?_
    split
    · split
      · rw [List.lookup_cons]
        cases hx : x == n with
        | true => exact ⟨_, rfl⟩
        | false => exact h
      · exact h
    · exact h
theorem clOf_has {env : Env} : ∀ (names : List (Str × NameKind)) (cs : List (Str × Addr)) (x : Str), (∃ c, env.cells.lookup x = some c) -> (x, NameKind.free) ∈ names -> ∃ c, (clOf env names cs).lookup x = some c
  | [], cs, x, _, h => nomatch h
  | (n, k) :: r, cs, x, he, h => by
    simp only [clOf]
    rcases List.mem_cons.mp h with e | h
    · cases e
      obtain ⟨c, ec⟩ := he; refine clOf_keep r _ _ ?_; rw [if_pos (by rfl), ec]; exact ⟨c, by simp⟩
    · exact clOf_has r _ x he h
theorem lookup_mem {α : Type} {names : List (Str × α)} {x : Str} {k : α} (h : names.lookup x = some k) : (x, k) ∈ names := by
  induction names with
  | nil => cases h
  | cons p r ih =>
    obtain ⟨n, k'⟩ := p; rw [List.lookup_cons] at h
    cases hx : x == n with
    | true =>
      rw [hx] at h; have : x = n := by simpa using hx
      cases h; rw [this]; exact .head _
    | false =>
      rw [hx] at h; exact .tail _ (ih h)
theorem cl_ok {X : Cx} {scope : Scope} (ok : X.Ok) (hcell : ∀ y ∈ scope.names, y.2 ≠ .cell) (hfree : ∀ x ∈ scope.names, x.2 = .free -> X.env.kindOf x.1 = some .cell) :
 closureFor scope X.env = pure (clOf X.env scope.names []) /\ ClOk X scope (clOf X.env scope.names []) := by
  have hh : ∀ x ∈ scope.names, x.2 = .free -> ∃ c, X.env.cells.lookup x.1 = some c := fun x hx e => ok.has x.1 (.inl (hfree x hx e))
  refine ⟨closure_eq hh, clOf_sub _ _ (fun x c e => by cases e), fun x h => ?_⟩; have hm : (x, NameKind.free) ∈ scope.names := by
    rcases h with h | h
    · obtain ⟨⟨n, k⟩, hn, e⟩ := List.mem_map.mp (lookup_mem h)
      simp only at e
      split at e
      · rename_i q
        cases e; have : k = .free := by simp at q; exact q.1.1
        rw [<- this]; exact hn
      · cases e
        exact absurd rfl (hcell _ hn)
    · obtain ⟨⟨n, k⟩, hn, e⟩ := List.mem_map.mp (lookup_mem h)
      simp only at e
      split at e
      · cases e
      · cases e; exact hn
  exact clOf_has _ _ x (hh (x, .free) hm rfl) hm
structure CompOk (X : Cx) (scope : Scope) (nT : Nat) (N' : List Str) : Prop where
  calm : X.calm = true
  kind : scope.kind = .function
  cell : ∀ y ∈ scope.names, y.2 ≠ .cell
  free : ∀ x ∈ scope.names, x.2 = .free -> X.env.kindOf x.1 = some .cell
  loc : ∀ x ∈ scope.names, x.2 = .local -> scope.names.lookup x.1 = some .local
  cap : CapOk X scope nT N'
section
variable {X : Cx} {scope : Scope} {N' : List Str} {target iter elt : Expr} {ifs : List Expr} {pos : Pos} {g : TG} {tc : TT} {tel : TE} {nT : Nat} {wi : TI}
def tComp (nT : Nat) (wi : TI) (g : TG) (tc : TT) (tel : TE) : TE := fun σ H Q => wi σ H fun J H1 => ∀ D, H1 D = none -> CompW J D g tc tel (List.replicate nT none ++ some (.ref D) :: σ) (upd H1 D (.lst [])) (fun H' => Q (.ref D) H')
theorem pe_comp (ok : CompOk X scope nT N') (hi : PI X target iter wi) (hg : ∀ s3 H3 C cl fp, PG (compX X scope N' s3 H3 C cl fp) target g) (hif : ∀ s3 H3 C cl fp, PIf (compX X scope N' s3 H3 C cl fp) ifs tc) (hel : ∀ s3 H3 C cl fp, PE (compX X scope N' s3 H3 C cl fp) elt tel)
 (hs : ∀ x, foldedSetIterable iter X.env x = pure x) : PE X (.ListComp elt [⟨target, iter, ifs, 0⟩] scope pos) (tComp nT wi g tc tel) := by
  intro pins s σ H Q I h; obtain ⟨hclos, hcl⟩ := cl_ok I.ok ok.cell ok.free; rw [eval_ListComp]; refine wpAny_comprehension_free (use := none) rfl hs hclos ok.kind ok.loc (thn (hi pins s σ H _ I h) fun v s1 h1 => thn h1 fun itv s2 h2 => ?_); obtain ⟨it, fp, tn, J, H2, e, I2, T, st2, f2, W⟩ := h2; subst e; refine wpAny_newObj_type ?_; have I3 := I2.lnew (its := []) (t' := s2.toks) .nil (Nat.zero_le _); have kp : ∀ b o, s2.heap.get? b = some o -> (s2.heap.push { cls := .type "list", dict := none, data := .seq ([] : List Value).toArray }).get? b = some o := fun b o e => Heap.get?_push_of_some _ e
  have f3 : ∀ b ∈ fp, FpOk X pins (upd H2 s2.heap.objs.size (.lst [])) b := fun b hb => by
    obtain ⟨o, e, _⟩ := T.obj _ _ st2 b hb; exact ⟨by rw [upd_ne (Nat.ne_of_lt (Heap.lt_size e))]; exact (f2 b hb).1, (f2 b hb).2⟩
  refine comp_block (iter := iter) (pos := pos) (RR := fun C => compPost (model X.prog X.w) X.A X.xe none (EP X pins σ Q) (.ref s2.heap.objs.size) C) I3 ok.calm ok.kind ok.cell hcl ok.cap T (T.keep _ _ _ st2 fun b _ o e => kp b o e) f3 hg hif hel (W _ (I2.hok.fresh (Nat.le_refl _))) ?_; intro C s' H' σ' pins' hC I' q; obtain ⟨m, ns, _⟩ := I'.loc; refine ⟨m, ns, fun h' hsb => ⟨.ref s2.heap.objs.size, H', ?_, rfl, q⟩⟩; exact comp_back (nT := nT) I3 hC f3 I' hsb s'.toks
end
def NoOwn (pre : List Sl) : Prop := ∀ l ∈ pre, ¬ l.mine
section
variable {K : PySem.W.Frag} {H0 : Hp} {σ : L2.St} {δ : List Sl} {G H : Hp}
theorem Hs.un (h : Hs K H0 σ δ G H) : Hs K H0 (none :: σ) (.un :: δ) G H := by
  have a0 : ∀ p, ¬ At (none :: σ) (.un :: δ) 0 p := fun p a => (at_zero.mp a).1
  refine ⟨by simp [h.len], h.base, fun b => ?_, fun i d e => ?_, fun i d e => ?_, fun i p d e => ?_, fun i j p a1 a2 => ?_⟩
  · rcases h.ex b with ⟨z1, z2⟩ | ⟨z1, j, z2⟩
    · refine .inl ⟨z1, fun i a => ?_⟩
      cases i with
      | zero => exact a0 b a
      | succ i => exact z2 i (at_cons.mp a)
    · exact .inr ⟨z1, j + 1, at_cons.mpr z2⟩
  · cases i with
    | zero => cases e
    | succ i => exact h.fr i d e
  · cases i with
    | zero => cases e
    | succ i => exact h.ow i d e
  · cases i with
    | zero => cases e
    | succ i => exact h.lk i p d e
  · cases i with
    | zero => exact absurd a1 (a0 p)
    | succ i =>
      cases j with
      | zero => exact absurd a2 (a0 p)
      | succ j => rw [h.ne i j p (at_cons.mp a1) (at_cons.mp a2)]
theorem Hs.uns (h : Hs K H0 σ δ G H) : ∀ n : Nat, Hs K H0 (List.replicate n none ++ σ) (List.replicate n .un ++ δ) G H
  | 0 => h
  | n + 1 => (Hs.uns h n).un
theorem Hs.drops : ∀ {ps : L2.St} {pre : List Sl}, ps.length = pre.length -> NoOwn pre -> Hs K H0 (ps ++ σ) (pre ++ δ) G H -> Hs K H0 σ δ G H
  | [], [], _, _, h => h
  | p :: ps, l :: pre, e, no, h => Hs.drops (by simpa using e) (fun x hx => no x (.tail _ hx)) (Hs.drop h (no l (.head _)))
theorem noOwn_un (n : Nat) : NoOwn (List.replicate n .un) := fun l hl => by rw [List.eq_of_mem_replicate hl]; exact fun z => z
theorem NoOwn.set {pre : List Sl} (h : NoOwn pre) (i : Nat) (d : D) : NoOwn (pre.set i (.fr d)) := fun l hl => by
  rcases List.mem_or_eq_of_mem_set hl with z | z
  · exact h l z
  · subst z; exact fun z => z
end
abbrev RGp := D -> List Sl -> (List Sl -> Prop) -> Prop
abbrev RGsp := List D -> List Sl -> (List Sl -> Prop) -> Prop
def liftGp (K : PySem.W.Frag) (H0 : Hp) (nT : Nat) (g : RGp) : TG := fun v σ' H Q => ∃ (ps σ : L2.St) (pre δ : List Sl) (G : Hp) (d : D) (Qd : List Sl -> Prop), σ' = ps ++ σ /\ ps.length = nT /\ pre.length = nT /\ NoOwn pre /\ Hs K H0 σ' (pre ++ δ) G H /\ Rep K G d v /\ g d pre Qd /\
  ∀ ps' pre', ps'.length = nT -> pre'.length = nT -> NoOwn pre' -> Hs K H0 (ps' ++ σ) (pre' ++ δ) G H -> Qd pre' -> Q (ps' ++ σ) H
def liftGsp (K : PySem.W.Frag) (H0 : Hp) (nT : Nat) (g : RGsp) : TGs := fun vs σ' H Q => ∃ (ps σ : L2.St) (pre δ : List Sl) (G : Hp) (ds : List D) (Qd : List Sl -> Prop), σ' = ps ++ σ /\ ps.length = nT /\ pre.length = nT /\ NoOwn pre /\ Hs K H0 σ' (pre ++ δ) G H /\ Reps K G ds vs /\ g ds pre Qd /\
  ∀ ps' pre', ps'.length = nT -> pre'.length = nT -> NoOwn pre' -> Hs K H0 (ps' ++ σ) (pre' ++ δ) G H -> Qd pre' -> Q (ps' ++ σ) H
def PGp (X : Cx) (H0 : Hp) (nT : Nat) (tg : Expr) (g : RGp) : Prop := PG X tg (liftGp X.K H0 nT g)
def PGsp (X : Cx) (H0 : Hp) (nT : Nat) (tg : List Expr) (g : RGsp) : Prop := PGs X tg (liftGsp X.K H0 nT g)
section
variable {X : Cx} {H0 : Hp} {nT : Nat} {x : Str} {pos : Pos} {e : Expr} {es : List Expr}
def gpSet (i : Nat) (d : D) (pre : List Sl) (Q : List Sl -> Prop) : Prop := Q (pre.set i (.fr d))
theorem gp_name (i : Nat) (hlt : i < nT) (hN : X.N.Nodup) (hi : X.N[i]? = some x := by rfl) (hx : Loc X.env.scope x := by first | exact Or.inl rfl | exact Or.inr rfl) (hf : X.fn x = true \/ X.env.scope.names.lookup x = some .local := by first | exact .inl rfl | exact .inr rfl | assumption) : PGp X H0 nT (.Name x pos) (gpSet i) :=
  PG.weak (pg_name hN hi hx hf) fun v σ' H Q ⟨ps, σ, pre, δ, G, d, Qd, es, l1, l2, no, hs, r, h, k⟩ => by
    subst es; have hp : i < pre.length := by omega
    have hq : i < ps.length := by omega
    have h1 := hs.put0 (i := i) (l := pre[i]) (d := d) (v := v) (by rw [List.getElem?_append_left hp, List.getElem?_eq_getElem hp]) (no _ (List.getElem_mem hp)) r; rw [List.set_append_left _ _ hp, List.set_append_left _ _ hq] at h1; have h2 := k (ps.set i (some v)) (pre.set i (.fr d)) (by rw [List.length_set]; exact l1) (by rw [List.length_set]; exact l2) (no.set i d) h1 h; rw [<- List.set_append_left _ _ hq] at h2; exact h2
variable {g : RGp} {gs : RGsp}
def PIf2 (X : Cx) (H0 : Hp) (ifs : List Expr) (t : RT) : Prop := PIf X ifs (liftT X.K H0 t)
def rTrue (_ : List Sl) (Q : Bool -> Prop) : Prop := Q true
theorem if_nil : PIf2 X H0 [] rTrue := fun pins s σ H Q I h => pif_nil pins s σ H Q I (by
  obtain ⟨δ, G, Qd, hs, ht, k⟩ := h
  exact k true H G (Nx.refl hs) ht)
def compD (g : RGp) (tc : RT) (tel : RE) (δ : List Sl) : List D -> List Sl -> List D -> (List D -> Prop) -> Prop
  | [], _, acc, Q => Q acc
  | x :: xs, pre, acc, Q => g x pre fun pre' => tc (pre' ++ .ow (.lst acc) :: δ) fun b => Two b (tel (pre' ++ .ow (.lst acc) :: δ) fun y => acc.length < sizeLine /\ compD g tc tel δ xs pre' (acc ++ [y]) Q) (compD g tc tel δ xs pre' acc Q)
variable {target iter elt : Expr} {ifs : List Expr} {scope : Scope} {N' : List Str} {te tel : RE} {tc : RT}
theorem set_mid {α : Type} {pre δ : List α} {n : Nat} (h : pre.length = n) (a b : α) : (pre ++ a :: δ).set n b = pre ++ b :: δ := by
  subst h
  induction pre with
  | nil => rfl
  | cons p pre ih => simp [ih]
theorem get_mid {α : Type} {pre δ : List α} {n : Nat} (h : pre.length = n) (a : α) : (pre ++ a :: δ)[n]? = some a := by
  subst h; simp
end
def relO (scope osc : Scope) : List (Str × NameKind) := scope.names.map fun (n, k) => if (k == .free && osc.kind == .function && osc.names.lookup n == some .cell) then (n, .cell) else (n, k)
def isVis (k : Option NameKind) : Bool := match k with
  | some .local => true
  | some .cell => true
  | some .free => true
  | _ => false
def isCF (k : Option NameKind) : Bool := match k with
  | some .cell => true
  | some .free => true
  | _ => false
def isCell (k : Option NameKind) : Bool := match k with
  | some .cell => true
  | _ => false
def isLocal (k : Option NameKind) : Bool := match k with
  | some .local => true
  | _ => false
def compB (scope osc : Scope) (nT : Nat) (N' N : List Str) : Bool :=
  (scope.kind == .function) && (scope.names.all fun y => !isCell (some y.2)) && (scope.names.all fun y => !(isCF (some y.2)) || isCell (osc.names.lookup y.1)) && (scope.names.all fun y => !(isLocal (some y.2)) || isLocal (scope.names.lookup y.1)) &&
  (N'.length == nT + 1 + N.length) && (match N'[nT]? with
    | some x => !isVis ((relO scope osc).lookup x)
    | none => true) &&
  (List.range N.length).all fun j => match N'[nT + 1 + j]? with
    | some x => !isVis ((relO scope osc).lookup x) || ((match N[j]? with
      | some y => decide (y = x)
      | none => false) && isCell (osc.names.lookup x) && isCF ((relO scope osc).lookup x))
    | none => true
theorem isCell_of {k : Option NameKind} (h : isCell k = true) : k = some .cell := by
  unfold isCell at h
  split at h
  · rfl
  · cases h
theorem isCF_of {k : Option NameKind} (h : isCF k = true) : k = some .cell \/ k = some .free := by
  unfold isCF at h
  split at h
  · exact .inl rfl
  · exact .inr rfl
  · cases h
theorem isLocal_of {k : Option NameKind} (h : isLocal k = true) : k = some .local := by
  unfold isLocal at h
  split at h
  · rfl
  · cases h
theorem isVis_not {sc : Scope} {x : Str} (h : isVis (sc.names.lookup x) = false) : ¬ Vis sc x := fun z => by
  rcases z with z | z | z <;> rw [z] at h <;> cases h
theorem compOk_mk {X : Cx} {scope : Scope} {nT : Nat} {N' : List Str} (osc : Scope) {N : List Str} (hN : X.N = N) (he : X.env.scope = osc) (hc : X.calm = true) (hb : compB scope osc nT N' N = true) : CompOk X scope nT N' := by
  subst hN he; simp only [compB, Bool.and_eq_true] at hb; obtain ⟨⟨⟨⟨⟨⟨b1, b2⟩, b3⟩, b4⟩, b5⟩, b6⟩, b7⟩ := hb; rw [List.all_eq_true] at b2 b3 b4 b7; have er : (relabel scope X.env).names = relO scope X.env.scope := rfl; refine ⟨hc, by simpa using b1, fun y hy e => ?_, fun x hx e => ?_, fun x hx e => ?_, by simpa using b5, fun x e => ?_, fun j x e hv => ?_⟩
  · have := b2 y hy
    rw [e] at this; cases this
  · have := b3 x hx
    rw [e] at this; have this : isCell (X.env.scope.names.lookup x.1) = true := by simpa [isCF] using this
    exact isCell_of this
  · have := b4 x hx
    rw [e] at this; exact isLocal_of (by simpa [isLocal] using this)
  · rw [e] at b6
    exact isVis_not (by rw [er]; simpa using b6)
  · have hj : j < X.N.length := by
      have h1 := (List.getElem?_eq_some_iff.mp e).1; have h2 : N'.length = nT + 1 + X.N.length := by simpa using b5
      omega
    have := b7 j (List.mem_range.mpr hj); rw [e] at this; simp only [Bool.or_eq_true, Bool.and_eq_true] at this
    rcases this with z | ⟨⟨z1, z2⟩, z3⟩
    · exact absurd hv (isVis_not (by rw [er]; simpa using z))
    · refine ⟨?_, isCell_of z2, by rw [er]; exact isCF_of z3⟩
      cases q : X.N[j]? with
      | none => rw [q] at z1; cases z1
      | some y => rw [q] at z1; rw [of_decide_eq_true z1]
section
variable {X : Cx} {H0 : Hp} {nT : Nat} {pos : Pos} {g : RGp} {target iter elt : Expr} {ifs : List Expr} {scope : Scope} {N' : List Str} {te tel : RE} {tc : RT}
theorem compD_map {δ : List Sl} {p : D -> Bool} {f : D -> D} {Q : List D -> Prop} : ∀ (xs : List D) (l : Sl) (acc : List D), acc.length + xs.length <= sizeLine ->
 (∀ x ∈ xs, ∀ acc, RdT tc (.fr x :: .ow (.lst acc) :: δ) (p x)) -> (∀ x ∈ xs, p x = true -> ∀ acc, RdE tel (.fr x :: .ow (.lst acc) :: δ) (f x)) -> Q (acc ++ (xs.filter p).map f) -> compD (gpSet 0) tc tel δ xs [l] acc Q
  | [], l, acc, _, _, _, q => by
    have q : Q acc := by simpa using q
    exact q
  | x :: xs, l, acc, hl, h1, h2, q => by
    rw [List.length_cons] at hl; refine h1 x (.head _) acc _ ⟨fun e => h2 x (.head _) e acc _ ⟨by omega, ?_⟩, fun e => ?_⟩
    · refine compD_map xs _ (acc ++ [f x]) (by simp; omega) (fun y hy => h1 y (.tail _ hy)) (fun y hy => h2 y (.tail _ hy)) ?_
      rw [List.filter_cons_of_pos e] at q
      simpa using q
    · refine compD_map xs _ acc (by omega) (fun y hy => h1 y (.tail _ hy)) (fun y hy => h2 y (.tail _ hy)) ?_
      rw [List.filter_cons_of_neg (by rw [e]; exact Bool.false_ne_true)] at q; exact q
end
section
variable {X : Cx} {pins : List (Addr × Obj)} {σ : L2.St} {H H' : Hp} {s : Shared} {a : Addr} {y v : V} {u r : Value} {E : Value -> Shared -> Prop} {A : Around}
end
section
variable {prog : Program} {w : World} {A : Around} {R : Result -> Shared -> Prop} {s : Shared}
end
section
variable {X : Cx} {pins : List (Addr × Obj)} {σ : L2.St} {H : Hp} {s : Shared} {scope : Scope} {N' : List Str} {cl : List (Str × Addr)} {fp : List Addr} {target iter kx vx : Expr} {ifs : List Expr} {pos : Pos} {g : TG} {tc : TT} {tk tv : TE} {nT : Nat} {J : It} {it D : Addr} {tn : Nat -> Heap -> Prop}
variable {wi : TI}
end
section
variable {X : Cx} {H0 : Hp} {nT : Nat} {pos : Pos} {g : RGp} {target iter kx vx : Expr} {ifs : List Expr} {scope : Scope} {N' : List Str} {te tk tv : RE} {tc : RT}
end
section
variable {X : Cx} {H0 : Hp} {o e : Expr} {ta te : RE} {apos cpos : Pos}
end
section
variable {X : Cx} {scope : Scope} {N' : List Str} {target iter kx vx : Expr} {ifs : List Expr} {pos : Pos} {g : TG} {tc : TT} {tk tv : TE} {nT : Nat} {wi : TI}
end
section
variable {X : Cx} {H0 : Hp} {nT : Nat} {pos : Pos} {g : RGp} {target iter kx vx : Expr} {ifs : List Expr} {scope : Scope} {N' : List Str} {te tk tv : RE} {tc : RT}
end
section
variable {X : Cx} {H0 : Hp} {a b : Expr} {p p2 pos pos2 : Pos}
end
mutual
def flat : D -> Bool
  | .lst _ => false
  | .dK _ => false
  | .dT _ => false
  | .exc _ _ => false
  | .tup xs => flats xs
  | _ => true
def flats : List D -> Bool
  | [] => true
  | d :: ds => flat d && flats ds
end
def without (G : Hp) (p : Addr) : Hp := fun b => if b = p then none else G b
section
variable {K : PySem.W.Frag} {H0 : Hp} {σ : L2.St} {δ : List Sl} {G H G1 H1 : Hp} {i : Nat} {d : D} {p : Addr}
end
section
variable {X : Cx} {H0 : Hp} {e : Expr} {t : RE} {u : RT}
end
section
variable {X : Cx} {H0 : Hp} {x y : Str} {pos p1 p2 p3 : Pos} {k : Nat}
variable {f : Str} {sp : Sp2} {e : Expr} {es : List Expr} {tr : RA} {p : Pos}
end
section
variable {X : Cx} {pins : List (Addr × Obj)} {σ : L2.St} {H : Hp} {s : Shared} {a : Addr} {kws : List (Key × V)} {ob : Obj}
end
section
variable {X : Cx} {tg : Expr}
end
section
variable {X : Cx} {H0 : Hp} {tg : Expr} {g : RG} {body : List Stmt} {tb : RS} {pos p : Pos} {x : Str}
end
section
variable {prog : Program} {w : World} {A : Around} {E : Value -> Shared -> Prop} {s : Shared}
end
section
variable {X : Cx} {H0 : Hp} {e : Expr} {es : List Expr} {tr : RA} {pos p : Pos}
end
section
variable {X : Cx} {H0 : Hp} {e value : Expr} {te tv : RE} {pos pos' cpos apos p : Pos} {x : Str}
end
section
variable {X : Cx} {H0 : Hp} {ts : List Expr} {k : Nat} {tp p p2 pos pos2 : Pos} {a : Expr} {ta : RE} {g : RG} {tb : RS} {body : List Stmt} {x : Str}
end
section
variable {K : PySem.W.Frag} {H0 : Hp} {σ : L2.St} {δ : List Sl} {G H : Hp}
end
section
variable {X : Cx} {H0 : Hp} {e e1 e2 : Expr} {t t1 t2 : RE} {pos p1 p3 : Pos} {k3 : Nat} {x : Str}
end
section
variable {X : Cx} {H0 : Hp} {f x : Str} {sp : Sp2} {e : Expr} {es : List Expr} {tr : RA} {k : Nat} {p p1 pos p5 : Pos}
end
section
variable {K : PySem.W.Frag} {H0 : Hp} {σ : L2.St} {δ : List Sl} {G H : Hp} {i k g : Nat} {q : Addr} {ds : List D} {y : D}
end
section
variable {X : Cx} {H0 : Hp} {e : Expr} {t : RE} {u : RT}
end
section
variable {X : Cx} {H0 : Hp} {e : Expr} {te : RE} {pos cpos apos p ps pk : Pos} {x : Str} {kc : Nat}
end
section
variable {X : Cx} {H0 : Hp} {f x : Str} {sp : Sp2} {e : Expr} {es : List Expr} {tr : RA} {k : Nat} {p p1 pos p5 : Pos}
end
section
variable {X : Cx} {H0 : Hp} {e a : Expr} {te ta : RE} {pos pos' cpos apos p p2 p3 p4 p5 p6 : Pos} {x f : Str} {j : Nat}
structure rIfPop (i : Nat) (t : RT) (ta : RE) (sp : Sp2) (tb te : RS) (E : Ends2) (δ : List Sl) : Prop where
  run : t δ fun k => Two k (tb E δ) (ta δ fun dx => match δ[i]? with
    | some (.ow (.lst ys)) => ∃ y, ys[ys.length - 1]? = some y /\ sp [y] (retQ fun r => plainD 60 dx = true /\ plainD 60 r = true /\ Two (true != eqD dx r) (tb E (δ.set i (.ow (.lst ys.dropLast)))) (te E (δ.set i (.ow (.lst ys.dropLast)))))
    | _ => False)
end
def CX1 (P : Program) (w : World) : CXT := fun outer H s E e s' => ∃ (ea C t : Addr) (B : Heap) (H' : Hp), e = .ref ea /\ s'.os = s.os /\ AllBare s'.gens /\ Heap.FlyingW B outer ea (.ref C) (.ref t) s'.heap /\
  (∀ h6, B.StaysIn h6 -> s'.heap.UpToSlots h6 -> Un (frs outer) [] H H' s.heap h6 /\ HOk P w H' h6) /\ H' ea = none /\ s.heap.get? ea = none /\ E (.ref C) (some ea) H'
section
variable {P : Program} {w : World} {K : PySem.W.Frag} {mg : Str -> Option Value} {base : Heap} {N : List Str} {qual : Str} {scope : Scope} {f : Addr} {cd : Value} {A : Around} {outer : List Env} {s s1 : Shared} {H H1 : Hp} {E : XK} {pins : List (Addr × Obj)} {σ : L2.St}
end
abbrev RJ := List Sl -> (Str -> Prop) -> Prop
section
variable {X : Cx} {H0 : Hp} {es : List Expr} {e : Expr} {te : RE} {tj : RJ} {c : Str} {pos : Pos} {j : Nat}
end
structure Err (K : PySem.W.Frag) (mg : Str -> Option Value) (base : Heap) (x : Str) (C : Addr) (bm : List Value) : Prop where
  ex : ∃ B newId initId, ExcBaseFacts B newId initId bm /\ OwnCls x C bm newId mg base
section
variable {X : Cx} {H0 : Hp} {x : Str} {C : Addr} {bm : List Value} {e : Expr} {es : List Expr} {tr : RA} {np cpos pos : Pos} {R : Prop}
end
abbrev SpX := List D -> (Ret -> Prop) -> (Str -> Prop) -> Prop
def liftX (K : PySem.W.Frag) (mg : Str -> Option Value) (sp : SpX) : Sp := fun vs H Q E => ∃ ds Qd Xd, Reps K H ds vs /\ sp ds Qd Xd /\ (∀ v H' r, RetOk K H H' v r -> Qd r -> Q v H') /\ ∀ x C a H', Xd x -> mg x = some (.ref C) -> Same H H' -> E (.ref C) (some a) H'
section
variable {P : Program} {w : World} {K : PySem.W.Frag} {mg : Str -> Option Value} {base : Heap}
end
structure FnX (P : Program) (w : World) (K : PySem.W.Frag) (mg : Str -> Option Value) (base : Heap) (k : Nat) (x : Str) (sp : SpX) : Prop where
  ex : ∃ (f : Addr) (fd : FuncData) (ps : List Str), FnOk P w K mg base (CX1 P w) k f fd ps (liftX K mg sp) /\ mg x = some (.ref f) /\ PySem.W.keepIn K (.ref f) = true /\ Binds K fd ps []
def Fly (X : Cx) (H0 : Hp) (pins : List (Addr × Obj)) (σ : L2.St) (δ : List Sl) (G H : Hp) (x : Str) (ea : Addr) (s' : Shared) : Prop := ∃ (C t : Addr) (B : Heap) (G2 H2 : Hp), X.mg x = some (.ref C) /\ Heap.FlyingW B X.stack ea (.ref C) (.ref t) s'.heap /\ (X.ex = [] -> X.s₀.heap.get? ea = none) /\
  ∀ h6, B.StaysIn h6 -> s'.heap.UpToSlots h6 -> Inv X pins σ H2 { s' with heap := h6 } /\ Nx X.K H0 σ δ G H G2 H2 /\ H2 ea = none
section
variable {X : Cx} {H0 : Hp} {k : Nat} {x : Str} {sp : SpX} {e : Expr} {es : List Expr} {tr : RA} {p pos : Pos}
end
section
variable {X : Cx} {H0 : Hp} {pins : List (Addr × Obj)} {σ : L2.St} {δ : List Sl} {G H : Hp} {x y : Str} {ea : Addr} {s' : Shared} {b₀ : Stmt} {suite : List Stmt} {np hpos : Pos} {rest : List ExceptHandler} {Q : Flow -> Shared -> Prop}
end
section
variable {X : Cx} {H0 : Hp} {k : Nat} {f y : Str} {sp : SpX} {e : Expr} {es : List Expr} {tr : RA} {p np cpos epos hpos pos : Pos} {b₀ : Stmt} {suite : List Stmt} {tb : RS}
end
end M
namespace PySem.W
open PySem PySem.Spec PySem.Calls PyProof.Rows Builtin Builtin.ObjectAttr Builtin.Getset_descriptor
section
variable {prog : Program} {w : World} {A : Around} {E : Value -> Shared -> Prop} {s : Shared} {K : Frag} {x D : Addr} {name : Str}
theorem xin_find {M : Model} {h : Heap} {g a : Value} (X : K.In h) (ha : findIn K (.ref D) name = some (some a)) (hg : specialIn K a "__get__" = some (some g)) (ht : takesIn K a = some true) : Looks M h (find (.ref x) (.ref D) name) (.bind g a) := by
  have L1 := looks_findIn (M := M) X ha; have L2 : Looks M h (getOf (some a)) (some g) := looks_specialIn X hg; have L3 := looks_takesIn (M := M) X ht; exact L1.andThen (L2.andThen ((show Looks M h (dataDescriptor? (some a) (some g)) (some (g, a)) from L3.andThen .now).andThen (Looks.tag .now)))
theorem xin_class_get {tp : Value} {R : Result -> Shared -> Prop} (X : K.In s.heap) (T : ∀ M, Looks M s.heap (typeOf (.ref x)) (.ref D)) (hm : mroIn K D (.type "object") = some true)
 (h : R (.ok (.ret (.ref D))) s) : codeAny (model prog w) A (.call (.builtin "getset_descriptor.__get__") ⟨[.builtin "object.__class__", .ref x, tp], []⟩) R s := by
  obtain ⟨hh, g, dr, t, os⟩ := s; have L0 := T (model prog w); have L1 := looks_mroIn (M := model prog w) X hm; refine codeAny_call_builtin KF.slot_gs.plain KF.entry_gs (KF.slot_gs.check _ _ _ _ _ _ _ _ KF.type_class (KF.args_gs _ _ _) ?_); unfold Builtin.«getset_descriptor.__get__» descrGet; rw [dga_obj]; refine wpAny_bind (wpAny_pure ?_); unfold descrGetter descrCheckInstance descrNameAndClass isInstance; simp only [KF.owner_class]
  repeat lk
  refine ⟨Code.quiet_builtin _ (by decide +kernel), codeAny_builtin KF.entry_class ?_⟩; unfold Builtin.«object.__class__» shownTypeOf
  repeat lk
  exact h
theorem xin_class2 {B : String} (FG : Slot B "__getattribute__" "BaseException.__getattribute__") {Q : Option Value -> Shared -> Prop} (X : K.In s.heap) (T : ∀ M, Looks M s.heap (typeOf (.ref x)) (.ref D)) (hga : findIn K (.ref D) "__getattribute__" = some (some (.builtin "BaseException.__getattribute__"))) (hgt : findIn K (.ref D) "__getattr__" = some none) (ha : findIn K (.ref D) "__class__" = some (some (.builtin "object.__class__")))
 (hn : specialIn K (.builtin "object.__class__") "__get__" = some (some (.builtin "getset_descriptor.__get__"))) (htk : takesIn K (.builtin "object.__class__") = some true) (hm : mroIn K D (.type "object") = some true) (hmb : mroIn K D (.type "BaseException") = some true)
 (h : Q (some (.ref D)) { s with toks := s.toks + 1 }) : wpAny (model prog w) A (getAttr? (.ref x) "__class__") Q E s := by
  obtain ⟨hh, g, d, t, os⟩ := s; have L0 := T (model prog w); have L1 := looks_findIn (M := model prog w) X hga; have L2 := looks_findIn (M := model prog w) X hgt; have L3 := xin_find (M := model prog w) (x := x) X ha hn htk; have hx2 : (Value.builtin "BaseException.__getattribute__" == Value.builtin "object.__getattribute__") = false := by decide +kernel
  have hx1 : (onTheHeap (Value.ref D) && Value.builtin "BaseException.__getattribute__" == Value.builtin "object.__getattribute__") = false := by rw [hx2]; rfl
  unfold getAttr? getAttrBy? getAttrBy; refine wpAny_bind (wpAny_mkText (wpAny_bind (wpAny_attempt (wpAny_holding (wpAny_bind (L0.at (wpAny_bind (L1.at ?_)))))))); dsimp only; rw [if_neg (by rw [hx1]; exact Bool.false_ne_true)]; unfold getAttrByItsOwn; refine wpAny_bind (show wpAny _ _ (typeLookup (.ref D) "__getattr__") _ _ _ from L2.at ?_); refine wpAny_bind (wpAny_attempt (wpAny_holding ?_))
  show wpAny _ _ (boundAndCalled (.builtin "BaseException.__getattribute__") (.ref x) (.str "__class__" t)) _ _ _
  unfold boundAndCalled; have f3 := FG.bind (.ref x); have L5 := looks_mroIn (M := model prog w) X hmb; have L6 := looks_mroIn (M := model prog w) X hm; have hk : builtinKind "BaseException.__getattribute__" = some .slot := by decide +kernel
  have hsplit : splitId "BaseException.__getattribute__" = some ("BaseException", "__getattribute__") := by decide +kernel
  have har := PySem.F.args_bexc_ga (.ref x) (.str "__class__" t); have body : ∀ {A : Around} {E : Value -> Shared -> Prop} {R : Fin -> Shared -> Prop} {tk : Nat}, R (.done (.ret (.ref D))) ⟨hh, g, d, tk, os⟩ -> wpAny (model prog w) A (Builtin.«object.__getattribute__» ⟨[.ref x, .str "__class__" t], []⟩) R E ⟨hh, g, d, tk, os⟩ := by
    intro A E R tk hq; unfold Builtin.«object.__getattribute__»
    repeat (any_goals (first | assumption | (with_reducible refine L0.at ?_) | (with_reducible refine L3.at ?_) | wp_step))
    refine xin_class_get (s := ⟨hh, g, d, tk, os⟩) X T hm ?_
    repeat (any_goals (first | assumption | wp_step))
  have chk : ∀ {A : Around} {E : Value -> Shared -> Prop} {R : Unit -> Shared -> Prop} {tk : Nat}, R () ⟨hh, g, d, tk, os⟩ -> wpAny (model prog w) A (checkBuiltinCall "BaseException.__getattribute__" ⟨[.ref x, .str "__class__" t], []⟩) R E ⟨hh, g, d, tk, os⟩ := by
    intro A E R tk hq; simp only [checkBuiltinCall, hk, hsplit]; refine wpAny_bind ?_; unfold isInstance
    repeat (first | (with_reducible refine L0.at ?_) | (with_reducible refine L5.at ?_) | wp_step)
    exact hq
  repeat (any_goals (first | assumption | wp_step))
  refine codeAny_call_builtin FG.plain PySem.F.entry_bexc_ga (chk (body ?_)); exact handed_on rfl (wpAny_pure h)
theorem kitx_exc {B : String} (FG : Slot B "__getattribute__" "BaseException.__getattribute__") (hc : (clsIn K D).isSome = true) (hga : findIn K (.ref D) "__getattribute__" = some (some (.builtin "BaseException.__getattribute__"))) (hgt : findIn K (.ref D) "__getattr__" = some none) (ha : findIn K (.ref D) "__class__" = some (some (.builtin "object.__class__")))
 (hn : specialIn K (.builtin "object.__class__") "__get__" = some (some (.builtin "getset_descriptor.__get__"))) (htk : takesIn K (.builtin "object.__class__") = some true) (hm : mroIn K D (.type "object") = some true) (hmb : mroIn K D (.type "BaseException") = some true) :
 KitX K (.ref x) (.ref D) (fun h => ∃ o, h.get? x = some o /\ o.cls = .ref D) where
  ty := fun _ _ _ ⟨o, h1, h2⟩ => h2 ▸ (Looks.ld h1).andThen .now
  it := fun _ _ X _ => by
    obtain ⟨cdD, hcD⟩ := Option.isSome_iff_exists.mp hc; unfold clsIn at hcD
    split at hcD
    · rename_i c' d' cd' sl' ho
      intro A' Q' E' s' k q; unfold isType loadHead; exact wpAny_bind (wpAny_loadPart (k _ _ (X _ _ ho)) (wpAny_pure q))
    · cases hcD
  ne := fun h tp dd its n sl X htp => by
    obtain ⟨cdD, hcD⟩ := Option.isSome_iff_exists.mp hc; refine Bool.eq_false_iff.mpr fun q => ?_
    have e : D = tp := Value.ref.inj (beq_iff_eq.mp q); subst e; unfold clsIn at hcD
    split at hcD
    · rename_i c' d' cd' sl' ho
      have z := (X _ _ ho).symm.trans htp; cases z
    · cases hcD
  ca := fun X ⟨o, h1, h2⟩ k => xin_class2 FG X (fun M => h2 ▸ (Looks.ld h1).andThen .now) hga hgt ha hn htk hm hmb k
end
end PySem.W
namespace M
open PySem PySem.Spec PyProof.Rows L2
section
variable {Mo : Model} {A : Around} {E : Value -> Shared -> Prop}
variable {nm q nm' q' : Str} {C N C' N' : Addr} {bs bm bs' bm' : List Value} {hdct hdct' : Bool} {sn sn' : List Str} {sub sub' : List Value} {ab ab' : Bool} {col col' : Option Bool} {dd dd' : Option Addr} {k0 k1 k2 k3 k5 j0 j1 j2 j3 j5 : Option Value} {newId newId' : String}
end
section
variable {X : Cx} {pins : List (Addr × Obj)} {σ : L2.St} {H : Hp} {s : Shared}
end
section
variable {X : Cx} {H0 : Hp} {k : Nat} {f y c n : Str} {sp : SpX} {e : Expr} {es : List Expr} {tr : RA} {p np cpos epos hpos pos : Pos} {b₀ : Stmt} {suite : List Stmt} {tb : Addr -> RS} {i : Nat}
end
structure ErrK (K : PySem.W.Frag) (C : Addr) : Prop where
  c : PySem.W.hasDictIn K C = true
  ga : PySem.W.findIn K (.ref C) "__getattribute__" = some (some (.builtin "BaseException.__getattribute__"))
  gt : PySem.W.findIn K (.ref C) "__getattr__" = some none
  a : PySem.W.findIn K (.ref C) "__class__" = some (some (.builtin "object.__class__"))
  n : PySem.W.specialIn K (.builtin "object.__class__") "__get__" = some (some (.builtin "getset_descriptor.__get__"))
  t : PySem.W.takesIn K (.builtin "object.__class__") = some true
  m : PySem.W.mroIn K C (.type "object") = some true
  mb : PySem.W.mroIn K C (.type "BaseException") = some true
theorem ErrK.cs {K : PySem.W.Frag} {C : Addr} (k : ErrK K C) : (PySem.W.clsIn K C).isSome = true := by
  obtain ⟨cd, hc, _⟩ := PySem.W.any_some k.c; rw [hc]; rfl
section
variable {X : Cx} {H0 : Hp} {ea C : Addr} {ob : Obj} {e : Expr} {te : RE} {c : Str} {T : String} {C' : Addr} {b : Bool} {p p2 pos : Pos}
end
theorem err_of {K : PySem.W.Frag} {mg : Str -> Option Value} {base : Heap} {x : Str} {C : Addr} {bm : List Value} {B newId initId : String} (X : K.In base) (G : base.Ns mainGlobals mg) (FB : ExcBaseFacts B newId initId bm)
 (e : PySem.W.nsIn K mainGlobals x = some (some (.ref C))) (q : PySem.W.excIn K C bm newId = true) : Err K mg base x C bm := by
  refine ⟨B, newId, initId, FB, PySem.W.mg_of X G e, ?_⟩; unfold PySem.W.excIn at q
  split at q
  · rename_i dd cd sl ho
    split at q
    · rename_i C' bm' k0 k1 k2 k3 n k5 hm hs
      simp only [Bool.and_eq_true, beq_iff_eq, Bool.not_eq_true'] at q; obtain ⟨⟨⟨⟨⟨rfl, rfl⟩, hdel⟩, ht⟩, hok⟩, hni⟩ := q; obtain ⟨nm, bs, mro, ns, qn, hd, sn, sub, ab, col, del⟩ := cd; dsimp only at hm hdel hok hni; subst hm hdel; have hsl : sl = #[k0, k1, k2, k3, some (.builtin n), k5] := by
        obtain ⟨l⟩ := sl; simp only at hs; rw [hs]
      subst hsl; exact ⟨bm', ns, nm, qn, bs, hd, sn, sub, ab, col, dd, k0, k1, k2, k3, k5, _, X _ _ ho, .of_isNs (PySem.W.isNs_of_in X hok), PySem.W.nsMap_none_of_in X hok hni, PySem.W.tail_of_in X ht⟩
    · cases q
  · cases q
def Pass (X : Cx) (H0 : Hp) (x : Str) : Prop := ∀ (pins : List (Addr × Obj)) (σ : L2.St) (δ : List Sl) (G H : Hp) (ea : Addr) (s' : Shared), Fly X H0 pins σ δ G H x ea s' -> X.xe (.ref ea) s'
section
variable {P : Program} {w : World} {K : PySem.W.Frag} {mg : Str -> Option Value} {base : Heap} {N : List Str} {qual : Str} {scope : Scope} {f : Addr} {cd : Value} {A : Around} {outer : List Env} {s : Shared} {H : Hp} {E : XK} {x : Str}
end
section
variable {X : Cx} {H0 : Hp} {k : Nat} {f : Str} {sp : SpX} {e : Expr} {es : List Expr} {tr : RA} {p cpos : Pos} {R : Str -> Prop}
end
def GTab (P : Program) (w : World) (K : PySem.W.Frag) (mg : Str -> Option Value) (g : Str) (tab : List (Str × Addr)) : Prop :=
  ∃ (a : Addr) (es : Array DictEntry) (n : Nat), mg g = some (.ref a) /\ K.lookup a = some ⟨.type "dict", none, .dict es n, #[]⟩ /\ KeysOf (mixKind P w) es /\ Pairs (mixKind P w) es.toList (tab.map fun p => (.inr p.1, .ref p.2)) /\ (tab.map (·.1)).Nodup
section
variable {X : Cx} {H0 : Hp} {g : Str} {tab : List (Str × Addr)} {e a : Expr} {te ta : RE} {np pos pos2 : Pos}
end
section
variable {X : Cx} {pins : List (Addr × Obj)} {σ : L2.St} {H : Hp} {s : Shared} {a : Addr} {kws : List (Key × V)} {ob : Obj}
end
section
variable {X : Cx} {tg : Expr}
end
section
variable {X : Cx} {H0 : Hp} {tg : Expr} {g : RG} {body : List Stmt} {tb : RS} {pos p : Pos} {x : Str}
end
section
variable {X : Cx} {H0 : Hp} {nT : Nat} {g : RGp} {e : Expr} {pos p2 : Pos}
variable {target iter elt : Expr} {ifs : List Expr} {scope : Scope} {N' : List Str} {te tel : RE} {tc : RT}
end
section
variable {X : Cx} {H0 : Hp} {a b e o : Expr} {es : List Expr} {ta tb te to : RE} {tr : RA} {tj : RJ} {pos p apos cpos p2 : Pos}
end
section
variable {X : Cx} {H0 : Hp} {e : Expr} {te : RE} {lo hi : Option Expr} {tl th : RO} {pos p2 : Pos}
end
section
variable {prog : Program} {w : World} {A : Around} {R : Result -> Shared -> Prop} {s : Shared}
variable {elt t1 i1 t2 i2 : Expr} {scope : Scope} {pos : Pos} {it acc : Value} {env : Env}
end
section
variable {Y : Cx} {pins : List (Addr × Obj)} {σ : L2.St} {H : Hp} {s : Shared} {fp : List Addr} {elt t1 i1 t2 i2 : Expr} {scope : Scope} {pos : Pos} {g : TG} {tel : TE} {J : It} {it D : Addr} {tn : Nat -> Heap -> Prop} {QN : L2.St -> Hp -> Prop}
end
section
variable {X : Cx} {pins : List (Addr × Obj)} {σ : L2.St} {H : Hp} {s : Shared} {scope : Scope} {N' : List Str} {cl : List (Str × Addr)} {fp : List Addr} {elt t1 i1 t2 i2 : Expr} {pos : Pos} {g1 g2 : TG} {wi : TI} {tel : TE} {nT : Nat} {J : It} {it D : Addr} {tn : Nat -> Heap -> Prop}
end
section
variable {X : Cx} {H0 : Hp} {nT : Nat} {g1 g2 : RGp} {te te2 tel : RE} {pos : Pos} {elt t1 i1 t2 i2 : Expr} {scope : Scope} {N' : List Str}
end
section
variable {X : Cx} {H0 : Hp} {e a : Expr} {es : List Expr} {tr : RA} {te : RE} {pos p : Pos}
end
section
variable {X : Cx} {scope : Scope} {N' : List Str} {elt t1 i1 t2 i2 : Expr} {pos : Pos} {g1 g2 : TG} {wi : TI} {tel : TE} {nT : Nat}
end
section
variable {X : Cx} {H0 : Hp} {nT : Nat} {g1 g2 : RGp} {te te2 tel : RE} {pos : Pos} {elt t1 i1 t2 i2 : Expr} {scope : Scope} {N' : List Str}
end
section
variable {X : Cx} {H0 : Hp} {e : Expr} {es : List Expr} {tr : RA} {pos p : Pos}
end
section
variable {X : Cx} {H0 : Hp} {e value : Expr} {te tv : RE} {pos pos' cpos apos p : Pos} {x : Str}
end
section
variable {X : Cx} {H0 : Hp} {nT : Nat} {pos : Pos} {g : RGp} {target elt : Expr} {ifs : List Expr} {scope : Scope} {N' : List Str} {tel : RE} {tc : RT}
end
section
variable {X : Cx} {H0 : Hp} {o e : Expr} {es : List Expr} {te ta : RE} {tr : RA} {pos p apos cpos : Pos}
end
structure Stp (prog : Program) (w : World) (i l : Addr) (n : Nat) (isV : Nat -> Value -> Prop) (St : Nat -> Heap -> Prop) (Sq : Heap -> Prop) : Prop where
  item : ∀ {A : Around} {E : Value -> Shared -> Prop} {s : Shared} {Q : Value -> Shared -> Prop} {k : Nat}, k < n -> St k s.heap -> Sq s.heap -> (∀ v h' t', isV k v -> St (k + 1) h' -> Heap.SameBut i s.heap h' -> Q v { s with heap := h', toks := t' }) -> wpAny (model prog w) A (Builtin.SmallTypes.nextOf (.ref i)) Q E s
  fin : ∀ {A : Around} {E : Value -> Shared -> Prop} {s : Shared} {Q : Value -> Shared -> Prop} {k : Nat}, A.handled = none -> n <= k -> St k s.heap -> Sq s.heap -> (∀ h' e, Heap.ExtBut i s.heap h' -> (∃ o, h'.get? e = some o /\ o.cls = .type "StopIteration") -> E (.ref e) { s with heap := h' }) -> wpAny (model prog w) A (Builtin.SmallTypes.nextOf (.ref i)) Q E s
  kst : ∀ {k : Nat} {h h' : Heap}, St k h -> (∀ o, h.get? i = some o -> h'.get? i = some o) -> St k h'
  ksq : ∀ {h h' : Heap}, Sq h -> (∀ o, h.get? l = some o -> h'.get? l = some o) -> Sq h'
  obj : ∀ {k : Nat} {h : Heap}, St k h -> ∃ o, h.get? i = some o /\ ∃ vs, o.data = .fields vs
structure ZApart (z TI TO i1 i2 l1 l2 : Addr) : Prop where
  ti : TI ≠ z /\ TI ≠ TO /\ TI ≠ i1 /\ TI ≠ i2
  to : TO ≠ z /\ TO ≠ i1 /\ TO ≠ i2
  it : i1 ≠ z /\ i2 ≠ z /\ i1 ≠ i2
  la : l1 ≠ z /\ l1 ≠ TO /\ l1 ≠ i1 /\ l1 ≠ i2
  lb : l2 ≠ z /\ l2 ≠ TO /\ l2 ≠ i1 /\ l2 ≠ i2
section
variable {prog : Program} {w : World} {A : Around} {s : Shared} {z TI TO i1 i2 l1 l2 : Addr} {n1 n2 k1 k2 : Nat} {is1 is2 : Nat -> Value -> Prop} {St1 St2 : Nat -> Heap -> Prop} {Sq1 Sq2 : Heap -> Prop} {a b : Value}
end
section
variable {X : Cx} {H0 : Hp}
variable {ts : List Expr} {k : Nat} {tp p pos pos2 : Pos} {a b : Expr} {tr : RA} {g : RG} {tb : RS} {body : List Stmt}
end
section
variable {X : Cx} {H0 : Hp} {pos : Pos} {e : Expr} {te : RE}
structure GDic (P : Program) (w : World) (K : PySem.W.Frag) (mg : Str -> Option Value) (g : Str) (tab : List (Str × Addr)) : Prop where
  tab : GTab P w K mg g tab
  not : ∀ a, mg g = some (.ref a) -> (a == sysModules) = false
end
section
variable {X : Cx} {H0 : Hp} {a b e o : Expr} {es : List Expr} {ta tb te : RE} {tr : RA} {lo hi : Option Expr} {tl th : RO} {pos p p2 apos cpos : Pos}
end
section
variable {X : Cx} {H0 : Hp} {tg iter e o : Expr} {te ta : RE} {g : RG} {tb : RS} {body : List Stmt} {pos apos cpos : Pos}
end
section
variable {X : Cx} {H0 : Hp}
variable {ts : List Expr} {k : Nat} {tp p pos pos2 : Pos} {a b : Expr} {tr : RA} {g : RG} {tb : RS} {body : List Stmt}
end
section
variable {X : Cx} {H0 : Hp} {k : Nat} {f y c n xn : Str} {sp : SpX} {e : Expr} {es : List Expr} {tr : RA} {p np cpos epos hpos pos px : Pos} {b₀ : Stmt} {suite : List Stmt} {tb : Addr -> RS} {i j : Nat}
end
section
variable {X : Cx} {H0 : Hp} {k : Nat} {x : Str} {sp : Sp2} {p pos : Pos}
end
end M
namespace PySem
section
variable {prog : Program} {w : World} {A : Around} {E : Value -> Shared -> Prop} {h : Heap} {g : Array GenState} {d : Drawn} {t : Nat} {os : OsState}
variable {nm q : Str} {C N : Addr} {bs bm bmB : List Value} {hdct : Bool} {sn : List Str} {sub : List Value} {ab : Bool} {col : Option Bool} {dd : Option Addr} {k0 k1 k2 k3 k5 : Option Value} {B newId initId : String}
theorem exi_type (F : ExcBaseFacts B newId initId bmB) (T : OwnTail h bmB bm) {mN : Str -> Option Value} {us : List Value} {fI : Addr} {oI : Obj} {Q : Fin -> Shared -> Prop}
 (hC : h.get? C = some (excClassObj nm q C N bs bm hdct sn sub ab col dd k0 k1 k2 k3 k5 newId)) (hn : h.Ns N mN) (hi : mN "__init__" = some (.ref fI)) (hf : h.get? fI = some oI) (hfc : oI.cls = .type "function") (hz : us.length <= sizeLine)
 (hq : ∀ h' e, Heap.MadeExcOf h h' e (.ref C) us -> h.objs.size <= e -> wpAny (model prog w) A (call (.ref fI) (.ref e :: us)) (fun r s' => r = .none /\ Q (.done (.ret (.ref e))) s') E ⟨h', g, d, t, os⟩) :
 wpAny (model prog w) A (Builtin.«type.__call__» ⟨.ref C :: us, []⟩) Q E ⟨h, g, d, t, os⟩ := by
  repeat (first | with_reducible refine wpAny_madeBy_exc hC ?_ | with_reducible refine wpAny_loadPart_at hC ?_ | wp_step)
  refine codeAny_call_builtin_code (Code.quiet_builtin _ F.quiet) (wpAny_check_new_subT F T hC (codeAny_exc_new_subT F T hC ?_ hz))
  let oT : Obj := { cls := .type "tuple", data := .seq us.toArray }
  let oE : Obj := { cls := .ref C, data := .fields #[.ref h.objs.size, .none, .none, .none, .bool false, .none] }
  have kp : ∀ b o, h.get? b = some o -> ((h.push oT).push oE).get? b = some o := fun b o z => Heap.get?_push_of_some oE (Heap.get?_push_of_some oT z)
  have hC1 := kp _ _ hC; have T1 := T.keeps kp; have hn1 : ((h.push oT).push oE).Ns N mN := hn.keeps kp; have hf1 := kp _ _ hf; have he : ((h.push oT).push oE).get? (h.objs.size + 1) = some oE := by heap_get
  have hcC : (Value.ref C :: bm).contains (.ref C) = true := by simp
  show wpAny _ _ _ _ _ _
  unfold isInstance
  repeat (first | (with_reducible refine wpAny_isSubtype_exc hC1 ?_; rw [hcC]) | with_reducible refine wpAny_loadPart_at he ?_ | wp_step)
  refine (show wpAny _ _ (typeLookup (.ref C) "__init__") _ _ _ from wpAny_typeLookup_tail hC1 hn1 T1 F.mroIs F.init.lookup ?_); rw [hi]; refine wpAny_holding (wpAny_bind ?_); unfold bindSpecial; refine wpAny_bind (wpAny_typeOf (T := "function") ⟨_, hf1, hfc⟩ ?_); rw [if_pos (by decide)]; have made : Heap.MadeExcOf h ((h.push oT).push oE) (h.objs.size + 1) (.ref C) us := ⟨kp, Heap.get?_none_of_le (Nat.le_succ _), h.objs.size, he, Heap.get?_none_of_le (Nat.le_refl _), Heap.get?_push_of_some _ (Heap.get?_push_at rfl rfl)⟩; refine wpAny_pure (wpAny_bind (wpAny_mono (hq _ _ made (Nat.le_succ _)) (fun r s' hr => ?_) fun _ _ z => z)); obtain ⟨rfl, hQ⟩ := hr
  wp_walk
  exact hQ
theorem exi_call (F : ExcBaseFacts B newId initId bmB) (T : OwnTail h bmB bm) {mN : Str -> Option Value} {us : List Value} {fI : Addr} {oI : Obj} {Q : Value -> Shared -> Prop}
 (hC : h.get? C = some (excClassObj nm q C N bs bm hdct sn sub ab col dd k0 k1 k2 k3 k5 newId)) (hn : h.Ns N mN) (hi : mN "__init__" = some (.ref fI)) (hf : h.get? fI = some oI) (hfc : oI.cls = .type "function") (hz : us.length <= sizeLine)
 (hq : ∀ h' e, Heap.MadeExcOf h h' e (.ref C) us -> h.objs.size <= e -> wpAny (model prog w) (A.under (.builtin "type.__call__" ⟨.ref C :: us, []⟩)) (call (.ref fI) (.ref e :: us)) (fun r s' => r = .none /\ Q (.ref e) s') E ⟨h', g, d, t, os⟩) :
 wpAny (model prog w) A (call (.ref C) us) Q E ⟨h, g, d, t, os⟩ := by
  have z1 := tc_lookup; have z2 := tc_bind (.ref C); have z3 : (⟨h, g, d, t, os⟩ : Shared).TypeIs (.ref C) "type" := ⟨_, hC, rfl⟩; refine wpAny_call (codeAny_of_tree (show wpAny _ _ (callAny (.ref C) _) _ _ _ from ?_))
  repeat (any_goals (first | assumption | with_reducible refine wpAny_loadPart_at hC ?_ | wp_step))
  exact ⟨rfl, codeAny_call_builtin_at (Code.quiet_builtin _ (by decide +kernel)) entry_typeCall (wpAny_check_type_call_sub hC (exi_type F T hC hn hi hf hfc hz fun h' e hm hz => hq h' e hm hz))⟩
theorem exi_type0 (F : ExcBaseFacts B newId initId bmB) (T : OwnTail h bmB bm) {mN : Str -> Option Value} {us : List Value} {Q : Fin -> Shared -> Prop}
 (hC : h.get? C = some (excClassObj nm q C N bs bm hdct sn sub ab col dd k0 k1 k2 k3 k5 newId)) (hn : h.Ns N mN) (hi : mN "__init__" = none) (hz : us.length <= sizeLine)
 (hq : ∀ h' e, (∀ b o, h.get? b = some o -> h'.get? b = some o) -> h.objs.size <= e -> (∃ o, h'.get? e = some o /\ o.cls = .ref C) -> Q (.done (.ret (.ref e))) ⟨h', g, d, t, os⟩) :
 wpAny (model prog w) A (Builtin.«type.__call__» ⟨.ref C :: us, []⟩) Q E ⟨h, g, d, t, os⟩ := by
  repeat (first | with_reducible refine wpAny_madeBy_exc hC ?_ | with_reducible refine wpAny_loadPart_at hC ?_ | wp_step)
  refine codeAny_call_builtin_code (Code.quiet_builtin _ F.quiet) (wpAny_check_new_subT F T hC (codeAny_exc_new_subT F T hC ?_ hz))
  let oT : Obj := { cls := .type "tuple", data := .seq us.toArray }
  let oE : Obj := { cls := .ref C, data := .fields #[.ref h.objs.size, .none, .none, .none, .bool false, .none] }
  have kp : ∀ b o, h.get? b = some o -> ((h.push oT).push oE).get? b = some o := fun b o z => Heap.get?_push_of_some oE (Heap.get?_push_of_some oT z)
  have hC1 := kp _ _ hC; have T1 := T.keeps kp; have hn1 : ((h.push oT).push oE).Ns N mN := hn.keeps kp; have he : ((h.push oT).push oE).get? (h.objs.size + 1) = some oE := by heap_get
  have hcC : (Value.ref C :: bm).contains (.ref C) = true := by simp
  show wpAny _ _ _ _ _ _
  unfold isInstance
  repeat (first | (with_reducible refine wpAny_isSubtype_exc hC1 ?_; rw [hcC]) | with_reducible refine wpAny_loadPart_at he ?_ | wp_step)
  refine (show wpAny _ _ (typeLookup (.ref C) "__init__") _ _ _ from wpAny_typeLookup_tail hC1 hn1 T1 F.mroIs F.init.lookup ?_); rw [hi]; refine wpAny_holding (wpAny_bind (wpAny_of_eq (F.init.bind _) (wpAny_bind (wpAny_call (codeAny_call_builtin F.init.plain F.initEntry (wpAny_check_init_subT F T1 hC1 he rfl ?_))))))
  wp_walk
  refine hq _ _ (fun b o z => ?_) (Nat.le_succ _) ⟨_, Heap.get?_update_self _ (Heap.get?_push_of_some _ he) rfl, rfl⟩; exact (Heap.get?_update_other _ _ (Nat.ne_of_gt (Nat.lt_succ_of_lt (Heap.lt_size z)))).trans (Heap.get?_push_of_some _ (kp _ _ z))
theorem exi_call0 (F : ExcBaseFacts B newId initId bmB) (T : OwnTail h bmB bm) {mN : Str -> Option Value} {us : List Value} {Q : Value -> Shared -> Prop}
 (hC : h.get? C = some (excClassObj nm q C N bs bm hdct sn sub ab col dd k0 k1 k2 k3 k5 newId)) (hn : h.Ns N mN) (hi : mN "__init__" = none) (hz : us.length <= sizeLine)
 (hq : ∀ h' e, (∀ b o, h.get? b = some o -> h'.get? b = some o) -> h.objs.size <= e -> (∃ o, h'.get? e = some o /\ o.cls = .ref C) -> Q (.ref e) ⟨h', g, d, t, os⟩) :
 wpAny (model prog w) A (call (.ref C) us) Q E ⟨h, g, d, t, os⟩ := by
  have z1 := tc_lookup; have z2 := tc_bind (.ref C); have z3 : (⟨h, g, d, t, os⟩ : Shared).TypeIs (.ref C) "type" := ⟨_, hC, rfl⟩; refine wpAny_call (codeAny_of_tree (show wpAny _ _ (callAny (.ref C) _) _ _ _ from ?_))
  repeat (any_goals (first | assumption | with_reducible refine wpAny_loadPart_at hC ?_ | wp_step))
  exact ⟨rfl, codeAny_call_builtin_at (Code.quiet_builtin _ (by decide +kernel)) entry_typeCall (wpAny_check_type_call_sub hC (exi_type0 F T hC hn hi hz fun h' e a b c => hq h' e a b c))⟩
end
end PySem
namespace PySem.W
open PySem PySem.Spec PySem.Calls PyProof.Rows Builtin Builtin.ObjectAttr Builtin.Getset_descriptor
def veMro : List Value -> Bool
  | .ref _ :: r => veMro r
  | l => l == [.type "ValueError", .type "Exception", .type "BaseException", .type "object"]
theorem veMro_refuse (self : Value) : ∀ l, veMro l = true -> refuseLoop self "__setattr__" l = pure ()
  | .ref a :: r, e => by rw [refuseLoop_ref]; exact veMro_refuse self r e
  | [], e => by simp [veMro] at e
  | .type n :: r, e => by
    have : (Value.type n :: r) = [.type "ValueError", .type "Exception", .type "BaseException", .type "object"] := by simpa [veMro] using e
    rw [this]; exact PySem.F.store_ValueError.passes self
  | .none :: r, e => by simp [veMro] at e
  | .bool _ :: r, e => by simp [veMro] at e
  | .int _ _ :: r, e => by simp [veMro] at e
  | .str _ _ :: r, e => by simp [veMro] at e
  | .float _ _ :: r, e => by simp [veMro] at e
  | .bytes _ _ :: r, e => by simp [veMro] at e
  | .builtin _ :: r, e => by simp [veMro] at e
theorem veMro_has : ∀ l, veMro l = true -> l.contains (.type "object") = true /\ l.contains (.type "BaseException") = true /\ l.isEmpty = false
  | .ref a :: r, e => by
    obtain ⟨h1, h2, _⟩ := veMro_has r e; exact ⟨by rw [List.contains_cons, h1, Bool.or_true], by rw [List.contains_cons, h2, Bool.or_true], rfl⟩
  | [], e => by simp [veMro] at e
  | .type n :: r, e => by
    have : (Value.type n :: r) = [.type "ValueError", .type "Exception", .type "BaseException", .type "object"] := by simpa [veMro] using e
    rw [this]; exact ⟨by decide, by decide, rfl⟩
  | .none :: r, e => by simp [veMro] at e
  | .bool _ :: r, e => by simp [veMro] at e
  | .int _ _ :: r, e => by simp [veMro] at e
  | .str _ _ :: r, e => by simp [veMro] at e
  | .float _ _ :: r, e => by simp [veMro] at e
  | .bytes _ _ :: r, e => by simp [veMro] at e
  | .builtin _ :: r, e => by simp [veMro] at e
structure XoK (K : Frag) (C : Addr) : Prop where
  m : (clsIn K C).any (fun cd => veMro cd.mro && cd.hasDict) = true
  sa : findIn K (.ref C) "__setattr__" = some (some (.builtin "object.__setattr__"))
  ga : findIn K (.ref C) "__getattribute__" = some (some (.builtin "BaseException.__getattribute__"))
  gt : findIn K (.ref C) "__getattr__" = some none
section
variable {prog : Program} {w : World} {A : Around} {E : Value -> Shared -> Prop} {s : Shared} {K : Frag} {x dx C : Addr} {name : Str} {v : Value} {ox : Obj} {od : Option Obj} {Q : Unit -> Shared -> Prop} {mA : Str -> Option Value} {ns : List Str}
theorem exi_open {R : Result -> Shared -> Prop} {tk : Tok} (X : K.In s.heap) (I : InstAt s.heap x ox C od) (k : XoK K C) (ha : findIn K (.ref C) name = some none)
 (h : wpAny (model prog w) A.in1 (storeInOwnDict (.ref x) (.ref C) (.str name tk) name v false)
 (fun fin s' => match fin with | .done f => R (.ok f) s' | .again c' => c'.quiet = true /\ codeAny (model prog w) A c' R s') (fun e s' => R (.error e) s') s) :
 codeAny (model prog w) A (.call (.builtin "object.__setattr__") ⟨[.ref x, .str name tk, v], []⟩) R s := by
  have SF := PySem.F.store_object; obtain ⟨cd, hc, ho⟩ := any_some k.m; obtain ⟨ho, hd⟩ := Bool.and_eq_true_iff.mp ho; obtain ⟨m1, m2, m3⟩ := veMro_has _ ho; have sub : Looks (model prog w) s.heap (isInstance (.ref x) (.type "object")) true := I.type.andThen (looks_mroIn X (by unfold mroIn; rw [hc, Option.bind_some, if_neg (by rw [m3]; decide), m1])); refine codeAny_call_builtin SF.slot.plain SF.entry (@check_slot (model prog w) _ _ s "object.__setattr__" "object" "__setattr__" (.ref x) [.str name tk, v] [] _ SF.kind SF.split sub (SF.args (.ref x) (.str name tk) v) ?_); have hm : Looks (model prog w) s.heap (mroOf (.ref C)) cd.mro := (looks_clsIn X hc).andThen .now; have L3 : Looks (model prog w) s.heap (storeTaker? none) none := .now; rw [osa_eq, refuse_eq]; refine wpAny_bind (wpAny_bind (I.type.here (wpAny_bind (hm.here ?_)))); rw [veMro_refuse _ _ ho]; refine wpAny_pure (wpAny_bind (I.type.here (wpAny_bind ((looks_findIn X ha).here (wpAny_bind (L3.here ?_)))))); exact h
theorem exi_set0 {fv : Array Value} {osl : Array (Option Value)} (X : K.In s.heap) (hx : s.heap.get? x = some ⟨.ref C, none, .fields fv, osl⟩) (k : XoK K C) (ha : findIn K (.ref C) name = some none)
 (h : ∀ h' tk, h'.get? x = some ⟨.ref C, some s.heap.objs.size, .fields fv, osl⟩ -> h'.Ns1 s.heap.objs.size (fun y => if y = name then some v else none) -> (∀ b o, b ≠ x -> s.heap.get? b = some o -> h'.get? b = some o) -> Q () { s with heap := h', toks := tk }) :
 wpAny (model prog w) A (setAttr (.ref x) name v) Q E s := by
  have I : InstAt s.heap x ⟨.ref C, none, .fields fv, osl⟩ C none := ⟨hx, rfl, rfl, trivial⟩
  refine set_plain X I k.sa (exi_open (s := { s with toks := s.toks + 1 }) X I k ha ?_); obtain ⟨cd, hc, hh⟩ := any_some k.m; obtain ⟨hh, hdic⟩ := Bool.and_eq_true_iff.mp hh
  refine wpAny_bind (wpAny_pure (wpAny_bind (wpAny_bind (wpAny_loadPart hx (wpAny_bind (Looks.here (s := { s with toks := s.toks + 1 }) (looks_clsIn X hc) ?_)))))); rw [hdic]
  let oD : Obj := { cls := .type "dict", data := .dict #[] }
  have hx1 : (s.heap.push oD).get? x = some ⟨.ref C, none, .fields fv, osl⟩ := Heap.get?_push_of_some _ hx; have hxs : x ≠ s.heap.objs.size := Nat.ne_of_lt (Heap.lt_size hx); refine (show wpAny _ _ (alloc oD >>= fun d => (update x fun o => { cls := o.cls, dict := some d, data := o.data, slots := o.slots }) >>= fun _ => dictMade (.ref C) x d) _ _ _ from wpAny_bind (wpAny_alloc' (wpAny_bind (wpAny_update' hx1 (wpAny_pure ?_)))))
  let h2 : Heap := (s.heap.push oD).update x fun o => { cls := o.cls, dict := some s.heap.objs.size, data := o.data, slots := o.slots }
  have hgd : h2.get? s.heap.objs.size = some oD := (Heap.get?_update_ne _ _ _ _ hxs.symm).trans (Heap.get?_push_at rfl rfl); have hnd : h2.Ns s.heap.objs.size (fun _ => none) := ⟨_, #[], _, hgd, rfl, fun e he => absurd he (by simp), fun _ => rfl⟩
  refine (show wpAny _ _ (storeInDict s.heap.objs.size (.str name s.toks) name v) _ _ { s with heap := h2, toks := s.toks + 1 } from ?_); unfold storeInDict newKeyGuard
  refine wpAny_bind (wpAny_pure (wpAny_bind (wpAny_nsSet1 (s := { s with heap := h2, toks := s.toks + 1 }) (Heap.Ns1.of_empty hnd) fun h' hn' hs => ?_))); obtain ⟨oD', esD, epD, hoD, hdD, hcD⟩ := hn'.count (PySem.Within.cons name v PySem.Within.nil); refine wpAny_bind (wpAny_lookBehind hoD (by rw [hdD]; exact pastItsLine_dict (Nat.le_trans hcD (by rw [List.length_cons, List.length_nil, sizeLine_eq]; omega))) ?_); refine wpAny_pure (h h' _ ?_ hn' fun b o hb z => ?_)
  · exact (hs.2 x hxs).trans (Heap.get?_update_self _ hx1 rfl)
  · exact (hs.2 b (Nat.ne_of_lt (Heap.lt_size z))).trans ((Heap.get?_update_ne _ _ _ _ hb).trans (Heap.get?_push_of_some _ z))
theorem exi_set1 {oda : Data} {osl : Array (Option Value)} (X : K.In s.heap) (hx : s.heap.get? x = some ⟨.ref C, some dx, oda, osl⟩) (hno : notCls ⟨.ref C, some dx, oda, osl⟩ = true) (hne : dx ≠ x) (hns : s.heap.Ns1 dx mA) (hw : PySem.Within mA ns) (hsz : ns.length < sizeLine) (k : XoK K C) (ha : findIn K (.ref C) name = some none)
 (h : ∀ h' tk, h'.get? x = some ⟨.ref C, some dx, oda, osl⟩ -> h'.Ns1 dx (fun y => if y = name then some v else mA y) -> (∀ b o, b ≠ dx -> s.heap.get? b = some o -> h'.get? b = some o) -> Q () { s with heap := h', toks := tk }) :
 wpAny (model prog w) A (setAttr (.ref x) name v) Q E s := by
  obtain ⟨o1, es1, ep1, hodx, r1⟩ := id hns; have I : InstAt s.heap x ⟨.ref C, some dx, oda, osl⟩ C (some o1) := ⟨hx, rfl, hno, hodx⟩
  refine set_plain X I k.sa (exi_open (s := { s with toks := s.toks + 1 }) X I k ha ?_); obtain ⟨cd, hc, hh⟩ := any_some k.m; obtain ⟨hh, hdic⟩ := Bool.and_eq_true_iff.mp hh
  refine wpAny_bind (wpAny_pure (wpAny_bind (wpAny_bind (wpAny_loadPart hx (wpAny_bind (Looks.here (s := { s with toks := s.toks + 1 }) (looks_clsIn X hc) ?_)))))); rw [hdic]; refine (show wpAny _ _ (pure (some dx)) _ _ _ from wpAny_pure ?_)
  refine (show wpAny _ _ (storeInDict dx (.str name s.toks) name v) _ _ { s with toks := s.toks + 1 } from ?_); unfold storeInDict newKeyGuard
  refine wpAny_bind (wpAny_pure (wpAny_bind (wpAny_nsSet1 (s := { s with toks := s.toks + 1 }) hns fun h' hn' hs => ?_))); obtain ⟨oD', esD, epD, hoD, hdD, hcD⟩ := hn'.count (PySem.Within.cons name v hw); refine wpAny_bind (wpAny_lookBehind hoD (by rw [hdD]; exact pastItsLine_dict (Nat.le_trans hcD (by rw [List.length_cons]; omega))) ?_); exact wpAny_pure (h h' _ ((hs.2 x hne.symm).trans hx) hn' fun b o hb z => (hs.2 b hb).trans z)
theorem exi_get {expr : Bool} {Q : Value -> Shared -> Prop} {od : Obj} (X : K.In s.heap) (I : InstAt s.heap x ox C (some od)) (k : XoK K C) (ha : findIn K (.ref C) name = some none) (hl : lookIn name od = some (some v)) (hh : handedIn v = true)
 (h : ∀ tk, Q v { s with toks := tk }) : wpAny (model prog w) A (getAttr (.ref x) name expr) Q E s := by
  obtain ⟨cd, hc, hv⟩ := any_some k.m; obtain ⟨hv, hdic⟩ := Bool.and_eq_true_iff.mp hv; obtain ⟨m1, m2, m3⟩ := veMro_has _ hv; have hdi : hasDictIn K C = true := by unfold hasDictIn; rw [hc]; exact hdic
  have hf : findObj K C (some od) name = some (.value v) := findObj_own hdi ha rfl hl; have FG := PySem.F.excAttr_ValueError.ga; obtain ⟨hp, g, d, t, os⟩ := s; have L0 := I.type (M := model prog w); have L1 := looks_findIn (M := model prog w) X k.ga; have L2 := looks_findIn (M := model prog w) X k.gt; have L3 := looks_find (M := model prog w) X I hf; have L5 : Looks (model prog w) hp (isSubtype (.ref C) (.type "BaseException")) true := looks_mroIn X (by unfold mroIn; rw [hc, Option.bind_some, if_neg (by rw [m3]; decide), m2]); have hx2 : (Value.builtin "BaseException.__getattribute__" == Value.builtin "object.__getattribute__") = false := by decide +kernel
  have hx1 : (onTheHeap (Value.ref C) && Value.builtin "BaseException.__getattribute__" == Value.builtin "object.__getattribute__") = false := by rw [hx2]; rfl
  have hx0 : (expr && onTheHeap (Value.builtin "BaseException.__getattribute__")) = false := by cases expr <;> rfl
  unfold getAttr getAttrBy; refine wpAny_bind (wpAny_mkText (wpAny_holding (wpAny_bind (L0.at (wpAny_bind (L1.at ?_)))))); dsimp only; rw [if_neg (by rw [hx1]; exact Bool.false_ne_true)]; unfold getAttrByItsOwn; refine wpAny_bind (show wpAny _ _ (typeLookup (.ref C) "__getattr__") _ _ _ from L2.at ?_); refine wpAny_bind (wpAny_attempt (wpAny_holding ?_)); unfold callGetattribute; rw [hx0]
  show wpAny _ _ (boundAndCalled (.builtin "BaseException.__getattribute__") (.ref x) (.str name t)) _ _ _
  unfold boundAndCalled; have f3 := FG.bind (.ref x); have hk : builtinKind "BaseException.__getattribute__" = some .slot := by decide +kernel
  have hsplit : splitId "BaseException.__getattribute__" = some ("BaseException", "__getattribute__") := by decide +kernel
  have har := PySem.F.args_bexc_ga (.ref x) (.str name t); have body : ∀ {A : Around} {E : Value -> Shared -> Prop} {R : Fin -> Shared -> Prop} {tk : Nat}, R (.done (.ret v)) ⟨hp, g, d, tk, os⟩ -> wpAny (model prog w) A (Builtin.«object.__getattribute__» ⟨[.ref x, .str name t], []⟩) R E ⟨hp, g, d, tk, os⟩ := by
    intro A E R tk hq; unfold Builtin.«object.__getattribute__»
    repeat (any_goals (first | assumption | (with_reducible refine L0.at ?_) | (with_reducible refine L3.at ?_) | wp_step))
  have chk : ∀ {A : Around} {E : Value -> Shared -> Prop} {R : Unit -> Shared -> Prop} {tk : Nat}, R () ⟨hp, g, d, tk, os⟩ -> wpAny (model prog w) A (checkBuiltinCall "BaseException.__getattribute__" ⟨[.ref x, .str name t], []⟩) R E ⟨hp, g, d, tk, os⟩ := by
    intro A E R tk hq; simp only [checkBuiltinCall, hk, hsplit]; refine wpAny_bind ?_; unfold isInstance
    repeat (first | (with_reducible refine L0.at ?_) | (with_reducible refine L5.at ?_) | wp_step)
    exact hq
  repeat (any_goals (first | assumption | wp_step))
  refine codeAny_call_builtin FG.plain PySem.F.entry_bexc_ga (chk (body ?_)); refine (show wpAny _ _ (handedOut v) _ _ _ from ?_); rw [handedOut_of hh]; exact wpAny_pure (h _)
end
end PySem.W
namespace M
open PySem PySem.Spec PyProof.Rows L2
def ExcNew (a C : Addr) (h : Heap) : Prop := ∃ fv osl, h.get? a = some ⟨.ref C, none, .fields fv, osl⟩
theorem ext_ok {P : Program} {w : World} {H : Hp} {h : Heap} {a : Addr} {φ : Heap -> Prop} (x : φ h) (o : ∃ o, h.get? a = some o) (st : ∀ h1 h2 : Heap, φ h1 -> (∀ o, h1.get? a = some o -> h2.get? a = some o) -> φ h2) : ObjOk P w H h a (.ext φ) := ⟨x, o, st⟩
theorem ExcNew.st {a C : Addr} (h1 h2 : Heap) (x : ExcNew a C h1) (k : ∀ o, h1.get? a = some o -> h2.get? a = some o) : ExcNew a C h2 := let ⟨fv, osl, e⟩ := x; ⟨fv, osl, k _ e⟩
theorem ExcAt.st {a C : Addr} (h1 h2 : Heap) (x : ExcAt a C h1) (k : ∀ o, h1.get? a = some o -> h2.get? a = some o) : ExcAt a C h2 := let ⟨o, e, r⟩ := x; ⟨o, k _ e, r⟩
theorem ExcDct.st {a C dx : Addr} (h1 h2 : Heap) (x : ExcDct a C dx h1) (k : ∀ o, h1.get? a = some o -> h2.get? a = some o) : ExcDct a C dx h2 := let ⟨o, e, r⟩ := x; ⟨o, k _ e, r⟩
theorem DctIs.st {dx : Addr} {fs : List (Str × V)} (h1 h2 : Heap) (x : DctIs dx fs h1) (k : ∀ o, h1.get? dx = some o -> h2.get? dx = some o) : DctIs dx fs h2 := let ⟨mA, n, r⟩ := x; ⟨mA, n.at k, r⟩
section
variable {X : Cx} {pins : List (Addr × Obj)} {σ : L2.St} {H : Hp} {s : Shared} {a C dx : Addr} {fs : List (Str × V)} {f : Str} {v y : V} {u : Value} {A : Around} {E : Value -> Shared -> Prop}
theorem notCls_of {o : Obj} (h : ∀ c, o.data ≠ .cls c) : PySem.W.notCls o = true := by
  unfold PySem.W.notCls
  split
  · rename_i c z
    exact absurd z (h c)
  · rfl
theorem within_one {f : Str} {u : Value} {mA : Str -> Option Value} {ns : List Str} (h : PySem.Within mA ns) (g : Str) (hg : (fun z => if z = f then some u else mA z) g ≠ none) : g = f \/ g ∈ ns := by
  by_cases q : g = f
  · exact .inl q
  · exact .inr (h g fun z => hg (by show (if g = f then some u else mA g) = none; rw [if_neg q]; exact z))
theorem set_new {Q : Unit -> Shared -> Prop} (I : Inv X pins σ H s) (e : H a = some (.ext (ExcNew a C))) (k : PySem.W.XoK X.K C) (n : NoAttr X.K C f) (ry : RelV y u)
 (h : ∀ dx s', H dx = none -> dx ≠ a -> Inv X pins σ (upd (upd H a (.ext (ExcDct a C dx))) dx (.ext (DctIs dx [(f, y)]))) s' -> Q () s') : wpAny (model X.prog X.w) A (setAttr (.ref a) f u) Q E s := by
  obtain ⟨⟨fv, osl, ea⟩, _, _⟩ := I.hok a _ e; refine PySem.W.exi_set0 I.kIn ea k n fun h' tk e1 e2 kp => ?_
  have hn : H s.heap.objs.size = none := I.hok.fresh (Nat.le_refl _); have ne : s.heap.objs.size ≠ a := fun z => by rw [z, e] at hn; cases hn
  have I1 : Inv X pins σ (upd H a (.ext (ExcDct a C s.heap.objs.size))) { s with heap := h', toks := tk } :=
    I.write (x := a) (e := a) (by rw [e]; exact True.intro) (.inl rfl) kp ⟨_, e1⟩ (ext_ok ⟨_, e1, rfl, (fun c z => (by cases z)), rfl⟩ ⟨_, e1⟩ ExcDct.st)
  have hd : ∃ o, h'.get? s.heap.objs.size = some o := let ⟨o, _, _, e', _⟩ := e2; ⟨o, e'⟩
  refine h s.heap.objs.size _ hn ne (Inv.track (s := { s with heap := h', toks := tk }) (h' := h') (t' := tk) I1 (I.fpOk (Nat.le_refl _) (by rw [upd_ne ne]; exact hn)) (fun b o _ z => z) (ext_ok ⟨_, e2, fun g => ?_, fun g hg => ?_⟩ hd DctIs.st))
  · show RelO (List.lookup g [(f, y)]) (if g = f then some u else none)
    by_cases q : g = f
    · rw [if_pos q, q]; simp only [List.lookup, beq_self_eq_true]; exact ry
    · rw [if_neg q]; simp only [List.lookup, beq_eq_false_iff_ne.mpr q]; exact True.intro
  · rcases within_one (mA := fun _ => none) (ns := []) (fun z hz => absurd rfl hz) g hg with q | q
    · simp [q]
    · cases q
theorem set_more {Q : Unit -> Shared -> Prop} (I : Inv X pins σ H s) (e : H a = some (.ext (ExcDct a C dx))) (ed : H dx = some (.ext (DctIs dx fs))) (ne : dx ≠ a) (k : PySem.W.XoK X.K C) (n : NoAttr X.K C f) (hl : fs.length < 1000) (ry : RelV y u)
 (h : ∀ s', Inv X pins σ (upd H dx (.ext (DctIs dx (putF f y fs)))) s' -> Q () s') : wpAny (model X.prog X.w) A (setAttr (.ref a) f u) Q E s := by
  obtain ⟨⟨⟨oc, odc, oda, osl⟩, ea, hc, hnc, hdx⟩, _, _⟩ := I.hok a _ e; obtain ⟨⟨mA, hns, hr, hw⟩, _, _⟩ := I.hok dx _ ed; dsimp only at hc hnc hdx; subst hc hdx; have hz : (fs.map (·.1)).length < sizeLine := by rw [List.length_map, sizeLine_eq]; omega
  refine PySem.W.exi_set1 I.kIn ea (notCls_of hnc) ne hns hw hz k n fun h' tk e1 e2 kp => h _ ?_
  have hd : ∃ o, h'.get? dx = some o := let ⟨o, _, _, e', _⟩ := e2; ⟨o, e'⟩; refine I.write (x := dx) (e := dx) (by rw [ed]; exact True.intro) (.inl rfl) kp hd (ext_ok ⟨_, e2, fun g => ?_, fun g hg => ?_⟩ hd DctIs.st)
  · show RelO ((putF f y fs).lookup g) (if g = f then some u else mA g)
    rw [lookup_putF]
    by_cases q : g = f
    · rw [if_pos q, if_pos q]; exact ry
    · rw [if_neg q, if_neg q]; exact hr g
  · rcases within_one hw g hg with q | q
    · rw [q]; exact (keys_putF f y fs).1
    · exact (keys_putF f y fs).2 g q
theorem get_fld {b : Bool} {Q : Value -> Shared -> Prop} (I : Inv X pins σ H s) (e : H a = some (.ext (ExcDct a C dx))) (ed : H dx = some (.ext (DctIs dx fs))) (k : PySem.W.XoK X.K C) (n : NoAttr X.K C f) (l : fs.lookup f = some v)
 (h : ∀ u s', Inv X pins σ H s' -> RelV v u -> Q u s') : wpAny (model X.prog X.w) A (getAttr (.ref a) f b) Q E s := by
  obtain ⟨⟨o, ea, hc, hnc, hdx⟩, _, _⟩ := I.hok a _ e; obtain ⟨⟨mA, hns, hr, hw⟩, _, _⟩ := I.hok dx _ ed; obtain ⟨u, hu, ru⟩ := RelO.some_of (v := v) (o := mA f) (by rw [<- l]; exact hr f); obtain ⟨od, ho, hl⟩ := lookIn_ns hns; have J : PySem.W.InstAt s.heap a o C (some od) := ⟨ea, hc, notCls_of hnc, by rw [hdx]; exact ho⟩; exact PySem.W.exi_get I.kIn J k n (by rw [hl, hu]) (handed_of ru) fun tk => h u _ (I.tok _) ru
end
def sFX0 (K : PySem.W.Frag) (ta tv : TE) (f : Str) : TS := fun D σ H => tv σ H fun y H1 => ta σ H1 fun x H2 => ∃ a C, x = .ref a /\ H2 a = some (.ext (ExcNew a C)) /\ PySem.W.XoK K C /\ NoAttr K C f /\
  ∀ dx, H2 dx = none -> dx ≠ a -> D.nx σ (upd (upd H2 a (.ext (ExcDct a C dx))) dx (.ext (DctIs dx [(f, y)])))
def sFX1 (K : PySem.W.Frag) (ta tv : TE) (f : Str) : TS := fun D σ H => tv σ H fun y H1 => ta σ H1 fun x H2 => ∃ a C dx fs, x = .ref a /\ H2 a = some (.ext (ExcDct a C dx)) /\ H2 dx = some (.ext (DctIs dx fs)) /\ dx ≠ a /\ PySem.W.XoK K C /\ NoAttr K C f /\ fs.length < 1000 /\
  D.nx σ (upd H2 dx (.ext (DctIs dx (putF f y fs))))
section
variable {X : Cx} {o e value : Expr} {f : Str} {pos pos' tpos : Pos} {ta tv : TE}
theorem ps_fx0 (ha : PE X o ta) (hv : PE X value tv) (hs : swapsWith value (some (.Attribute o f pos')) pos.line X.env = pure false) : PS X (.Assign [.Attribute o f pos'] value pos) (sFX0 X.K ta tv f) := by
  intro pins s σ H D I h; refine plainObj_wpAny_Assign_Attribute (thn (hv pins s σ H _ I h) fun u s1 ⟨y, H1, I1, ry, q⟩ => thn (ha pins s1 σ H1 _ I1 q) fun ov s2 ⟨x, H2, I2, rx, a, C, ex, ea, c, n, q2⟩ => ?_) hs; subst ex; obtain rfl : ov = Value.ref a := rx; exact set_new I2 ea c n ry fun dx s3 z1 z2 I3 => ⟨σ, _, I3, q2 dx z1 z2⟩
theorem ps_fx1 (ha : PE X o ta) (hv : PE X value tv) (hs : swapsWith value (some (.Attribute o f pos')) pos.line X.env = pure false) : PS X (.Assign [.Attribute o f pos'] value pos) (sFX1 X.K ta tv f) := by
  intro pins s σ H D I h; refine plainObj_wpAny_Assign_Attribute (thn (hv pins s σ H _ I h) fun u s1 ⟨y, H1, I1, ry, q⟩ => thn (ha pins s1 σ H1 _ I1 q) fun ov s2 ⟨x, H2, I2, rx, a, C, dx, fs, ex, ea, ed, ne, c, n, l, q2⟩ => ?_) hs; subst ex; obtain rfl : ov = Value.ref a := rx; exact set_more I2 ea ed ne c n l ry fun s3 I3 => ⟨σ, _, I3, q2⟩
end
structure ErrI (base : Heap) (C f : Addr) : Prop where
  ex : ∃ B newId initId bmB tl N nm q bs hdct sn sub ab col dd k0 k1 k2 k3 k5 mN oI, ExcBaseFacts B newId initId bmB /\ base.get? C = some (excClassObj nm q C N bs tl hdct sn sub ab col dd k0 k1 k2 k3 k5 newId) /\ base.Ns N mN /\ mN "__init__" = some (.ref f) /\
    base.get? f = some oI /\ oI.cls = .type "function" /\ OwnTail base bmB tl
section
variable {X : Cx} {H0 : Hp} {C f : Addr} {k : Nat} {fd : FuncData} {ps : List Str} {sp : Sp} {x : Str} {e : Expr} {es : List Expr} {tr : RA} {te : RE} {p pos : Pos} {bm : List Value}
theorem run_makeX {pins : List (Addr × Obj)} {σ : L2.St} {H : Hp} {s : Shared} {Q : VK} {us : List Value} {vs : List V} (Mx : ErrI X.base C f) (F : FnOk X.prog X.w X.K X.mg X.base CX0 k f fd ps sp) (hr : Room (k + 1) X.A) (hb : Binds X.K fd ps []) (I : Inv X pins σ H s) (r : Vals vs us) (hz : us.length <= 1000)
 (h : ∀ a, H a = none -> sp (.ref a :: vs) (upd H a (.ext (ExcNew a C))) (fun v H2 => v = .non /\ Q (.ref a) H2) E0) : wpAny (model X.prog X.w) X.A (call (.ref C) us) (EP X pins σ Q) X.xe s := by
  obtain ⟨B, newId, initId, bmB, tl, N, nm, q, bs, hdct, sn, sub, ab, col, dd, k0, k1, k2, k3, k5, mN, oI, FB, hC, hN, hi, hf, hfc, T⟩ := Mx.ex; have kp := I.bk; obtain ⟨hp, g, d, t, os⟩ := s; refine exi_call FB (T.keeps kp) (kp _ _ hC) (hN.keeps kp) hi (kp _ _ hf) hfc (by rw [sizeLine_eq]; omega) fun h' ea hm hsz => ?_
  obtain ⟨tt, het, _⟩ := hm.there; have hn : H ea = none := I.hok.fresh hsz; have hq := h ea hn; have I2 : Inv X pins σ (upd H ea (.ext (ExcNew ea C))) ⟨h', g, d, t, os⟩ := I.laid hm.keeps hsz (ext_ok ⟨_, _, het⟩ ⟨_, het⟩ ExcNew.st); have r2 : Vals (V.ref ea :: vs) (Value.ref ea :: us) := .cons rfl r; have hl : (Value.ref ea :: us).length = ps.length := by rw [<- r2.length]; exact F.len _ _ _ _ hq
  refine wpAny_call (codeAny_mono (F.run _ X.stack _ _ ⟨Value.ref ea :: us, []⟩ (Value.ref ea :: us) _ _ E0 (hr.make C us []) (I2.env0.make C us []) (by simpa using hb _ (Value.ref ea :: us) I2.kIn (by simpa using hl)) r2 hq) fun r s' hq' => ?_)
  cases r with
  | error e => exact hq'.elim
  | ok fl =>
    cases fl with
    | ret u =>
      obtain ⟨v, H', I3, rv, ev, q3⟩ := I2.after hq'; subst ev; exact ⟨rv, ⟨V.ref ea, H', I3, rfl, q3⟩⟩
    | next => exact False.elim hq'
    | brk => exact False.elim hq'
    | cont => exact False.elim hq'
def spInit (C : Addr) (fs : List Str) : Sp := fun vs H Q _ => ∃ a ys, vs = .ref a :: ys /\ ys.length = fs.length /\ H a = some (.ext (ExcNew a C)) /\ ∀ dx, H dx = none -> dx ≠ a -> Q .non (upd (upd H a (.ext (ExcDct a C dx))) dx (.ext (DctIs dx (fs.zip ys))))
def rMakeX (C : Addr) (fs : List Str) (tr : RA) (δ : List Sl) (Q : D -> Prop) : Prop := tr δ fun ds => ∃ is : List Int, ds = is.map D.int /\ is.length = fs.length /\ Q (.exc C (some (fs.zip (is.map V.int))))
theorem e_makeX {fs : List Str} (Mx : ErrI X.base C f) (F : FnOk X.prog X.w X.K X.mg X.base CX0 k f fd ps (spInit C fs)) (hr : Room (k + 1) X.A) (hb : Binds X.K fd ps []) (hl : fs.length <= 1000) (hm : X.mg x = some (.ref C)) (hk : PySem.W.keepIn X.K (.ref C) = true) (ha : PA2 X H0 (e :: es) tr) (hg : Gl X x := by rfl) (hdb : (x == ("__debug__" : Str)) = false := by decide)
 (he : starEach (e :: es) X.env = (false, eval e X.env) :: starEach es X.env := by rfl) (hpl : (backTo pos (starEach es X.env)).any (·.1) = false := by rfl) : PE2 X H0 (.Call (.Name x p) (e :: es) [] pos) (rMakeX C fs tr) := by
  intro pins s σ H Q I ⟨δ, G, Qd, hs, ht, kk⟩; refine wpAny_Call_Name_kw (ld_glob I hg hm ?_ hdb); have hA : liftA X.K H0 tr σ H (fun vs H' => ∃ (G' : Hp) (is : List Int), Nx X.K H0 σ δ G H G' H' /\ vs = is.map V.int /\ is.length = fs.length /\ Qd (.exc C (some (fs.zip (is.map V.int))))) := ⟨δ, G, _, hs, ht, fun vs H' G' ds n r ⟨is, e1, e2, q⟩ => ⟨G', is, n, by subst e1; exact Reps.ints_inv r, e2, q⟩⟩; refine PySem.W.callWith_K (h₀ := X.base) I.ok.mod.kin hk (thn (ha pos pins s σ H _ I hA) fun us s1 ⟨vs, H1, I1, r, G1, is, n1, ev, el, q⟩ => ⟨I1.kIn, ?_⟩) he hpl; subst ev; refine run_makeX Mx F hr hb I1 r (by show us.length <= 1000; rw [<- r.length, List.length_map, el]; exact hl) fun a hn => ⟨a, _, rfl, by rw [List.length_map, el], upd_same, fun dx hd ne => ⟨rfl, ?_⟩⟩
  rw [upd_upd]; rw [upd_ne ne] at hd; obtain ⟨n2, s2⟩ := n1.hs.laid (o := .ext (ExcDct a C dx)) hn; have hd' : (upd H1 a (.ext (ExcDct a C dx))) dx = none := by rw [upd_ne ne]; exact hd
  obtain ⟨n3, s3⟩ := n2.laid (o := .ext (DctIs dx (fs.zip (is.map V.int)))) hd'; refine kk _ _ _ (.exc C (some (fs.zip (is.map V.int)))) ⟨n3, n1.g.trans (s2.trans s3), n1.h.trans ((upd_mono hn).trans (upd_mono hd'))⟩ ?_ q; simp only [Rep]; exact ⟨a, rfl, dx, ne, by rw [upd_ne ne.symm]; exact upd_same, upd_same⟩
def rNewX (C : Addr) (tr : RA) (δ : List Sl) (Q : D -> Prop) : Prop := tr δ fun ds => ds.length <= 9 /\ Q (.exc C none)
theorem e_newX (Er : Err X.K X.mg X.base x C bm) (hk : PySem.W.keepIn X.K (.ref C) = true) (ha : PA2 X H0 (e :: es) tr) (hg : Gl X x := by rfl) (hdb : (x == ("__debug__" : Str)) = false := by decide)
 (he : starEach (e :: es) X.env = (false, eval e X.env) :: starEach es X.env := by rfl) (hpl : (backTo pos (starEach es X.env)).any (·.1) = false := by rfl) : PE2 X H0 (.Call (.Name x p) (e :: es) [] pos) (rNewX C tr) := by
  intro pins s σ H Q I ⟨δ, G, Qd, hs, ht, kk⟩; obtain ⟨B, newId, initId, FB, O⟩ := Er.ex; obtain ⟨tl, N, nm, q, bs, hdct, sn, sub, ab, col, dd, k0, k1, k2, k3, k5, mN, hC, hN, hni, T⟩ := O.obj; refine wpAny_Call_Name_kw (ld_glob I hg O.bound ?_ hdb); have hA : liftA X.K H0 tr σ H (fun vs H' => ∃ (G' : Hp) (ds : List D), Nx X.K H0 σ δ G H G' H' /\ Reps X.K G' ds vs /\ ds.length <= 9 /\ Qd (.exc C none)) := ⟨δ, G, _, hs, ht, fun vs H' G' ds n r ⟨e1, q⟩ => ⟨G', ds, n, r, e1, q⟩⟩; refine PySem.W.callWith_K (h₀ := X.base) I.ok.mod.kin hk (thn (ha pos pins s σ H _ I hA) fun us s1 ⟨vs, H1, I1, r, G1, ds, n1, rd, el, q⟩ => ⟨I1.kIn, ?_⟩) he hpl; have kp := I1.bk; obtain ⟨hp, g, d, t, os⟩ := s1; refine exi_call0 FB (T.keeps kp) (kp _ _ hC) (hN.keeps kp) hni (by show us.length <= _; rw [<- r.length, <- rd.length]; exact Nat.le_trans el (by rw [sizeLine_eq]; decide)) fun h' ea kp' hsz ho => ?_
  have hn : H1 ea = none := I1.hok.fresh hsz; obtain ⟨n2, s2⟩ := n1.hs.laid (o := .ext (ExcAt ea C)) hn; have I2 : Inv X pins σ (upd H1 ea (.ext (ExcAt ea C))) ⟨h', g, d, t, os⟩ := I1.laid kp' hsz (ext_ok ho (let ⟨o, z, _⟩ := ho; ⟨o, z⟩) ExcAt.st); exact ⟨.ref ea, _, I2, rfl, kk _ _ _ (.exc C none) ⟨n2, n1.g.trans s2, n1.h.trans (upd_mono hn)⟩ (by simp only [Rep]; exact ⟨ea, rfl, upd_same⟩) q⟩
theorem ExcRep.at {H : Hp} {a C : Addr} {o : Option (List (Str × V))} (r : ExcRep H a C o) : ∃ φ, H a = some (.ext φ) /\ ∀ h, φ h -> ExcAt a C h := by
  cases o with
  | none => exact ⟨_, r, fun _ z => z⟩
  | some fs => obtain ⟨dx, _, e, _⟩ := r; exact ⟨_, e, fun _ ⟨o, z1, z2, _⟩ => ⟨o, z1, z2⟩⟩
def IsiT (K : PySem.W.Frag) (cv : Value) (T : Addr -> Bool -> Prop) : Prop := ∀ C b, T C b -> ErrK K C /\ PySem.W.kitOne K (.ref C) cv = some b
theorem call_isiX {vc : V} {cv : Value} {T : Addr -> Bool -> Prop} (hT : IsiT X.K cv T) (hv : ∀ u, RelV vc u -> u = cv) :
 CallR X (.builtin "isinstance") (fun xs H Q => ∃ a C b o, xs = [.ref a, vc] /\ T C b /\ ExcRep H a C o /\ Q (.bl b) H) := by
  intro pins s σ H xs us Q I r h; obtain ⟨a, C, b, o, rfl, t, er, q⟩ := h; obtain ⟨k, hk⟩ := hT C b t; obtain ⟨φ, ea, hφ⟩ := er.at; obtain ⟨pf, _, _⟩ := I.hok a _ ea
  cases r with
  | cons r1 r =>
    cases r with
    | cons r2 r =>
      cases r with
      | nil =>
        cases (show _ = Value.ref a from r1); cases hv _ r2; exact PySem.W.kia_one (PySem.W.kitx_exc PySem.F.excAttr_ValueError.ga k.cs k.ga k.gt k.a k.n k.t k.m k.mb) I.kIn (hφ _ pf) hk (fun z => nomatch z) fun tk => ⟨.bl b, H, I.tok _, rfl, q⟩
def rIsiX (T : Addr -> Bool -> Prop) (te : RE) (δ : List Sl) (Q : D -> Prop) : Prop := te δ fun d => ∃ C b o, d = .exc C o /\ T C b /\ Q (.bl b)
variable {c : Str} {C' : Addr} {Ty : String} {p2 : Pos} {T : Addr -> Bool -> Prop}
theorem lift_isiX {vc : V} : ∀ σ H Q, liftE X.K H0 (rIsiX T te) σ H Q -> liftE X.K H0 te σ H fun v H1 => ∃ a C b o, [v, vc] = [.ref a, vc] /\ T C b /\ ExcRep H1 a C o /\ Q (.bl b) H1 := fun σ H Q ⟨δ, G, Qd, hs, ht, kk⟩ =>
  ⟨δ, G, _, hs, ht, fun v H1 G1 d n1 r1 ⟨C, b, o, ed, t, q1⟩ => by
    subst ed; simp only [Rep] at r1; obtain ⟨a, rfl, er⟩ := r1
    exact ⟨a, C, b, o, rfl, t, er.to fun c φ z => n1.hs.sub _ _ z, kk _ H1 G1 (.bl b) n1 (by simp only [Rep]) q1⟩⟩
theorem e_isiXO (hT : IsiT X.K (.ref C') T) (hmc : X.mg c = some (.ref C')) (hm : X.mg "isinstance" = none) (ha : PE2 X H0 e te) (hg : Gl X "isinstance" := by rfl) (hg2 : Gl X c := by rfl) (hdb : (c == ("__debug__" : Str)) = false := by decide)
 (he : starEach (e :: [.Name c p2]) X.env = (false, eval e X.env) :: starEach [.Name c p2] X.env := by rfl) (he2 : starEach [.Name c p2] X.env = (false, eval (.Name c p2) X.env) :: starEach [] X.env := by rfl)
 (hpl : (backTo pos (starEach [.Name c p2] X.env)).any (·.1) = false := by rfl) : PE2 X H0 (.Call (.Name "isinstance" p) [e, .Name c p2] [] pos) (rIsiX T te) :=
  PE.weak (pe_callB (call_isiX (vc := .ref C') hT fun u z => z) hg hm rfl (pa_cons ha (pa_cons (te := tC (.ref C')) (fun pins s σ H Q I h => ld_glob I hg2 hmc ⟨.ref C', H, I, rfl, h⟩ hdb) pa_nil he2) he) (by decide) (by decide) he hpl) fun σ H Q h => lift_isiX (vc := .ref C') σ H Q h
theorem e_isiXB (hT : IsiT X.K (.type Ty) T) (hmc : X.mg c = none) (hm : X.mg "isinstance" = none) (ha : PE2 X H0 e te) (hv : bootBuiltins c = some (.type Ty) := by rfl) (hg : Gl X "isinstance" := by rfl) (hg2 : Gl X c := by rfl) (hn : c ≠ "__name__" := by decide) (hdb : (c == ("__debug__" : Str)) = false := by decide)
 (he : starEach (e :: [.Name c p2]) X.env = (false, eval e X.env) :: starEach [.Name c p2] X.env := by rfl) (he2 : starEach [.Name c p2] X.env = (false, eval (.Name c p2) X.env) :: starEach [] X.env := by rfl)
 (hpl : (backTo pos (starEach [.Name c p2] X.env)).any (·.1) = false := by rfl) : PE2 X H0 (.Call (.Name "isinstance" p) [e, .Name c p2] [] pos) (rIsiX T te) :=
  PE.weak (pe_callB (call_isiX (vc := .ty Ty) hT fun u z => z) hg hm rfl (pa_cons ha (pa_cons (pe_bltn hg2 hmc hv (v := .ty Ty) rfl hn hdb) pa_nil he2) he) (by decide) (by decide) he hpl) fun σ H Q h => lift_isiX (vc := .ty Ty) σ H Q h
def rFldX (K : PySem.W.Frag) (f : Str) (te : RE) (δ : List Sl) (Q : D -> Prop) : Prop := te δ fun d => ∃ C fs i, d = .exc C (some fs) /\ PySem.W.XoK K C /\ NoAttr K C f /\ fs.lookup f = some (V.int i) /\ Q (.int i)
theorem e_fldX {f : Str} (ha : PE2 X H0 e te) (hb : attributeBase e f X.env (eval e X.env) = eval e X.env := by rfl) : PE2 X H0 (.Attribute e f pos) (rFldX X.K f te) := by
  intro pins s σ H Q I ⟨δ, G, Qd, hs, ht, kk⟩; have hE : liftE X.K H0 te σ H (fun v H1 => ∃ a C dx fs i, v = .ref a /\ PySem.W.XoK X.K C /\ NoAttr X.K C f /\ fs.lookup f = some (V.int i) /\ H1 a = some (.ext (ExcDct a C dx)) /\ H1 dx = some (.ext (DctIs dx fs)) /\ Q (.int i) H1) :=
    ⟨δ, G, _, hs, ht, fun v H1 G1 d n1 r1 ⟨C, fs, i, ed, k, n, l, q1⟩ => by
      subst ed; simp only [Rep] at r1; obtain ⟨a, rfl, dx, ne, z1, z2⟩ := r1
      exact ⟨a, C, dx, fs, i, rfl, k, n, l, n1.hs.sub _ _ z1, n1.hs.sub _ _ z2, kk _ H1 G1 (.int i) n1 (by simp only [Rep]) q1⟩⟩
  refine attr_of hb (thn (ha pins s σ H _ I hE) fun u s1 ⟨x, H1, I1, rx, a, C, dx, fs, i, ex, k, n, l, z1, z2, q⟩ => ?_); subst ex; obtain rfl : u = Value.ref a := rx; exact get_fld I1 z1 z2 k n l fun u' s2 I2 ru => ⟨.int i, H1, I2, ru, q⟩
end
section
variable {X : Cx} {H0 : Hp} {nT : Nat} {g : RGp} {e a1 : Expr} {pos p p2 pos2 : Pos}
variable {target iter elt : Expr} {ifs : List Expr} {scope : Scope} {N' : List Str} {te tel : RE} {tc : RT} {tr : RA}
def rCompR (nT : Nat) (tr : RA) (g : RGp) (tc : RT) (tel : RE) (δ : List Sl) (Q : D -> Prop) : Prop := tr δ fun ds => int1 ds fun j => Small62 j /\ compD g tc tel δ (rng 0 j.toNat) (List.replicate nT .un) [] (fun acc => Q (.lst acc))
theorem comp_walkR {σ : L2.St} {δ : List Sl} {G1 H1 : Hp} {D : Addr} {n : Nat} {Qd : List M.D -> Prop} {QD : Hp -> Prop} (hs : Hs X.K H0 σ δ G1 H1) (hD : H1 D = none)
 (q : compD g tc tel δ (rng 0 n) (List.replicate nT .un) [] Qd) (k : ∀ H' G' acc, Hs X.K H0 (some (.ref D) :: σ) (.ow (.lst acc) :: δ) G' H' -> Same G1 G' -> Same H1 H' -> Qd acc -> QD H') :
 CompW (Itr 0 n) D (liftGp X.K H0 nT g) (liftT X.K H0 tc) (liftE X.K H0 tel) (List.replicate nT none ++ some (.ref D) :: σ) (upd H1 D (.lst [])) QD := by
  have smD : ∀ {H' : Hp} {o : HO}, Same H1 H' -> Same H1 (upd H' D o) := fun {H' o} s b u e => by rw [upd_ne (ne_of_none e hD)]; exact s b u e
  refine ⟨fun i m σ' H' => m = n - i /\ i <= n /\ ∃ ps pre acc G', σ' = ps ++ some (.ref D) :: σ /\ ps.length = nT /\ pre.length = nT /\ NoOwn pre /\ Hs X.K H0 σ' (pre ++ .ow (.lst acc) :: δ) G' H' /\ Same G1 G' /\ Same H1 H' /\ compD g tc tel δ ((rng 0 n).drop i) pre acc Qd,
    ⟨n, by simp, Nat.zero_le _, List.replicate nT none, List.replicate nT .un, [], G1, rfl, by simp, by simp, noOwn_un nT, (hs.fresh (d := .lst []) (o := .lst []) hD ⟨[], upd_same, Reps.nil⟩).uns nT, Same.refl _, smD (Same.refl _), q⟩, ?_⟩
  rintro i m σ' H' ⟨rfl, hi, ps, pre, acc, G', rfl, l1, l2, no, h', sg, sh, q'⟩
  by_cases hlt : i < n
  · rw [rng_drop 0 n i hlt] at q'
    refine .inr ⟨hlt, fun σ2 H2 => ∃ ps pre acc G', σ2 = ps ++ some (.ref D) :: σ /\ ps.length = nT /\ pre.length = nT /\ NoOwn pre /\ Hs X.K H0 σ2 (pre ++ .ow (.lst acc) :: δ) G' H2 /\ Same G1 G' /\ Same H1 H2 /\ compD g tc tel δ ((rng 0 n).drop (i + 1)) pre acc Qd, fun σ2 H2 z => ⟨n - (i + 1), by omega, rfl, hlt, z⟩, fun x H2 y => ?_⟩; obtain ⟨e, y⟩ := y; subst e; have ey : x = V.int (0 + (i : Int)) := y; refine ⟨ps, _, pre, .ow (.lst acc) :: δ, G', .int (0 + (i : Int)), _, rfl, l1, l2, no, h', by rw [ey]; simp only [Rep], q', fun ps1 pre1 a1 a2 a3 h1 q1 => ?_⟩; refine ⟨_, G', _, h1, q1, fun b H3 G3 n3 q3 => ?_⟩
    cases b with
    | false =>
      rw [if_neg Bool.false_ne_true]; exact ⟨ps1, pre1, acc, G3, rfl, a1, a2, a3, n3.hs, sg.trans n3.g, sh.trans n3.h, q3.no rfl⟩
    | true =>
      rw [if_pos rfl]; refine ⟨_, G3, _, n3.hs, q3.yes rfl, fun y H4 G4 dy n4 r4 q4 => ?_⟩; have e0 : (pre1 ++ Sl.ow (.lst acc) :: δ)[nT]? = some (.ow (.lst acc)) := get_mid a2 _; have e1 : (ps1 ++ some (V.ref D) :: σ)[nT]? = some (some (.ref D)) := get_mid a1 _; obtain ⟨p, e2, zs, g1, g2⟩ := n4.hs.ow nT _ e0; rw [e1] at e2; cases e2; refine ⟨zs, g1, by rw [<- g2.length]; exact q4.1, ps1, pre1, acc ++ [dy], G4, rfl, a1, a2, a3, ?_, sg.trans (n3.g.trans n4.g), smD (sh.trans (n3.h.trans n4.h)), q4.2⟩; have hw := n4.hs.write (d' := .lst (acc ++ [dy])) e0 e1 ⟨_, upd_same, Reps.append g2 (Reps.cons r4 Reps.nil)⟩; rw [set_mid a2] at hw; exact hw
  · have e : i = n := by omega
    subst e; refine .inl ⟨Nat.le_refl _, ?_⟩; rw [List.drop_of_length_le (by unfold rng; simp)] at q'; exact k H' G' acc (Hs.drops (by rw [l1, l2]) no h') sg sh q'
theorem n_compR (ok : CompOk X scope nT N') (hgl : Gl X "range") (hm : X.mg "range" = none) (ha : PA2 X H0 [a1] tr) (hg : ∀ s3 H3 C cl fp, PGp (compX X scope N' s3 H3 C cl fp) H0 nT target g) (hif : ∀ s3 H3 C cl fp, PIf2 (compX X scope N' s3 H3 C cl fp) H0 ifs tc) (hel : ∀ s3 H3 C cl fp, PE2 (compX X scope N' s3 H3 C cl fp) H0 elt tel) (hst : starEach [a1] X.env = [(false, eval a1 X.env)] := by rfl)
 (hs : ∀ x, foldedSetIterable (.Call (.Name "range" p) [a1] [] pos2) X.env x = pure x := by intro _; rfl) : PN2 X H0 (.ListComp elt [⟨target, .Call (.Name "range" p) [a1] [] pos2, ifs, 0⟩] scope pos) (rCompR nT tr g tc tel) :=
  PE.weak (pe_comp (g := liftGp X.K H0 nT g) (tc := liftT X.K H0 tc) (tel := liftE X.K H0 tel) ok (pi_range1 hgl hm ha hst) hg hif hel hs) fun σ H Q ⟨δ, G, Qd, hs, ht, k⟩ => ⟨δ, G, _, hs, ht, fun vs H1 G1 ds n1 r1 q1 => by
    obtain ⟨j, rfl, ⟨h1, h2⟩, q2⟩ := int1_of q1; have e : vs = [.int j] := Reps.ints_inv (ns := [j]) r1
    exact ⟨j, e, h1, h2, fun D hD => comp_walkR n1.hs hD q2 fun H' G' acc hh sg sh qq => k _ H' G' _ hh (n1.g.trans sg) (n1.h.trans sh) qq⟩⟩
end
structure QE (X : Cx) (H0 : Hp) (e : Expr) (t : RE) : Prop where
  run : PE2 X H0 e t
structure QB (X : Cx) (H0 : Hp) (e : Expr) (t : RE) : Prop where
  run : PB2 X H0 e t
structure QN (X : Cx) (H0 : Hp) (e : Expr) (t : RE) : Prop where
  run : PN2 X H0 e t
structure QT (X : Cx) (H0 : Hp) (e : Expr) (t : RT) : Prop where
  run : PT2 X H0 e t
structure QW (X : Cx) (H0 : Hp) (e : Expr) (t : RT) : Prop where
  run : PW2 X H0 e t
structure QA (X : Cx) (H0 : Hp) (e : List Expr) (t : RA) : Prop where
  run : PA2 X H0 e t
structure QAB (X : Cx) (H0 : Hp) (e : List Expr) (t : RA) : Prop where
  run : PAB2 X H0 e t
structure QAL (X : Cx) (H0 : Hp) (i : Nat) (e : List Expr) (t : RA) : Prop where
  run : PAL X H0 i e t
structure QO (X : Cx) (H0 : Hp) (e : Option Expr) (t : RO) : Prop where
  run : PO2 X H0 e t
structure QS (X : Cx) (H0 : Hp) (e : Stmt) (t : RS) : Prop where
  run : PS2 X H0 e t
structure QSs (X : Cx) (H0 : Hp) (e : List Stmt) (t : RS) : Prop where
  run : PSs2 X H0 e t
structure QG (X : Cx) (H0 : Hp) (e : Expr) (t : RG) : Prop where
  run : PG2 X H0 e t
structure QGs (X : Cx) (H0 : Hp) (e : List Expr) (t : RGs) : Prop where
  run : PGs2 X H0 e t
structure QGp (X : Cx) (H0 : Hp) (nT : Nat) (e : Expr) (t : RGp) : Prop where
  run : PGp X H0 nT e t
structure QGsp (X : Cx) (H0 : Hp) (nT : Nat) (e : List Expr) (t : RGsp) : Prop where
  run : PGsp X H0 nT e t
structure QIf (X : Cx) (H0 : Hp) (e : List Expr) (t : RT) : Prop where
  run : PIf2 X H0 e t
namespace Wr
section
variable {K : PySem.W.Frag} {H0 : Hp} {σ : L2.St} {δ : List Sl} {G G' H H' : Hp} {d : D} {v : V}
end
section
variable {X : Cx} {H0 : Hp} {e a b c : Expr} {t ta tb tc : RE} {pos : Pos}
theorem PE2_bo (h : QE X H0 e t) : QB X H0 e t :=
  ⟨M.PE2.bo h.run⟩
theorem PN2_fx (h : QN X H0 e t) : QE X H0 e t :=
  ⟨M.PN2.fx h.run⟩
theorem PN2_bo (h : QN X H0 e t) : QB X H0 e t :=
  ⟨M.PN2.bo h.run⟩
theorem e_var (i : Nat) {x : Str} {pos : Pos} (hN : X.N[i]? = some x := by rfl) (hv : Vis X.env.scope x := by first | exact Or.inl rfl | exact Or.inr (Or.inl rfl) | exact Or.inr (Or.inr rfl)) (hd : (x == ("__debug__" : Str)) = false := by decide) (hcd : (x == ("__classdict__" : Str)) = false := by decide) : QE X H0 (.Name x pos) (rVar i) :=
  ⟨M.e_var i hN hv hd hcd⟩
theorem b_var (i : Nat) {x : Str} {pos : Pos} (hN : X.N[i]? = some x := by rfl) (hv : Vis X.env.scope x := by first | exact Or.inl rfl | exact Or.inr (Or.inl rfl) | exact Or.inr (Or.inr rfl)) (hd : (x == ("__debug__" : Str)) = false := by decide) (hcd : (x == ("__classdict__" : Str)) = false := by decide) : QB X H0 (.Name x pos) (rVarB i) :=
  ⟨M.b_var i hN hv hd hcd⟩
theorem e_int {i : Int} {j : Nat} {pos : Pos} : QE X H0 (.Constant (.int i) j pos) (rC (.int i)) :=
  ⟨M.e_int ⟩
theorem e_bl {b : Bool} {j : Nat} {pos : Pos} : QE X H0 (.Constant (.bool b) j pos) (rC (.bl b)) :=
  ⟨M.e_bl ⟩
theorem e_str {x : Str} {j : Nat} {pos : Pos} : QE X H0 (.Constant (.str x) j pos) (rC (.str x)) :=
  ⟨M.e_str ⟩
theorem e_cmp {op : CmpOp} {r : R2} {r2 : D -> D -> (D -> Prop) -> Prop} (ho : OpR X (compareOp op) r) (lf : Lf2 X.K r r2) (ha : QB X H0 a ta) (hb : QB X H0 b tb) (hm : behindInMarks op b = false) : QE X H0 (.Compare a [op] [b] pos) (rOp r2 ta tb) :=
  ⟨M.e_cmp ho lf ha.run hb.run hm⟩
theorem t_cmp {op : CmpOp} {r : R2} {r2 : D -> D -> (D -> Prop) -> Prop} (ho : OpR X (compareOp op) r) (lf : Lf2 X.K r r2) (ha : QB X H0 a ta) (hb : QB X H0 b tb) (hm : behindInMarks op b = false) : QT X H0 (.Compare a [op] [b] pos) (rTest (rOp r2 ta tb)) :=
  ⟨M.t_cmp ho lf ha.run hb.run hm⟩
theorem e_add (ha : QB X H0 a ta) (hb : QB X H0 b tb) : QE X H0 (.BinOp a .Add b pos) (rOp (dI0 fun i j => .int (i + j)) ta tb) :=
  ⟨M.e_add ha.run hb.run⟩
theorem e_mul (ha : QB X H0 a ta) (hb : QB X H0 b tb) : QE X H0 (.BinOp a .Mult b pos) (rOp (dI CMul fun i j => .int (i * j)) ta tb) :=
  ⟨M.e_mul ha.run hb.run⟩
theorem e_fdiv (ha : QB X H0 a ta) (hb : QB X H0 b tb) : QE X H0 (.BinOp a .FloorDiv b pos) (rOp (dI CDv fun i j => .int (i / j)) ta tb) :=
  ⟨M.e_fdiv ha.run hb.run⟩
theorem e_mod (ha : QB X H0 a ta) (hb : QB X H0 b tb) : QE X H0 (.BinOp a .Mod b pos) (rOp (dI (fun _ j => 0 < j) fun i j => .int (i % j)) ta tb) :=
  ⟨M.e_mod ha.run hb.run⟩
theorem e_pow (ha : QB X H0 a ta) (hb : QB X H0 b tb) : QE X H0 (.BinOp a .Pow b pos) (rOp (dI CPow fun i j => .int (i ^ j.toNat)) ta tb) :=
  ⟨M.e_pow ha.run hb.run⟩
end
section
variable {X : Cx} {H0 : Hp} {e a b c : Expr} {t ta tb tc : RE} {u uA uB : RT} {pos : Pos} {rest : List Expr}
theorem PW2_pt (h : QW X H0 e u) : QT X H0 e u :=
  ⟨M.PW2.pt h.run⟩
theorem t_or1 (ha : QT X H0 a uA) : QW X H0 (.BoolOp .Or [a] pos) uA :=
  ⟨M.t_or1 ha.run⟩
theorem t_or (ha : QT X H0 a uA) (hb : QW X H0 (.BoolOp .Or (b :: rest) pos) uB) : QW X H0 (.BoolOp .Or (a :: b :: rest) pos) (rOr uA uB) :=
  ⟨M.t_or ha.run hb.run⟩
theorem t_not (ha : QT X H0 a uA) : QT X H0 (.UnaryOp .Not a pos) (rNot uA) :=
  ⟨M.t_not ha.run⟩
theorem t_val (h : QE X H0 e t) (he : ∀ whole, isTrue e X.env whole = (do let v <- whole; standAt e.pos; holding [v] (truthy v)) := by intro _; rfl) : QT X H0 e (rTest t) :=
  ⟨M.t_val h.run he⟩
theorem e_one {op : BoolOp} (ha : QE X H0 a ta) : QE X H0 (.BoolOp op [a] pos) ta :=
  ⟨M.e_one ha.run⟩
theorem e_and (ha : QE X H0 a ta) (hb : QE X H0 (.BoolOp .And (b :: rest) pos) tb) : QE X H0 (.BoolOp .And (a :: b :: rest) pos) (rAndV ta tb) :=
  ⟨M.e_and ha.run hb.run⟩
theorem e_not (ha : QE X H0 a ta) : QE X H0 (.UnaryOp .Not a pos) (rNotV ta) :=
  ⟨M.e_not ha.run⟩
theorem e_neg (ha : QB X H0 a ta) : QE X H0 (.UnaryOp .USub a pos) (rNeg ta) :=
  ⟨M.e_neg ha.run⟩
variable {es : List Expr} {tr : RA}
theorem a_nil  : QA X H0 [] rNil :=
  ⟨M.a_nil ⟩
theorem a_cons (ha : QE X H0 e t) (hr : QA X H0 es tr) (hs : starEach (e :: es) X.env = (false, eval e X.env) :: starEach es X.env := by rfl) : QA X H0 (e :: es) (rCons t tr) :=
  ⟨M.a_cons ha.run hr.run hs⟩
theorem e_tup {x1} (h : QA X H0 es tr) : QE X H0 (.Tuple es x1 pos) (rTupD tr) :=
  ⟨M.e_tup h.run⟩
theorem n_lst (h : QA X H0 es tr) : QN X H0 (.List es pos) (rLstD tr) :=
  ⟨M.n_lst h.run⟩
theorem e_ix (ha : QB X H0 a ta) (hb : QB X H0 b tb) (hp : PlainIx b := by intro _ _; rfl) : QE X H0 (.Subscript a b pos) (rOp dIx ta tb) :=
  ⟨M.e_ix ha.run hb.run hp⟩
variable {lo hi : Option Expr} {tl th : RO} {p2 : Pos}
end
section
variable {X : Cx} {H0 : Hp} {e : Expr} {t : RE} {lo hi : Option Expr} {tl th : RO} {p2 pos : Pos}
end
section
variable {X : Cx} {H0 : Hp} {e tg : Expr} {te : RE} {st : Stmt} {rest b1 b2 : List Stmt} {t u : RS} {c : Expr} {tc : RT} {pos pos' : Pos} {x : Str}
theorem s_nil  : QSs X H0 [] rNext :=
  ⟨M.s_nil ⟩
theorem s_cons (h1 : QS X H0 st t) (h2 : QSs X H0 rest u) : QSs X H0 (st :: rest) (rSeq t u) :=
  ⟨M.s_cons h1.run h2.run⟩
theorem s_one (h1 : QS X H0 st t) : QSs X H0 [st] t :=
  ⟨M.s_one h1.run⟩
theorem s_freeze (i : Nat) (h : QSs X H0 rest t) : QSs X H0 rest (rFreeze i t) :=
  ⟨M.s_freeze i h.run⟩
theorem s_ret (he : QE X H0 e te) : QS X H0 (.Return (some e) pos) (rRet te) :=
  ⟨M.s_ret he.run⟩
theorem s_retN (he : QN X H0 e te) : QS X H0 (.Return (some e) pos) (rRetN te) :=
  ⟨M.s_retN he.run⟩
theorem s_retO (i : Nat) (hN : X.N[i]? = some x := by rfl) (hv : Vis X.env.scope x := by first | exact Or.inl rfl | exact Or.inr (Or.inl rfl) | exact Or.inr (Or.inr rfl)) (hd : (x == ("__debug__" : Str)) = false := by decide) (hcd : (x == ("__classdict__" : Str)) = false := by decide) : QS X H0 (.Return (some (.Name x pos')) pos) (rRetO i) :=
  ⟨M.s_retO i hN hv hd hcd⟩
theorem s_if (hc : QT X H0 c tc) (ha : QSs X H0 b1 t) (hb : QSs X H0 b2 u) : QS X H0 (.If c b1 b2 pos) (rIf tc t u) :=
  ⟨M.s_if hc.run ha.run hb.run⟩
theorem g_name (i : Nat) (hN : X.N.Nodup) (hi : X.N[i]? = some x := by rfl) (hx : Loc X.env.scope x := by first | exact Or.inl rfl | exact Or.inr rfl) (hf : X.fn x = true \/ X.env.scope.names.lookup x = some .local := by first | exact .inl rfl | exact .inr rfl | assumption) : QG X H0 (.Name x pos) (gSet i) :=
  ⟨M.g_name i hN hi hx hf⟩
theorem s_set (i : Nat) (hN : X.N.Nodup) (he : QE X H0 e te) (hi : X.N[i]? = some x := by rfl) (hx : Loc X.env.scope x := by first | exact Or.inl rfl | exact Or.inr rfl) (hs : swapsWith e (some (.Name x pos')) pos.line X.env = pure false := by rfl) (hf : X.fn x = true \/ X.env.scope.names.lookup x = some .local := by first | exact .inl rfl | exact .inr rfl | assumption) : QS X H0 (.Assign [.Name x pos'] e pos) (rSet i te) :=
  ⟨M.s_set i hN he.run hi hx hs hf⟩
theorem s_setN (i : Nat) (hN : X.N.Nodup) (he : QN X H0 e te) (hi : X.N[i]? = some x := by rfl) (hx : Loc X.env.scope x := by first | exact Or.inl rfl | exact Or.inr rfl) (hs : swapsWith e (some (.Name x pos')) pos.line X.env = pure false := by rfl) (hf : X.fn x = true \/ X.env.scope.names.lookup x = some .local := by first | exact .inl rfl | exact .inr rfl | assumption) : QS X H0 (.Assign [.Name x pos'] e pos) (rSetN i te) :=
  ⟨M.s_setN i hN he.run hi hx hs hf⟩
theorem gs_nil  : QGs X H0 [] gNil2 :=
  ⟨M.gs_nil ⟩
variable {es : List Expr} {g : RG} {gs : RGs}
theorem gs_cons (h1 : QG X H0 e g) (h2 : QGs X H0 es gs) (hs : (assignEach (e :: es) X.env).map (·.2) = assign e X.env :: (assignEach es X.env).map (·.2) := by rfl) : QGs X H0 (e :: es) (gCons2 g gs) :=
  ⟨M.gs_cons h1.run h2.run hs⟩
theorem g_tup {n k : Nat} (hc : X.calm = true) (h : QGs X H0 es gs) (hn : (assignEach es X.env).length = n := by rfl) (hst : (assignEach es X.env).findIdx? (·.1) = none := by rfl) : QG X H0 (.Tuple es k pos) (gTup2 n gs) :=
  ⟨M.g_tup hc h.run hn hst⟩
theorem s_asg (he : QE X H0 e te) (hg : QG X H0 tg g) (hs : swapsWithSole [tg] e pos.line X.env = pure false := by rfl) (hw : swappedStores [tg] e X.env = pure none := by rfl) (h1 : (assignEach [tg] X.env).map (·.2) = [assign tg X.env] := by rfl) : QS X H0 (.Assign [tg] e pos) (rAsg te g) :=
  ⟨M.s_asg he.run hg.run hs hw h1⟩
variable {iter : Expr} {body : List Stmt} {tb : RS}
theorem s_forT (hp : PassesOwn (model X.prog X.w) X.A X.env X.xe) (hc : X.calm = true) (hi : QE X H0 iter te) (hg : QG X H0 tg g) (hb : QSs X H0 body tb) (hs : ∀ x, foldedSetIterable iter X.env x = pure x := by intro _; rfl) : QS X H0 (.For tg iter body [] pos) (rForT te g tb) :=
  ⟨M.s_forT hp hc hi.run hg.run hb.run hs⟩
end
section
variable {X : Cx} {H0 : Hp} {e tg : Expr} {te : RE} {st : Stmt} {pos pos' : Pos} {x : Str} {es : List Expr} {g : RG} {gs : RGs} {iter : Expr} {body : List Stmt} {tb : RS}
variable {tr : RA} {a1 a2 : Expr}
theorem s_forR1 {p pos2 : Pos} (hp : PassesOwn (model X.prog X.w) X.A X.env X.xe) (hc : X.calm = true) (hgl : Gl X "range") (hm : X.mg "range" = none) (ha : QA X H0 [a1] tr) (hg : QG X H0 tg g) (hb : QSs X H0 body tb) (hst : starEach [a1] X.env = [(false, eval a1 X.env)] := by rfl) (hs : ∀ x, foldedSetIterable (.Call (.Name "range" p) [a1] [] pos2) X.env x = pure x := by intro _; rfl) : QS X H0 (.For tg (.Call (.Name "range" p) [a1] [] pos2) body [] pos) (rForR1 tr g tb) :=
  ⟨M.s_forR1 hp hc hgl hm ha.run hg.run hb.run hst hs⟩
end
section
variable {P : Program} {w : World} {K : PySem.W.Frag} {mg : Str -> Option Value} {base : Heap}
theorem fun_ok {x qual : Str} {st : Stmt} {f : Addr} {fd : FuncData} {N ps : List Str} {k : Nat} {sp : Sp2} (F : Fun K x qual st f fd) (S : FnScope N ps (defScope st)) (len : ∀ ds Qd, sp ds Qd -> ds.length = ps.length) (hbody : ∀ (cdv : Value) (A : Around) (outer : List Env) (s : Shared) (H : Hp) (E : XK), Room k (A.deeper (envOfC qual (defScope st) s.heap.objs.size f cdv)) -> ∀ ds Qd, sp ds Qd ->
 ∃ t, QSs (cxOf CX0 P w K mg base N qual (defScope st) f cdv A outer s H E).nox H (defBody st) t /\ t { nx := fun _ => Qd (.val .non), rt := fun r _ => Qd r } (start2 N ds)) : FnOk P w K mg base CX0 (k + 1) f fd ps (liftSp K sp) :=
  M.fun_ok F S len fun cdv A outer s H E hr ds Qd h => let ⟨t, a, b⟩ := hbody cdv A outer s H E hr ds Qd h; ⟨t, a.run, b⟩
end
section
variable {X : Cx} {H0 : Hp} {pins : List (Addr × Obj)} {σ : L2.St} {δ : List Sl} {G H : Hp} {s : Shared}
end
section
variable {X : Cx} {H0 : Hp} {k : Nat} {x : Str} {sp : Sp2} {e : Expr} {es : List Expr} {tr : RA} {p pos : Pos}
theorem e_call (F : Fn2 X.prog X.w X.K X.mg X.base k x sp) (hr : Room k X.A) (ha : QA X H0 (e :: es) tr) (hg : Gl X x := by rfl) (hdb : (x == ("__debug__" : Str)) = false := by decide) (he : starEach (e :: es) X.env = (false, eval e X.env) :: starEach es X.env := by rfl) (hpl : (backTo pos (starEach es X.env)).any (·.1) = false := by rfl) : QE X H0 (.Call (.Name x p) (e :: es) [] pos) (rCall sp tr) :=
  ⟨M.e_call F hr ha.run hg hdb he hpl⟩
end
section
variable {prog : Program} {w : World} {A : Around} {E : Value -> Shared -> Prop}
end
section
variable {X : Cx} {H0 : Hp} {es : List Expr} {gs : RGs} {pos : Pos}
theorem g_lst {n k : Nat} (hc : X.calm = true) (h : QGs X H0 es gs) (hn : (assignEach es X.env).length = n := by rfl) (hst : (assignEach es X.env).findIdx? (·.1) = none := by rfl) : QG X H0 (.Tuple es k pos) (gLst2 n gs) :=
  ⟨M.g_lst hc h.run hn hst⟩
end
section
variable {X : Cx} {H0 : Hp}
variable {ts : List Expr} {k : Nat} {tp p pos pos2 : Pos} {a : Expr} {tr : RA} {g : RG} {tb : RS} {body : List Stmt}
theorem s_forE (hp : PassesOwn (model X.prog X.w) X.A X.env X.xe) (hc : X.calm = true) (hgl : Gl X "enumerate") (hm : X.mg "enumerate" = none) (ha : QA X H0 [a] tr) (hg : QG X H0 (.Tuple ts k tp) g) (hb : QSs X H0 body tb) (hst : starEach [a] X.env = [(false, eval a X.env)] := by rfl) (hs : ∀ x, foldedSetIterable (.Call (.Name "enumerate" p) [a] [] pos2) X.env x = pure x := by intro _; rfl) : QS X H0 (.For (.Tuple ts k tp) (.Call (.Name "enumerate" p) [a] [] pos2) body [] pos) (rForE tr g tb) :=
  ⟨M.s_forE hp hc hgl hm ha.run hg.run hb.run hst hs⟩
end
section
variable {X : Cx} {H0 : Hp} {e : Expr} {t : RE} {pos p : Pos} {es : List Expr} {tr : RA} {x : Str} {id T : String}
theorem ab_nil  : QAB X H0 [] rNil :=
  ⟨M.ab_nil ⟩
theorem ab_cons (ha : QB X H0 e t) (hr : QAB X H0 es tr) (hs : starEach (e :: es) X.env = (false, eval e X.env) :: starEach es X.env := by rfl) : QAB X H0 (e :: es) (rCons t tr) :=
  ⟨M.ab_cons ha.run hr.run hs⟩
variable {r : List V -> Hp -> VK -> Prop} {r2 : List D -> (D -> Prop) -> Prop}
theorem e_len (hm : X.mg "len" = none) (ha : QAB X H0 (e :: es) tr) (hg : Gl X "len" := by rfl) (he : starEach (e :: es) X.env = (false, eval e X.env) :: starEach es X.env := by rfl) (hpl : (backTo pos (starEach es X.env)).any (·.1) = false := by rfl) : QE X H0 (.Call (.Name "len" p) (e :: es) [] pos) (rCB dLen tr) :=
  ⟨M.e_len hm ha.run hg he hpl⟩
end
section
variable {X : Cx} {H0 : Hp} {e : Expr} {t : RE} {pos cpos apos p : Pos} {x : Str}
theorem s_app (i : Nat) (he : QE X H0 e t) (hN : X.N[i]? = some x := by rfl) (hv : Vis X.env.scope x := by first | exact Or.inl rfl | exact Or.inr (Or.inl rfl) | exact Or.inr (Or.inr rfl)) (hd : (x == ("__debug__" : Str)) = false := by decide) (hcd : (x == ("__classdict__" : Str)) = false := by decide) (hbase : attributeBase (.Name x p) "append" X.env (eval (.Name x p) X.env) = eval (.Name x p) X.env := by rfl) (hfew : ((backTo cpos (starEach [e] X.env)).all (fun x => !x.1) && (backToKw cpos (keywordEach [] X.env)).all (fun x => x.1.isSome)
 && decide ([e].length + ([] : List Keyword).length + (if ([] : List Keyword).isEmpty then 0 else 1) < 30)) = true := by rfl) (hline : (apos.endLine == cpos.line) = true := by rfl) (hs : starEach [e] X.env = (false, eval e X.env) :: starEach [] X.env := by rfl) (hplain : (backTo cpos (starEach [] X.env)).any (·.1) = false := by rfl) (hsw : swapsWith (.Call (.Attribute (.Name x p) "append" apos) [e] [] cpos) none pos.line X.env = pure false := by rfl) : QS X H0 (.Expr (.Call (.Attribute (.Name x p) "append" apos) [e] [] cpos) pos) (rApp i t) :=
  ⟨M.s_app i he.run hN hv hd hcd hbase hfew hline hs hplain hsw⟩
end
section
variable {X : Cx} {H0 : Hp} {e : Expr} {t : RE} {pos p p2 : Pos} {T : String} {x : Str}
theorem e_isi (k : KindOk X.K T) (hm : X.mg "isinstance" = none) (hm2 : X.mg x = none) (ha : QB X H0 e t) (hv : bootBuiltins x = some (.type T) := by rfl) (hg : Gl X "isinstance" := by rfl) (hg2 : Gl X x := by rfl) (hn : x ≠ "__name__" := by decide) (hdb : (x == ("__debug__" : Str)) = false := by decide) (he : starEach (e :: [.Name x p2]) X.env = (false, eval e X.env) :: starEach [.Name x p2] X.env := by rfl) (he2 : starEach [.Name x p2] X.env = (false, eval (.Name x p2) X.env) :: starEach [] X.env := by rfl) (hpl : (backTo pos (starEach [.Name x p2] X.env)).any (·.1) = false := by rfl) : QE X H0 (.Call (.Name "isinstance" p) [e, .Name x p2] [] pos) (rIsi T t) :=
  ⟨M.e_isi k hm hm2 ha.run hv hg hg2 hn hdb he he2 hpl⟩
end
section
variable {X : Cx} {H0 : Hp} {e : Expr} {es : List Expr} {tr : RA} {pos p : Pos}
end
section
variable {X : Cx} {H0 : Hp} {e : Expr} {te : RE} {pos pos' : Pos} {x : Str}
end
section
variable {X : Cx} {H0 : Hp} {a b e f value o : Expr} {ta tb te tf : RE} {pos pos' apos cpos p : Pos} {x : Str}
variable {es : List Expr} {tr : RA}
end
section
variable {X : Cx} {H0 : Hp} {c : Expr} {body : List Stmt} {tc : RT} {tb : RS} {pos : Pos}
end
section
variable {K : PySem.W.Frag} {H0 : Hp} {σ : L2.St} {δ : List Sl} {G H : Hp}
end
section
variable {P : Program} {w : World} {K : PySem.W.Frag} {mg : Str -> Option Value} {base : Heap}
end
section
variable {X : Cx} {H0 : Hp} {pins : List (Addr × Obj)} {σ : L2.St} {δ : List Sl} {G H : Hp} {s : Shared}
end
section
variable {X : Cx} {H0 : Hp} {k : Nat} {x : Str} {sp : Sp3} {e : Expr} {es : List Expr} {t : RE} {tr : RA} {p pos : Pos} {i : Nat}
variable {tg : Expr} {g : RG}
end
section
variable {K : PySem.W.Frag} {H0 : Hp} {σ : L2.St} {δ : List Sl} {G H H' : Hp}
end
section
variable {X : Cx} {H0 : Hp} {k : Nat} {fx : Str} {sp : Sp2} {e : Expr} {te : RE} {p p2 pos kp : Pos} {S : SR}
end
section
variable {X : Cx} {H0 : Hp} {a b e : Expr} {ta tb : RE} {pos : Pos}
theorem n_cat (ha : QB X H0 a ta) (hb : QB X H0 b tb) : QN X H0 (.BinOp a .Add b pos) (rCat2 ta tb) :=
  ⟨M.n_cat ha.run hb.run⟩
variable {x : Str} {p apos cpos : Pos}
end
section
variable {prog : Program} {w : World} {A : Around} {E : Value -> Shared -> Prop} {s : Shared}
end
section
variable {X : Cx} {pins : List (Addr × Obj)} {σ : L2.St} {H : Hp} {s : Shared}
end
section
variable {X : Cx} {H0 : Hp} {e : Expr} {es : List Expr} {tr : RA} {pos p : Pos}
end
section
variable {K : PySem.W.Frag} {H0 : Hp} {σ : L2.St} {δ : List Sl} {G H : Hp}
end
section
variable {X : Cx} {H0 : Hp} {tg : Expr} {g : RG} {body : List Stmt} {tb : RS} {pos p : Pos} {x : Str}
end
section
variable {X : Cx} {pins : List (Addr × Obj)} {σ : L2.St} {H : Hp} {s : Shared} {h' : Heap}
end
section
variable {X : Cx} {H0 : Hp}
variable {ts : List Expr} {k : Nat} {tp p pos pos2 : Pos} {a b : Expr} {tr : RA} {g : RG} {tb : RS} {body : List Stmt}
end
section
variable {X : Cx} {H0 : Hp} {pins : List (Addr × Obj)} {σ : L2.St} {H : Hp} {s : Shared}
variable {e : Expr} {es : List Expr} {tr : RA} {p pos : Pos}
variable {k i : Nat} {x : Str} {sp : Sp3} {b1 b2 : List Stmt} {t u : RS} {p2 p3 p4 : Pos}
end
section
variable {K : PySem.W.Frag} {H0 : Hp} {σ : L2.St} {δ : List Sl} {G H : Hp}
end
section
variable {X : Cx} {H0 : Hp} {nT : Nat} {x : Str} {pos : Pos} {e : Expr} {es : List Expr}
theorem gp_name (i : Nat) (hlt : i < nT) (hN : X.N.Nodup) (hi : X.N[i]? = some x := by rfl) (hx : Loc X.env.scope x := by first | exact Or.inl rfl | exact Or.inr rfl) (hf : X.fn x = true \/ X.env.scope.names.lookup x = some .local := by first | exact .inl rfl | exact .inr rfl | assumption) : QGp X H0 nT (.Name x pos) (gpSet i) :=
  ⟨M.gp_name i hlt hN hi hx hf⟩
variable {g : RGp} {gs : RGsp}
theorem if_nil  : QIf X H0 [] rTrue :=
  ⟨M.if_nil ⟩
variable {target iter elt : Expr} {ifs : List Expr} {scope : Scope} {N' : List Str} {te tel : RE} {tc : RT}
end
section
variable {X : Cx} {H0 : Hp} {nT : Nat} {pos : Pos} {g : RGp} {target iter elt : Expr} {ifs : List Expr} {scope : Scope} {N' : List Str} {te tel : RE} {tc : RT}
end
section
variable {X : Cx} {H0 : Hp} {nT : Nat} {pos : Pos} {g : RGp} {target iter kx vx : Expr} {ifs : List Expr} {scope : Scope} {N' : List Str} {te tk tv : RE} {tc : RT}
end
section
variable {X : Cx} {H0 : Hp} {o e : Expr} {ta te : RE} {apos cpos : Pos}
end
section
variable {X : Cx} {scope : Scope} {N' : List Str} {target iter kx vx : Expr} {ifs : List Expr} {pos : Pos} {g : TG} {tc : TT} {tk tv : TE} {nT : Nat} {wi : TI}
end
section
variable {X : Cx} {H0 : Hp} {nT : Nat} {pos : Pos} {g : RGp} {target iter kx vx : Expr} {ifs : List Expr} {scope : Scope} {N' : List Str} {te tk tv : RE} {tc : RT}
end
section
variable {X : Cx} {H0 : Hp} {a b : Expr} {p p2 pos pos2 : Pos}
end
section
variable {K : PySem.W.Frag} {H0 : Hp} {σ : L2.St} {δ : List Sl} {G H G1 H1 : Hp} {i : Nat} {d : D} {p : Addr}
end
section
variable {X : Cx} {H0 : Hp} {e : Expr} {t : RE} {u : RT}
end
section
variable {X : Cx} {H0 : Hp} {x y : Str} {pos p1 p2 p3 : Pos} {k : Nat}
variable {f : Str} {sp : Sp2} {e : Expr} {es : List Expr} {tr : RA} {p : Pos}
end
section
variable {X : Cx} {pins : List (Addr × Obj)} {σ : L2.St} {H : Hp} {s : Shared} {a : Addr} {kws : List (Key × V)} {ob : Obj}
end
section
variable {X : Cx} {tg : Expr}
end
section
variable {X : Cx} {H0 : Hp} {tg : Expr} {g : RG} {body : List Stmt} {tb : RS} {pos p : Pos} {x : Str}
end
section
variable {prog : Program} {w : World} {A : Around} {E : Value -> Shared -> Prop} {s : Shared}
end
section
variable {X : Cx} {H0 : Hp} {e : Expr} {es : List Expr} {tr : RA} {pos p : Pos}
end
section
variable {X : Cx} {H0 : Hp} {e value : Expr} {te tv : RE} {pos pos' cpos apos p : Pos} {x : Str}
end
section
variable {X : Cx} {H0 : Hp} {ts : List Expr} {k : Nat} {tp p p2 pos pos2 : Pos} {a : Expr} {ta : RE} {g : RG} {tb : RS} {body : List Stmt} {x : Str}
end
section
variable {K : PySem.W.Frag} {H0 : Hp} {σ : L2.St} {δ : List Sl} {G H : Hp}
end
section
variable {X : Cx} {H0 : Hp} {e e1 e2 : Expr} {t t1 t2 : RE} {pos p1 p3 : Pos} {k3 : Nat} {x : Str}
end
section
variable {X : Cx} {H0 : Hp} {f x : Str} {sp : Sp2} {e : Expr} {es : List Expr} {tr : RA} {k : Nat} {p p1 pos p5 : Pos}
end
section
variable {K : PySem.W.Frag} {H0 : Hp} {σ : L2.St} {δ : List Sl} {G H : Hp} {i k g : Nat} {q : Addr} {ds : List D} {y : D}
end
section
variable {X : Cx} {H0 : Hp} {e : Expr} {t : RE} {u : RT}
end
section
variable {X : Cx} {H0 : Hp} {e : Expr} {te : RE} {pos cpos apos p ps pk : Pos} {x : Str} {kc : Nat}
end
section
variable {X : Cx} {H0 : Hp} {f x : Str} {sp : Sp2} {e : Expr} {es : List Expr} {tr : RA} {k : Nat} {p p1 pos p5 : Pos}
end
section
variable {X : Cx} {H0 : Hp} {e a : Expr} {te ta : RE} {pos pos' cpos apos p p2 p3 p4 p5 p6 : Pos} {x f : Str} {j : Nat}
end
end Wr
end M
namespace My
open PySem L2 M
def top (i : Nat) : Stmt := PySem.Challenge.pw_feastfall_k57_refusals_by_their_classes.main.body.getD i (.Pass ⟨0, 0, 0, 0⟩)
abbrev Zf : Stmt := top 15
abbrev Zo : List Str := ["_law_script", "_law_place"]
theorem Zh : FnScope Zo ["_law_script", "_law_place"] (defScope Zf) := ⟨rfl, rfl, rfl, by decide +kernel, rfl, by decide +kernel, by decide +kernel⟩
abbrev Zl : Stmt := top 16
abbrev Zn : List Str := ["_law_cell_here", "_law_one", "_law_two"]
theorem Zk : FnScope Zn ["_law_cell_here"] (defScope Zl) := ⟨rfl, rfl, rfl, by decide +kernel, rfl, by decide +kernel, by decide +kernel⟩
abbrev Z5 : Stmt := top 17
abbrev Zb : List Str := ["_law_cell_here", "_law_sizes", "_law_rest", "_law_found", "_law_k", "_law_size"]
theorem Z8 : FnScope Zb ["_law_cell_here", "_law_sizes"] (defScope Z5) := ⟨rfl, rfl, rfl, by decide +kernel, rfl, by decide +kernel, by decide +kernel⟩
abbrev Za : Stmt := top 18
abbrev Ze : List Str := ["_law_thing"]
theorem Z9 : FnScope Ze ["_law_thing"] (defScope Za) := ⟨rfl, rfl, rfl, by decide +kernel, rfl, by decide +kernel, by decide +kernel⟩
abbrev Z3 : Stmt := top 19
abbrev Z4 : List Str := ["_law_e", "_law_first", "_law_second", "_law_third"]
theorem Z1 : FnScope Z4 ["_law_e"] (defScope Z3) := ⟨rfl, rfl, rfl, by decide +kernel, rfl, by decide +kernel, by decide +kernel⟩
abbrev Zs : Stmt := top 20
abbrev Zv : List Str := ["_law_script", "_law_parts", "_law_place", "_law_sign", "_law_small", "_law_far", "_law_kept", "_law_other", "_law_one", "_law_some", "_law_k", "_law_e"]
theorem Zt : FnScope Zv ["_law_script"] (defScope Zs) := ⟨rfl, rfl, rfl, by decide +kernel, rfl, by decide +kernel, by decide +kernel⟩
theorem Zp : (["_law_place", "0acc", "0_law_script", "0_law_parts", "0_law_place", "0_law_sign", "0_law_small", "0_law_far", "0_law_kept", "0_law_other", "0_law_one", "0_law_some", "_law_k", "0_law_e"] : List Str).Nodup := by decide +kernel
def Zj : Sp2 := fun ds Q => ∃ c : Int, ds = [.int c] /\ ∀ v : Int, Q (.val (.int v))
def Zi : Sp2 := fun ds Q => ∃ (ns : List Int) (i : Int), ds = [.lst (ns.map D.int), .int i] /\ 0 <= i /\ ∀ v : Int, Q (.val (.int v))
def Z7 : Sp2 := fun ds Q => ∃ (c : Int) (sizes : List Int), ds = [.int c, .lst (sizes.map D.int)] /\ (∀ s ∈ sizes, 0 < s /\ s < 2 ^ 200) /\ sizes.length <= 100 /\ ∀ out, Drawn out sizes -> Q (.new (.lst (out.map D.int)))
section
variable {P : Program} {w : World} {K : PySem.W.Frag} {mg : Str -> Option Value} {base : Heap}
theorem Zg {f : Addr} {fd : FuncData} (F : Fun K "_law_cell" "_law_cell" Zf f fd)  (z_len : mg "len" = none)  : FnOk P w K mg base CX0 (0 + 1) f fd ["_law_script", "_law_place"] (liftSp K Zi) := by
  refine Wr.fun_ok F Zh (by rintro ds Qd ⟨ns, i, rfl, _⟩; rfl) (fun cdv A outer s H E hr ds Qd h => ?_); obtain ⟨ns, i, rfl, hi, q⟩ := h; obtain ⟨n, rfl⟩ := Int.eq_ofNat_of_zero_le hi
  refine ⟨_, (Wr.s_cons (Wr.s_if (Wr.t_cmp op_lt lf_lt (Wr.b_var 1) (Wr.PE2_bo (Wr.e_len z_len (Wr.ab_cons (Wr.b_var 0) Wr.ab_nil))) (nomark _)) (Wr.s_one (Wr.s_ret (Wr.e_ix (Wr.b_var 0) (Wr.b_var 1))))
      Wr.s_nil) (Wr.s_one (Wr.s_ret (Wr.e_int)))), ?_⟩
  exact if_p (p := (n : Int) < ((ns.map D.int).length : Int)) (fun Q q => q) (fun hlt => ⟨_, atI_map (by rw [List.length_map] at hlt; omega), q _⟩) (fun _ => q _)
theorem Zm {f : Addr} {fd : FuncData} (F : Fun K "_law_seed" "_law_seed" Zl f fd)   : FnOk P w K mg base CX0 (0 + 1) f fd ["_law_cell_here"] (liftSp K Zj) := by
  refine Wr.fun_ok F Zk (by rintro ds Qd ⟨c, rfl, _⟩; rfl) (fun cdv A outer s H E hr ds Qd h => ?_); obtain ⟨c, rfl, q⟩ := h
  refine ⟨_, (Wr.s_cons (Wr.s_if (Wr.t_cmp op_ge lf_ge (Wr.b_var 0) (Wr.PE2_bo (Wr.e_pow (Wr.PE2_bo (Wr.e_int)) (Wr.PE2_bo (Wr.e_int)))) (nomark _)) (Wr.s_one (Wr.s_ret (Wr.e_var 0)))
      Wr.s_nil) (Wr.s_cons (Wr.s_set 1 Zk.nd (Wr.e_mod (Wr.PE2_bo (Wr.e_mul (Wr.PE2_bo (Wr.e_mod (Wr.PE2_bo (Wr.e_add (Wr.PE2_bo (Wr.e_mul (Wr.b_var 0) (Wr.PE2_bo (Wr.e_int)))) (Wr.PE2_bo (Wr.e_int)))) (Wr.PE2_bo (Wr.e_int)))) (Wr.PE2_bo (Wr.e_int)))) (Wr.PE2_bo (Wr.e_int)))) (Wr.s_cons (Wr.s_set 2 Zk.nd (Wr.e_mod (Wr.PE2_bo (Wr.e_mul (Wr.PE2_bo (Wr.e_mod (Wr.PE2_bo (Wr.e_add (Wr.PE2_bo (Wr.e_mul (Wr.b_var 0) (Wr.PE2_bo (Wr.e_int)))) (Wr.PE2_bo (Wr.e_int)))) (Wr.PE2_bo (Wr.e_int)))) (Wr.PE2_bo (Wr.e_int)))) (Wr.PE2_bo (Wr.e_int)))) (Wr.s_one (Wr.s_ret (Wr.e_add (Wr.PE2_bo (Wr.e_mul (Wr.b_var 1) (Wr.PE2_bo (Wr.e_int)))) (Wr.b_var 2))))))), ?_⟩
  exact if_by (fun Q q => ⟨cpow, q⟩) (fun _ => q _) (fun _ => ⟨cmulR, cpos, cmulR, cpos, cmulR, cpos, cmulR, cpos, cmulR, q _⟩)
theorem Z6 {f : Addr} {fd : FuncData} (F : Fun K "_law_digits" "_law_digits" Z5 f fd) (Y4 : Fn2 P w K mg base 1 "_law_seed" Zj) (z_enumerate : mg "enumerate" = none)  : FnOk P w K mg base CX0 (1 + 1) f fd ["_law_cell_here", "_law_sizes"] (liftSp K Z7) := by
  refine Wr.fun_ok F Z8 (by rintro ds Qd ⟨c, ss, rfl, _⟩; rfl) (fun cdv A outer s H E hr ds Qd h => ?_); obtain ⟨c, sizes, rfl, hpos, hlen, q⟩ := h
  refine ⟨_, (Wr.s_cons (Wr.s_set 2 Z8.nd (Wr.e_call Y4 hr (Wr.a_cons (Wr.e_var 0) Wr.a_nil))) (Wr.s_cons (Wr.s_setN 3 Z8.nd (Wr.n_lst Wr.a_nil)) (Wr.s_cons (Wr.s_forE PassesOwn.never rfl rfl z_enumerate (Wr.a_cons (Wr.e_var 1) Wr.a_nil) (Wr.g_tup (n := 2) rfl (Wr.gs_cons (Wr.g_name 4 Z8.nd) (Wr.gs_cons (Wr.g_name 5 Z8.nd) Wr.gs_nil))) (Wr.s_cons (Wr.s_if (Wr.t_cmp op_lt lf_lt (Wr.b_var 2) (Wr.b_var 5) (nomark _)) (Wr.s_one (Wr.s_set 2 Z8.nd (Wr.e_call Y4 hr (Wr.a_cons (Wr.e_add (Wr.PE2_bo (Wr.e_add (Wr.b_var 2) (Wr.PE2_bo (Wr.e_mul (Wr.PE2_bo (Wr.e_int)) (Wr.b_var 4))))) (Wr.PE2_bo (Wr.e_mod (Wr.b_var 0) (Wr.PE2_bo (Wr.e_int))))) Wr.a_nil))))
      Wr.s_nil) (Wr.s_cons (Wr.s_app 3 (Wr.e_mod (Wr.b_var 2) (Wr.b_var 5))) (Wr.s_one (Wr.s_set 2 Z8.nd (Wr.e_fdiv (Wr.b_var 2) (Wr.b_var 5))))))) (Wr.s_one (Wr.s_retO 3))))), ?_⟩
  refine ⟨_, rfl, fun r0 => ⟨Nat.zero_le _, ?_⟩⟩
  refine loop_ind (fun ds δ => ∃ (k : Nat) (rest : Int) (acc done ss : List Int), ds = enumD k (ss.map D.int) /\ δ = [.fr (.int c), .fr (.lst (sizes.map D.int)), .fr (.int rest), .ow (.lst (acc.map D.int)), .un, .un] /\
    Drawn acc done /\ sizes = done ++ ss /\ acc.length + ss.length <= 100) ?_ ?_ _ _ ⟨0, r0, [], [], sizes, rfl, rfl, .nil, rfl, by simpa using hlen⟩
  · rintro δ ⟨k, rest, acc, done, ss, e, rfl, hd, hs, _⟩
    cases ss with
    | cons s ss => cases e
    | nil => exact q acc (by rw [hs, List.append_nil]; exact hd)
  · rintro d r δ L hL ⟨k, rest, acc, done, ss, e, rfl, hd, hs, hl⟩
    cases ss with
    | nil => cases e
    | cons s ss =>
      have e1 : d = .tup [.int k, .int s] := by cases e; rfl
      have e2 : r = enumD (k + 1) (ss.map D.int) := by cases e; rfl
      subst e1 e2; have hs' := hpos s (by rw [hs]; simp); have hlen2 : (acc.map D.int).length < sizeLine := by rw [List.length_map]; simp at hl; exact small1000 (by omega)
      have fin : ∀ r' : Int, L [.fr (.int c), .fr (.lst (sizes.map D.int)), .fr (.int (r' / s)), .ow (.lst (acc.map D.int ++ [.int (r' % s)])), .fr (.int k), .fr (.int s)] := fun r' =>
        hL _ _ ⟨k + 1, r' / s, acc ++ [r' % s], done ++ [s], ss, rfl, rfl, hd.snoc (Int.emod_nonneg _ (by omega)) (Int.emod_lt_of_pos _ hs'.1), by simp [hs], by simp at hl ⊢; omega⟩ (by rw [List.map_append]; repeat constructor)
      refine ⟨rfl, if_by (fun Q q => q) (fun _ => ⟨cmulL, cpos, _, rfl, fun v => ⟨hs'.1, hlen2, hs', fin v⟩⟩) (fun _ => ⟨hs'.1, hlen2, hs', fin rest⟩)⟩
def Zc : Sp2 := fun ds Q => ∃ i : Int, ds = [.int i] /\ Q (.val (.bl true))
theorem Zd {f : Addr} {fd : FuncData} (F : Fun K "_law_whole" "_law_whole" Za f fd)  (z_isinstance : mg "isinstance" = none) (z_bool : mg "bool" = none) (z_int : mg "int" = none)  : FnOk P w K mg base CX0 (0 + 1) f fd ["_law_thing"] (liftSp K Zc) := by
  refine Wr.fun_ok F Z9 (by rintro ds Qd ⟨i, rfl, _⟩; rfl) (fun cdv A outer s H E hr ds Qd h => ?_); obtain ⟨i, rfl, q⟩ := h; refine ⟨_, (Wr.s_one (Wr.s_ret (Wr.e_and (Wr.e_isi (kind_int _) z_isinstance z_int (Wr.b_var 0)) (Wr.e_one (Wr.e_not (Wr.e_isi (kind_bool _) z_isinstance z_bool (Wr.b_var 0))))))), ?_⟩; exact ret_by (andV_tt (fun Q q => q) (fun Q q => q)) q
section
open Wr
variable {X : Cx} {H0 : Hp} {C f : Addr} {k : Nat} {fd : FuncData} {ps : List Str} {x : Str} {e a1 : Expr} {es : List Expr} {tr : RA} {te tel : RE} {p p2 pos pos2 : Pos} {bm : List Value} {c : Str} {C' : Addr} {Ty : String} {T : Addr -> Bool -> Prop} {nT : Nat} {N' : List Str} {scope : Scope} {target elt : Expr} {ifs : List Expr} {tc : RT} {g : RGp}
theorem w_makeX {fs : List Str} (Mx : ErrI X.base C f) (F : FnOk X.prog X.w X.K X.mg X.base CX0 k f fd ps (spInit C fs)) (hr : Room (k + 1) X.A) (hb : Binds X.K fd ps []) (hl : fs.length <= 1000) (hm : X.mg x = some (.ref C)) (hk : PySem.W.keepIn X.K (.ref C) = true) (ha : QA X H0 (e :: es) tr) (hg : Gl X x := by rfl) (hdb : (x == ("__debug__" : Str)) = false := by decide)
 (he : starEach (e :: es) X.env = (false, eval e X.env) :: starEach es X.env := by rfl) (hpl : (backTo pos (starEach es X.env)).any (·.1) = false := by rfl) : QE X H0 (.Call (.Name x p) (e :: es) [] pos) (rMakeX C fs tr) := ⟨e_makeX Mx F hr hb hl hm hk ha.run hg hdb he hpl⟩
theorem w_newX (Er : Err X.K X.mg X.base x C bm) (hk : PySem.W.keepIn X.K (.ref C) = true) (ha : QA X H0 (e :: es) tr) (hg : Gl X x := by rfl) (hdb : (x == ("__debug__" : Str)) = false := by decide)
 (he : starEach (e :: es) X.env = (false, eval e X.env) :: starEach es X.env := by rfl) (hpl : (backTo pos (starEach es X.env)).any (·.1) = false := by rfl) : QE X H0 (.Call (.Name x p) (e :: es) [] pos) (rNewX C tr) := ⟨e_newX Er hk ha.run hg hdb he hpl⟩
theorem w_isiXO (hT : IsiT X.K (.ref C') T) (hmc : X.mg c = some (.ref C')) (hm : X.mg "isinstance" = none) (ha : QE X H0 e te) (hg : Gl X "isinstance" := by rfl) (hg2 : Gl X c := by rfl) (hdb : (c == ("__debug__" : Str)) = false := by decide)
 (he : starEach (e :: [.Name c p2]) X.env = (false, eval e X.env) :: starEach [.Name c p2] X.env := by rfl) (he2 : starEach [.Name c p2] X.env = (false, eval (.Name c p2) X.env) :: starEach [] X.env := by rfl)
 (hpl : (backTo pos (starEach [.Name c p2] X.env)).any (·.1) = false := by rfl) : QE X H0 (.Call (.Name "isinstance" p) [e, .Name c p2] [] pos) (rIsiX T te) := ⟨e_isiXO hT hmc hm ha.run hg hg2 hdb he he2 hpl⟩
theorem w_isiXB (hT : IsiT X.K (.type Ty) T) (hmc : X.mg c = none) (hm : X.mg "isinstance" = none) (ha : QE X H0 e te) (hv : bootBuiltins c = some (.type Ty) := by rfl) (hg : Gl X "isinstance" := by rfl) (hg2 : Gl X c := by rfl) (hn : c ≠ "__name__" := by decide) (hdb : (c == ("__debug__" : Str)) = false := by decide)
 (he : starEach (e :: [.Name c p2]) X.env = (false, eval e X.env) :: starEach [.Name c p2] X.env := by rfl) (he2 : starEach [.Name c p2] X.env = (false, eval (.Name c p2) X.env) :: starEach [] X.env := by rfl)
 (hpl : (backTo pos (starEach [.Name c p2] X.env)).any (·.1) = false := by rfl) : QE X H0 (.Call (.Name "isinstance" p) [e, .Name c p2] [] pos) (rIsiX T te) := ⟨e_isiXB hT hmc hm ha.run hv hg hg2 hn hdb he he2 hpl⟩
theorem w_fldX {f : Str} (ha : QE X H0 e te) (hb : attributeBase e f X.env (eval e X.env) = eval e X.env := by rfl) : QE X H0 (.Attribute e f pos) (rFldX X.K f te) := ⟨e_fldX ha.run hb⟩
theorem w_compR (ok : CompOk X scope nT N') (hgl : Gl X "range") (hm : X.mg "range" = none) (ha : QA X H0 [a1] tr) (hg : ∀ s3 H3 C cl fp, QGp (compX X scope N' s3 H3 C cl fp) H0 nT target g) (hif : ∀ s3 H3 C cl fp, QIf (compX X scope N' s3 H3 C cl fp) H0 ifs tc) (hel : ∀ s3 H3 C cl fp, QE (compX X scope N' s3 H3 C cl fp) H0 elt tel) (hst : starEach [a1] X.env = [(false, eval a1 X.env)] := by rfl)
 (hs : ∀ x, foldedSetIterable (.Call (.Name "range" p) [a1] [] pos2) X.env x = pure x := by intro _; rfl) : QN X H0 (.ListComp elt [⟨target, .Call (.Name "range" p) [a1] [] pos2, ifs, 0⟩] scope pos) (rCompR nT tr g tc tel) := ⟨n_compR ok hgl hm ha.run (fun a b c d e => (hg a b c d e).run) (fun a b c d e => (hif a b c d e).run) (fun a b c d e => (hel a b c d e).run) hst hs⟩
end
abbrev bmVE : List Value := [.type "ValueError", .type "Exception", .type "BaseException", .type "object"]
def errB (K : PySem.W.Frag) (C : Addr) : Bool := PySem.W.hasDictIn K C && PySem.W.findIn K (.ref C) "__getattribute__" == some (some (.builtin "BaseException.__getattribute__")) && PySem.W.findIn K (.ref C) "__getattr__" == some none && PySem.W.findIn K (.ref C) "__class__" == some (some (.builtin "object.__class__")) &&
  PySem.W.specialIn K (.builtin "object.__class__") "__get__" == some (some (.builtin "getset_descriptor.__get__")) && PySem.W.takesIn K (.builtin "object.__class__") == some true && PySem.W.mroIn K C (.type "object") == some true && PySem.W.mroIn K C (.type "BaseException") == some true
theorem errB_ok {K : PySem.W.Frag} {C : Addr} (h : errB K C = true) : ErrK K C := by
  unfold errB at h; simp only [Bool.and_eq_true, beq_iff_eq] at h; obtain ⟨⟨⟨⟨⟨⟨⟨h1, h2⟩, h3⟩, h4⟩, h5⟩, h6⟩, h7⟩, h8⟩ := h; exact ⟨h1, h2, h3, h4, h5, h6, h7, h8⟩
def kit (K : PySem.W.Frag) (cs : List Addr) (i : Nat) (C : Addr) : Nat -> Bool := fun j => match cs[j]? with
  | some C' => PySem.W.kitOne K (.ref C) (.ref C') == some (i == j)
  | none => true
def chk1 (K : PySem.W.Frag) (cs : List Addr) (CF : Addr) : Nat -> Bool := fun i => match cs[i]? with
  | some C => errB K C && (List.range cs.length).all (kit K cs i C) && PySem.W.kitOne K (.ref C) (.ref CF) == some true && PySem.W.kitOne K (.ref C) (.type "ValueError") == some true && PySem.W.kitOne K (.ref C) (.type "IndexError") == some false && PySem.W.kitOne K (.ref C) (.type "KeyError") == some false
  | none => true
def chk (K : PySem.W.Frag) (cs : List Addr) (CF : Addr) : Bool := (List.range cs.length).all (chk1 K cs CF)
theorem chk_ok {K : PySem.W.Frag} {cs : List Addr} {CF : Addr} (h : chk K cs CF = true) {i : Nat} {C : Addr} (e : cs[i]? = some C) : ErrK K C /\ (∀ j C', cs[j]? = some C' -> PySem.W.kitOne K (.ref C) (.ref C') = some (i == j)) /\ PySem.W.kitOne K (.ref C) (.ref CF) = some true /\ PySem.W.kitOne K (.ref C) (.type "ValueError") = some true /\ PySem.W.kitOne K (.ref C) (.type "IndexError") = some false /\ PySem.W.kitOne K (.ref C) (.type "KeyError") = some false := by
  have lt : ∀ {k : Nat} {c : Addr}, cs[k]? = some c -> k ∈ List.range cs.length := fun z => List.mem_range.mpr (List.getElem?_eq_some_iff.mp z).1
  have h1 := List.all_eq_true.mp h i (lt e); unfold chk1 at h1; rw [e] at h1; simp only [Bool.and_eq_true, beq_iff_eq] at h1; obtain ⟨⟨⟨⟨⟨h1, h2⟩, h3⟩, h4⟩, h5⟩, h6⟩ := h1; refine ⟨errB_ok h1, fun j C' e' => ?_, h3, h4, h5, h6⟩; have h7 := List.all_eq_true.mp h2 j (lt e'); unfold kit at h7; rw [e'] at h7; exact beq_iff_eq.mp h7
structure Tw (K : PySem.W.Frag) (mg : Str -> Option Value) (Cx0 Cx1 Cx2 Cx3 Cx4 Cx5 Cx6 Cx7 Cx8 Cx9 Cx10 Cx11 CF : Addr) : Prop where
  m0 : mg "NoDay" = some (.ref Cx0)
  k0 : PySem.W.keepIn K (.ref Cx0) = true
  m1 : mg "NoYear" = some (.ref Cx1)
  k1 : PySem.W.keepIn K (.ref Cx1) = true
  m2 : mg "BadYear" = some (.ref Cx2)
  k2 : PySem.W.keepIn K (.ref Cx2) = true
  m3 : mg "BadDay" = some (.ref Cx3)
  k3 : PySem.W.keepIn K (.ref Cx3) = true
  m4 : mg "BadFeast" = some (.ref Cx4)
  k4 : PySem.W.keepIn K (.ref Cx4) = true
  m5 : mg "Taken" = some (.ref Cx5)
  k5 : PySem.W.keepIn K (.ref Cx5) = true
  m6 : mg "NoFeast" = some (.ref Cx6)
  k6 : PySem.W.keepIn K (.ref Cx6) = true
  m7 : mg "NoOrder" = some (.ref Cx7)
  k7 : PySem.W.keepIn K (.ref Cx7) = true
  m8 : mg "NoBack" = some (.ref Cx8)
  k8 : PySem.W.keepIn K (.ref Cx8) = true
  m9 : mg "NoForth" = some (.ref Cx9)
  k9 : PySem.W.keepIn K (.ref Cx9) = true
  m10 : mg "NoStand" = some (.ref Cx10)
  k10 : PySem.W.keepIn K (.ref Cx10) = true
  m11 : mg "Sealed" = some (.ref Cx11)
  k11 : PySem.W.keepIn K (.ref Cx11) = true
  mF : mg "FeastError" = some (.ref CF)
  ck : chk K [Cx0, Cx1, Cx2, Cx3, Cx4, Cx5, Cx6, Cx7, Cx8, Cx9, Cx10, Cx11] CF = true
  xo : PySem.W.XoK K Cx11
  n1 : NoAttr K Cx11 "number"
  n2 : NoAttr K Cx11 "year"
  n3 : NoAttr K Cx11 "day"
def TI (cs : List Addr) (j : Nat) (C : Addr) (b : Bool) : Prop := ∃ i : Nat, cs[i]? = some C /\ b = (i == j)
def TB (cs : List Addr) (v : Bool) (C : Addr) (b : Bool) : Prop := (∃ i : Nat, cs[i]? = some C) /\ b = v
section
variable {K : PySem.W.Frag} {mg : Str -> Option Value} {Cx0 Cx1 Cx2 Cx3 Cx4 Cx5 Cx6 Cx7 Cx8 Cx9 Cx10 Cx11 CF : Addr}
theorem Tw.t (tw : Tw K mg Cx0 Cx1 Cx2 Cx3 Cx4 Cx5 Cx6 Cx7 Cx8 Cx9 Cx10 Cx11 CF) {j : Nat} {C' : Addr} (h : [Cx0, Cx1, Cx2, Cx3, Cx4, Cx5, Cx6, Cx7, Cx8, Cx9, Cx10, Cx11][j]? = some C') : IsiT K (.ref C') (TI [Cx0, Cx1, Cx2, Cx3, Cx4, Cx5, Cx6, Cx7, Cx8, Cx9, Cx10, Cx11] j) := fun C b ⟨i, e, q⟩ => ⟨(chk_ok tw.ck e).1, by rw [(chk_ok tw.ck e).2.1 j C' h, q]⟩
theorem Tw.tF (tw : Tw K mg Cx0 Cx1 Cx2 Cx3 Cx4 Cx5 Cx6 Cx7 Cx8 Cx9 Cx10 Cx11 CF) : IsiT K (.ref CF) (TB [Cx0, Cx1, Cx2, Cx3, Cx4, Cx5, Cx6, Cx7, Cx8, Cx9, Cx10, Cx11] true) := fun C b ⟨⟨i, e⟩, q⟩ => ⟨(chk_ok tw.ck e).1, by rw [q]; exact (chk_ok tw.ck e).2.2.1⟩
theorem Tw.tV (tw : Tw K mg Cx0 Cx1 Cx2 Cx3 Cx4 Cx5 Cx6 Cx7 Cx8 Cx9 Cx10 Cx11 CF) : IsiT K (.type "ValueError") (TB [Cx0, Cx1, Cx2, Cx3, Cx4, Cx5, Cx6, Cx7, Cx8, Cx9, Cx10, Cx11] true) := fun C b ⟨⟨i, e⟩, q⟩ => ⟨(chk_ok tw.ck e).1, by rw [q]; exact (chk_ok tw.ck e).2.2.2.1⟩
theorem Tw.tI (tw : Tw K mg Cx0 Cx1 Cx2 Cx3 Cx4 Cx5 Cx6 Cx7 Cx8 Cx9 Cx10 Cx11 CF) : IsiT K (.type "IndexError") (TB [Cx0, Cx1, Cx2, Cx3, Cx4, Cx5, Cx6, Cx7, Cx8, Cx9, Cx10, Cx11] false) := fun C b ⟨⟨i, e⟩, q⟩ => ⟨(chk_ok tw.ck e).1, by rw [q]; exact (chk_ok tw.ck e).2.2.2.2.1⟩
theorem Tw.tK (tw : Tw K mg Cx0 Cx1 Cx2 Cx3 Cx4 Cx5 Cx6 Cx7 Cx8 Cx9 Cx10 Cx11 CF) : IsiT K (.type "KeyError") (TB [Cx0, Cx1, Cx2, Cx3, Cx4, Cx5, Cx6, Cx7, Cx8, Cx9, Cx10, Cx11] false) := fun C b ⟨⟨i, e⟩, q⟩ => ⟨(chk_ok tw.ck e).1, by rw [q]; exact (chk_ok tw.ck e).2.2.2.2.2⟩
end
theorem ns_some {K : PySem.W.Frag} {h : Heap} {N : Addr} {m : Str -> Option Value} {n : Str} {v : Value} (X : K.In h) (G : h.Ns N m) (e : PySem.W.nsIn K N n = some (some v)) : m n = some v := by
  obtain ⟨o, es, ep, ho, hd, z, hf⟩ := G; unfold PySem.W.nsIn at e
  split at e
  · next c d es2 n2 sl q =>
    have y := X _ _ q; rw [ho] at y; cases y; cases hd
    split at e
    · next en he =>
      cases e; rw [<- hf]; unfold nsFind findBy; rw [<- Array.find?_toList, he]; rfl
    · split at e <;> cases e
  · cases e
theorem erri_of {K : PySem.W.Frag} {base : Heap} {C CF N f : Addr} {nm q : Str} {bs : List Value} {sn : List Str} {sub : List Value} {ab : Bool} {col : Option Bool} {dd od : Option Addr} {k0 k1 k2 k3 k5 : Option Value} {fd : FuncData} {sl : Array (Option Value)} (X : K.In base)
 (l : K.lookup C = some (excClassObj nm q C N bs (.ref CF :: bmVE) true sn sub ab col dd k0 k1 k2 k3 k5 "ValueError.__new__")) (i : PySem.W.nsIn K N "__init__" = some (some (.ref f))) (o : PySem.W.nsOkIn K N = true) (t : PySem.W.tailIn K bmVE (.ref CF :: bmVE) = true) (lf : K.lookup f = some ⟨.type "function", od, .func fd, sl⟩) : ErrI base C f :=
  ⟨"ValueError", _, _, bmVE, _, N, nm, q, bs, true, sn, sub, ab, col, dd, k0, k1, k2, k3, k5, base.nsMap N, _, PySem.F.excBase_ValueError, X _ _ l, .of_isNs (PySem.W.isNs_of_in X o), ns_some X (.of_isNs (PySem.W.isNs_of_in X o)) i, X _ _ lf, rfl, PySem.W.tail_of_in X t⟩
theorem xok_of {K : PySem.W.Frag} {C CF N : Addr} {nm q : Str} {bs : List Value} {sn : List Str} {sub : List Value} {ab : Bool} {col : Option Bool} {dd : Option Addr} {k0 k1 k2 k3 k5 : Option Value} (l : K.lookup C = some (excClassObj nm q C N bs (.ref CF :: bmVE) true sn sub ab col dd k0 k1 k2 k3 k5 "ValueError.__new__"))
 (sa : PySem.W.findIn K (.ref C) "__setattr__" = some (some (.builtin "object.__setattr__"))) (ga : PySem.W.findIn K (.ref C) "__getattribute__" = some (some (.builtin "BaseException.__getattribute__"))) (gt : PySem.W.findIn K (.ref C) "__getattr__" = some none) : PySem.W.XoK K C := by
  refine ⟨?_, sa, ga, gt⟩; unfold PySem.W.clsIn; rw [l]
  show (PySem.W.veMro bmVE && true) = true
  decide
abbrev stI : Stmt := inClass (top 13) 0
theorem scI : FnScope ["self", "number", "year", "day"] ["self", "number", "year", "day"] (defScope stI) := ⟨rfl, rfl, rfl, by decide +kernel, rfl, by decide +kernel, by decide +kernel⟩
theorem Zq {f C : Addr} {fd : FuncData} (F : Fun K "__init__" "Sealed.__init__" stI f fd) (xo : PySem.W.XoK K C) (n1 : NoAttr K C "number") (n2 : NoAttr K C "year") (n3 : NoAttr K C "day") : FnOk P w K mg base CX0 1 f fd ["self", "number", "year", "day"] (spInit C ["number", "year", "day"]) := by
  refine F.ok scI (fun vs H Q E h => ?_) (fun cdv A outer s H vs Q E hr h => ?_)
  · obtain ⟨a, ys, rfl, hl, _⟩ := h
    show ys.length + 1 = 4
    rw [hl]; rfl
  · obtain ⟨a, ys, rfl, hl, ha, q⟩ := h
    match ys, hl with
    | [y1, y2, y3], _ =>
      refine ⟨_, pss_cons (ps_fx0 (pv 0) (pv 1) rfl) (pss_cons (ps_fx1 (pv 0) (pv 2) rfl) (pss_one (ps_fx1 (pv 0) (pv 3) rfl))), ?_⟩; refine ⟨_, rfl, _, rfl, a, C, rfl, ha, xo, n1, fun dx hd ne => ?_⟩; refine ⟨_, rfl, _, rfl, a, C, dx, _, rfl, by rw [upd_ne ne.symm, upd_same], upd_same, ne, xo, n2, by show 1 < 1000; decide, ?_⟩; rw [upd_upd]; refine ⟨_, rfl, _, rfl, a, C, dx, _, rfl, by rw [upd_ne ne.symm, upd_same], upd_same, ne, xo, n3, by show 2 < 1000; decide, ?_⟩; rw [upd_upd]; exact q dx hd ne
variable {Cx0 Cx1 Cx2 Cx3 Cx4 Cx5 Cx6 Cx7 Cx8 Cx9 Cx10 Cx11 CF : Addr}
def Z0 (cs : List Addr) : Sp2 := fun ds Q => ∃ (i : Nat) (C : Addr) (o : Option (List (Str × V))), ds = [.exc C o] /\ cs[i]? = some C /\ Q (.new (.lst ((List.range 12).map fun j => D.bl (i == j))))
theorem Z2 {f : Addr} {fd : FuncData} (F : Fun K "_law_classes" "_law_classes" Z3 f fd)  (z_isinstance : mg "isinstance" = none) (tw : Tw K mg Cx0 Cx1 Cx2 Cx3 Cx4 Cx5 Cx6 Cx7 Cx8 Cx9 Cx10 Cx11 CF) : FnOk P w K mg base CX0 (0 + 1) f fd ["_law_e"] (liftSp K (Z0 [Cx0, Cx1, Cx2, Cx3, Cx4, Cx5, Cx6, Cx7, Cx8, Cx9, Cx10, Cx11])) := by
  refine Wr.fun_ok F Z1 (by rintro ds Qd ⟨i, C, o, rfl, _⟩; rfl) (fun cdv A outer s H E hr ds Qd h => ?_); obtain ⟨i, C, o, rfl, hi, q⟩ := h
  refine ⟨_, (Wr.s_cons (Wr.s_set 1 Z1.nd (Wr.PN2_fx (Wr.n_lst (Wr.a_cons (w_isiXO (tw.t (j := 0) rfl) tw.m0 z_isinstance (Wr.e_var 0)) (Wr.a_cons (w_isiXO (tw.t (j := 1) rfl) tw.m1 z_isinstance (Wr.e_var 0)) (Wr.a_cons (w_isiXO (tw.t (j := 2) rfl) tw.m2 z_isinstance (Wr.e_var 0)) (Wr.a_cons (w_isiXO (tw.t (j := 3) rfl) tw.m3 z_isinstance (Wr.e_var 0)) Wr.a_nil))))))) (Wr.s_cons (Wr.s_set 2 Z1.nd (Wr.PN2_fx (Wr.n_lst (Wr.a_cons (w_isiXO (tw.t (j := 4) rfl) tw.m4 z_isinstance (Wr.e_var 0)) (Wr.a_cons (w_isiXO (tw.t (j := 5) rfl) tw.m5 z_isinstance (Wr.e_var 0)) (Wr.a_cons (w_isiXO (tw.t (j := 6) rfl) tw.m6 z_isinstance (Wr.e_var 0)) (Wr.a_cons (w_isiXO (tw.t (j := 7) rfl) tw.m7 z_isinstance (Wr.e_var 0)) Wr.a_nil))))))) (Wr.s_cons (Wr.s_set 3 Z1.nd (Wr.PN2_fx (Wr.n_lst (Wr.a_cons (w_isiXO (tw.t (j := 8) rfl) tw.m8 z_isinstance (Wr.e_var 0)) (Wr.a_cons (w_isiXO (tw.t (j := 9) rfl) tw.m9 z_isinstance (Wr.e_var 0)) (Wr.a_cons (w_isiXO (tw.t (j := 10) rfl) tw.m10 z_isinstance (Wr.e_var 0)) (Wr.a_cons (w_isiXO (tw.t (j := 11) rfl) tw.m11 z_isinstance (Wr.e_var 0)) Wr.a_nil))))))) (Wr.s_one (Wr.s_retN (Wr.n_cat (Wr.PN2_bo (Wr.n_cat (Wr.b_var 1) (Wr.b_var 2))) (Wr.b_var 3))))))), ?_⟩
  refine ⟨C, _, o, rfl, ⟨i, hi, rfl⟩, C, _, o, rfl, ⟨i, hi, rfl⟩, C, _, o, rfl, ⟨i, hi, rfl⟩, C, _, o, rfl, ⟨i, hi, rfl⟩, by show 4 <= sizeLine; decide, ?_⟩; refine ⟨C, _, o, rfl, ⟨i, hi, rfl⟩, C, _, o, rfl, ⟨i, hi, rfl⟩, C, _, o, rfl, ⟨i, hi, rfl⟩, C, _, o, rfl, ⟨i, hi, rfl⟩, by show 4 <= sizeLine; decide, ?_⟩; refine ⟨C, _, o, rfl, ⟨i, hi, rfl⟩, C, _, o, rfl, ⟨i, hi, rfl⟩, C, _, o, rfl, ⟨i, hi, rfl⟩, C, _, o, rfl, ⟨i, hi, rfl⟩, by show 4 <= sizeLine; decide, ?_⟩; exact ⟨by show 8 <= sizeLine; decide, by show 12 <= sizeLine; decide, q⟩
def exD (p : Addr × Option (List (Str × V))) : D := .exc p.1 p.2
theorem plain_bls (k : Nat) (bs : List Bool) : plainD (k + 1) (.lst (bs.map D.bl)) = true := by
  simp only [plainD]; rw [List.all_eq_true]; intro x hx; obtain ⟨b, _, rfl⟩ := List.mem_map.mp hx
  cases k <;> rfl
def isK (k : Nat) : D -> D
  | .int i => .bl (false != decide (i = (k : Int)))
  | d => d
theorem rng_is (k : Nat) : ([] : List D) ++ ((rng 0 12).filter fun _ => true).map (isK k) = (List.range 12).map fun j => D.bl (k == j) := by
  have e : ((rng 0 12).filter fun _ => true) = rng 0 12 := List.filter_eq_self.mpr fun _ _ => rfl
  rw [e, List.nil_append]; unfold rng; rw [List.map_map]; refine List.map_congr_left fun j _ => ?_
  show D.bl (false != decide (0 + ((j : Nat) : Int) = (k : Int))) = D.bl (k == j)
  congr 1
  by_cases h : k = j
  · subst h; simp
  · have h2 : ¬ (0 + ((j : Nat) : Int) = (k : Int)) := by omega
    have h3 : (k == j) = false := by simpa using h
    rw [decide_eq_false h2, h3]; rfl
def Zu : Sp2 := fun ds Q => ∃ ns : List Int, ds = [.lst (ns.map D.int)] /\ ns.length <= 63 /\ Q (.val (.bl true))
theorem Zr {f : Addr} {fd : FuncData} (F : Fun K "law" "law" Zs f fd) (Y0 : Fn2 P w K mg base 2 "_law_classes" (Z0 [Cx0, Cx1, Cx2, Cx3, Cx4, Cx5, Cx6, Cx7, Cx8, Cx9, Cx10, Cx11])) (Y1 : Fn2 P w K mg base 2 "_law_digits" Z7) (Y3 : Fn2 P w K mg base 2 "_law_cell" Zi) (Y2 : Fn2 P w K mg base 2 "_law_whole" Zc) (z_enumerate : mg "enumerate" = none) (z_isinstance : mg "isinstance" = none) (z_ValueError : mg "ValueError" = none) (z_KeyError : mg "KeyError" = none) (z_IndexError : mg "IndexError" = none) (z_range : mg "range" = none) (tw : Tw K mg Cx0 Cx1 Cx2 Cx3 Cx4 Cx5 Cx6 Cx7 Cx8 Cx9 Cx10 Cx11 CF) {fI : Addr} {fdI : FuncData} (MI : ErrI base Cx11 fI) (FI : FnOk P w K mg base CX0 1 fI fdI ["self", "number", "year", "day"] (spInit Cx11 ["number", "year", "day"])) (bI : Binds K fdI ["self", "number", "year", "day"] []) (er0 : Err K mg base "NoDay" Cx0 bmVE) (er1 : Err K mg base "NoYear" Cx1 bmVE) (er2 : Err K mg base "BadYear" Cx2 bmVE) (er3 : Err K mg base "BadDay" Cx3 bmVE) (er4 : Err K mg base "BadFeast" Cx4 bmVE) (er5 : Err K mg base "Taken" Cx5 bmVE) (er6 : Err K mg base "NoFeast" Cx6 bmVE) (er7 : Err K mg base "NoOrder" Cx7 bmVE) (er8 : Err K mg base "NoBack" Cx8 bmVE) (er9 : Err K mg base "NoForth" Cx9 bmVE) (er10 : Err K mg base "NoStand" Cx10 bmVE) : FnOk P w K mg base CX0 (2 + 1) f fd ["_law_script"] (liftSp K Zu) := by
  refine Wr.fun_ok F Zt (by rintro ds Qd ⟨ns, rfl, _⟩; rfl) (fun cdv A outer s H E hr ds Qd h => ?_); obtain ⟨ns, rfl, hl, q⟩ := h; have h_tail3 : ∃ t, QSs (cxOf CX0 P w K mg base Zv "law" (defScope Zs) f cdv A outer s H E).nox H ((defBody Zs).drop 9) t /\ ∀ (sc a1 a6 a7 : D) (os : List (Option (List (Str × V)))), os.length = 12 ->
      t { nx := fun _ => Qd (.val .non), rt := fun r _ => Qd r } [.fr sc, .fr a1, .un, .un, .un, .un, .fr a6, .fr a7, .un, .fr (.lst (([Cx0, Cx1, Cx2, Cx3, Cx4, Cx5, Cx6, Cx7, Cx8, Cx9, Cx10, Cx11].zip os).map exD)), .un, .un] := by
    refine ⟨_, (Wr.s_cons (Wr.s_forE PassesOwn.never rfl rfl z_enumerate (Wr.a_cons (Wr.e_var 9) Wr.a_nil) (Wr.g_tup (n := 2) rfl (Wr.gs_cons (Wr.g_name 10 Zt.nd) (Wr.gs_cons (Wr.g_name 11 Zt.nd) Wr.gs_nil))) (Wr.s_cons (Wr.s_if (Wr.PW2_pt (Wr.t_or (Wr.t_not (Wr.t_val (w_isiXO tw.tF tw.mF z_isinstance (Wr.e_var 11)))) (Wr.t_or1 (Wr.t_not (Wr.t_val (w_isiXB tw.tV z_ValueError z_isinstance (Wr.e_var 11))))))) (Wr.s_one (Wr.s_ret (Wr.e_bl)))
      Wr.s_nil) (Wr.s_cons (Wr.s_if (Wr.PW2_pt (Wr.t_or (Wr.t_val (w_isiXB tw.tI z_IndexError z_isinstance (Wr.e_var 11))) (Wr.t_or1 (Wr.t_val (w_isiXB tw.tK z_KeyError z_isinstance (Wr.e_var 11)))))) (Wr.s_one (Wr.s_ret (Wr.e_bl)))
      Wr.s_nil) (Wr.s_one (Wr.s_if (Wr.t_cmp (op_neD hr.units) lf_eqU (Wr.PE2_bo (Wr.e_call Y0 hr (Wr.a_cons (Wr.e_var 11) Wr.a_nil))) (Wr.PN2_bo (w_compR (nT := 1) (N' := ["_law_place", "0acc", "0_law_script", "0_law_parts", "0_law_place", "0_law_sign", "0_law_small", "0_law_far", "0_law_kept", "0_law_other", "0_law_one", "0_law_some", "_law_k", "0_law_e"]) (compOk_mk (defScope Zs) (N := Zv) rfl rfl rfl (by decide +kernel)) rfl z_range (Wr.a_cons (Wr.e_int) Wr.a_nil) (fun _ _ _ _ _ => (Wr.gp_name 0 (by decide) Zp)) (fun _ _ _ _ _ => Wr.if_nil) (fun _ _ _ _ _ => (Wr.e_cmp op_eq lf_eqS (Wr.b_var 0) (Wr.b_var 12) (nomark _))))) (nomark _)) (Wr.s_one (Wr.s_ret (Wr.e_bl)))
      Wr.s_nil))))) (Wr.s_one (Wr.s_ret (Wr.e_bl)))), ?_⟩
    intro sc a1 a6 a7 os ho; refine loop_ind (fun ds δ => ∃ (k : Nat) (ps : List (Addr × Option (List (Str × V)))), ds = enumD k (ps.map exD) /\ (∀ j p, ps[j]? = some p -> [Cx0, Cx1, Cx2, Cx3, Cx4, Cx5, Cx6, Cx7, Cx8, Cx9, Cx10, Cx11][k + j]? = some p.1) /\ δ = [.fr sc, .fr a1, .un, .un, .un, .un, .fr a6, .fr a7, .un, .fr (.lst (([Cx0, Cx1, Cx2, Cx3, Cx4, Cx5, Cx6, Cx7, Cx8, Cx9, Cx10, Cx11].zip os).map exD)), .un, .un]) ?_ ?_ _ _ ⟨0, [Cx0, Cx1, Cx2, Cx3, Cx4, Cx5, Cx6, Cx7, Cx8, Cx9, Cx10, Cx11].zip os, rfl, fun j p e => ?_, rfl⟩
    · rintro δ ⟨k, ps, e, _, rfl⟩
      exact q
    · rintro d r δ L hL ⟨k, ps, e, hp, rfl⟩
      cases ps with
      | nil => cases e
      | cons p ps =>
        obtain ⟨C, o⟩ := p; have e1 : d = .tup [.int k, .exc C o] := by cases e; rfl
        have e2 : r = enumD (k + 1) (ps.map exD) := by cases e; rfl
        subst e1 e2; have hC : [Cx0, Cx1, Cx2, Cx3, Cx4, Cx5, Cx6, Cx7, Cx8, Cx9, Cx10, Cx11][k]? = some C := hp 0 _ rfl; refine ⟨rfl, ?_⟩; refine if_f (or_ff (not_by (b1 := true) (fun Q q => ⟨C, _, o, rfl, ⟨⟨k, hC⟩, rfl⟩, q⟩)) (not_by (b1 := true) (fun Q q => ⟨C, _, o, rfl, ⟨⟨k, hC⟩, rfl⟩, q⟩))) ?_; refine if_f (or_ff (fun Q q => ⟨C, _, o, rfl, ⟨⟨k, hC⟩, rfl⟩, q⟩) (fun Q q => ⟨C, _, o, rfl, ⟨⟨k, hC⟩, rfl⟩, q⟩)) ?_; have pl : plainD 60 (.lst ((List.range 12).map fun j => D.bl (k == j))) = true := by
          have := plain_bls 59 ((List.range 12).map fun j => (k == j)); rw [List.map_map] at this; exact this
        refine if_f (fun Q qq => ⟨k, C, o, rfl, hC, ⟨by decide, by decide⟩, compD_map (p := fun _ => true) (f := isK k) (rng 0 12) _ [] (by show 0 + 12 <= sizeLine; decide) (fun x hx acc => fun Q q => q) (fun x hx _ acc => ?_) ?_⟩) ?_
        · unfold rng at hx
          obtain ⟨j, _, rfl⟩ := List.mem_map.mp hx; exact fun Q q => q
        · rw [rng_is k]
          refine ⟨pl, pl, ?_⟩; rw [eq_self60 pl]; exact qq
        · exact hL _ [.fr sc, .fr a1, .un, .un, .un, .un, .fr a6, .fr a7, .un, .fr (.lst (([Cx0, Cx1, Cx2, Cx3, Cx4, Cx5, Cx6, Cx7, Cx8, Cx9, Cx10, Cx11].zip os).map exD)), .un, .un] ⟨k + 1, ps, rfl, fun j p e => (by have := hp (j + 1) p e; rw [show k + 1 + j = k + (j + 1) by omega]; exact this), rfl⟩ (by repeat constructor)
    · obtain ⟨h1, h2⟩ := List.getElem?_zip_eq_some.mp e
      rw [Nat.zero_add]; exact h1
  obtain ⟨t3, h_rest, h_tail3⟩ := h_tail3
  refine ⟨_, (Wr.s_cons (Wr.s_setN 1 Zt.nd (Wr.n_lst Wr.a_nil)) (Wr.s_cons (Wr.s_forR1 PassesOwn.never rfl rfl z_range (Wr.a_cons (Wr.e_int) Wr.a_nil) (Wr.g_name 2 Zt.nd) (Wr.s_cons (Wr.s_asg (Wr.e_call Y1 hr (Wr.a_cons (Wr.e_call Y3 hr (Wr.a_cons (Wr.e_var 0) (Wr.a_cons (Wr.e_var 2) Wr.a_nil))) (Wr.a_cons (Wr.PN2_fx (Wr.n_lst (Wr.a_cons (Wr.e_int) (Wr.a_cons (Wr.e_int) (Wr.a_cons (Wr.e_pow (Wr.PE2_bo (Wr.e_int)) (Wr.PE2_bo (Wr.e_int))) Wr.a_nil))))) Wr.a_nil))) (Wr.g_lst (n := 3) rfl (Wr.gs_cons (Wr.g_name 3 Zt.nd) (Wr.gs_cons (Wr.g_name 4 Zt.nd) (Wr.gs_cons (Wr.g_name 5 Zt.nd) Wr.gs_nil))))) (Wr.s_cons (Wr.s_if (Wr.t_cmp op_eq lf_eqS (Wr.b_var 4) (Wr.PE2_bo (Wr.e_int)) (nomark _)) (Wr.s_one (Wr.s_set 5 Zt.nd (Wr.e_mod (Wr.b_var 5) (Wr.PE2_bo (Wr.e_int)))))
      Wr.s_nil) (Wr.s_cons (Wr.s_if (Wr.t_cmp op_eq lf_eqS (Wr.b_var 3) (Wr.PE2_bo (Wr.e_int)) (nomark _)) (Wr.s_one (Wr.s_set 5 Zt.nd (Wr.e_neg (Wr.b_var 5))))
      Wr.s_nil) (Wr.s_one (Wr.s_app 1 (Wr.e_var 5))))))) (Wr.s_freeze 1 (Wr.s_cons (Wr.s_set 6 Zt.nd (w_makeX MI FI hr bI (by decide) tw.m11 tw.k11 (Wr.a_cons (Wr.e_ix (Wr.b_var 1) (Wr.PE2_bo (Wr.e_int))) (Wr.a_cons (Wr.e_ix (Wr.b_var 1) (Wr.PE2_bo (Wr.e_int))) (Wr.a_cons (Wr.e_ix (Wr.b_var 1) (Wr.PE2_bo (Wr.e_int))) Wr.a_nil))))) (Wr.s_cons (Wr.s_set 7 Zt.nd (w_makeX MI FI hr bI (by decide) tw.m11 tw.k11 (Wr.a_cons (Wr.e_ix (Wr.b_var 1) (Wr.PE2_bo (Wr.e_int))) (Wr.a_cons (Wr.e_ix (Wr.b_var 1) (Wr.PE2_bo (Wr.e_int))) (Wr.a_cons (Wr.e_ix (Wr.b_var 1) (Wr.PE2_bo (Wr.e_int))) Wr.a_nil))))) (Wr.s_cons (Wr.s_forT PassesOwn.never rfl (Wr.e_tup (Wr.a_cons (w_fldX (Wr.e_var 6)) (Wr.a_cons (w_fldX (Wr.e_var 6)) (Wr.a_cons (w_fldX (Wr.e_var 6)) Wr.a_nil)))) (Wr.g_name 8 Zt.nd) (Wr.s_one (Wr.s_if (Wr.t_not (Wr.t_val (Wr.e_call Y2 hr (Wr.a_cons (Wr.e_var 8) Wr.a_nil)))) (Wr.s_one (Wr.s_ret (Wr.e_bl)))
      Wr.s_nil))) (Wr.s_cons (Wr.s_if (Wr.t_cmp (op_neD hr.units) lf_eqU (Wr.PN2_bo (Wr.n_lst (Wr.a_cons (w_fldX (Wr.e_var 6)) (Wr.a_cons (w_fldX (Wr.e_var 6)) (Wr.a_cons (w_fldX (Wr.e_var 6)) Wr.a_nil))))) (Wr.b_var 1) (nomark _)) (Wr.s_one (Wr.s_ret (Wr.e_bl)))
      Wr.s_nil) (Wr.s_cons (Wr.s_if (Wr.t_cmp (op_neD hr.units) lf_eqU (Wr.PN2_bo (Wr.n_lst (Wr.a_cons (w_fldX (Wr.e_var 7)) (Wr.a_cons (w_fldX (Wr.e_var 7)) (Wr.a_cons (w_fldX (Wr.e_var 7)) Wr.a_nil))))) (Wr.b_var 1) (nomark _)) (Wr.s_one (Wr.s_ret (Wr.e_bl)))
      Wr.s_nil) (Wr.s_cons (Wr.s_set 9 Zt.nd (Wr.PN2_fx (Wr.n_lst (Wr.a_cons (w_newX er0 tw.k0 (Wr.a_cons (Wr.e_str) Wr.a_nil)) (Wr.a_cons (w_newX er1 tw.k1 (Wr.a_cons (Wr.e_str) Wr.a_nil)) (Wr.a_cons (w_newX er2 tw.k2 (Wr.a_cons (Wr.e_str) Wr.a_nil)) (Wr.a_cons (w_newX er3 tw.k3 (Wr.a_cons (Wr.e_str) Wr.a_nil)) (Wr.a_cons (w_newX er4 tw.k4 (Wr.a_cons (Wr.e_str) Wr.a_nil)) (Wr.a_cons (w_newX er5 tw.k5 (Wr.a_cons (Wr.e_str) Wr.a_nil)) Wr.a_nil))))))))) (Wr.s_cons (Wr.s_set 9 Zt.nd (Wr.PN2_fx (Wr.n_cat (Wr.b_var 9) (Wr.PN2_bo (Wr.n_lst (Wr.a_cons (w_newX er6 tw.k6 (Wr.a_cons (Wr.e_str) Wr.a_nil)) (Wr.a_cons (w_newX er7 tw.k7 (Wr.a_cons (Wr.e_str) Wr.a_nil)) (Wr.a_cons (w_newX er8 tw.k8 (Wr.a_cons (Wr.e_str) Wr.a_nil)) (Wr.a_cons (w_newX er9 tw.k9 (Wr.a_cons (Wr.e_str) Wr.a_nil)) (Wr.a_cons (w_newX er10 tw.k10 (Wr.a_cons (Wr.e_str) Wr.a_nil)) (Wr.a_cons (Wr.e_var 6) Wr.a_nil)))))))))))
      h_rest)))))))))), ?_⟩
  refine ⟨Nat.zero_le _, ?_⟩; refine ⟨⟨by decide, by decide⟩, ?_⟩; refine loop_ind (fun ds δ => (∀ d ∈ ds, ∃ i : Int, 0 <= i /\ d = .int i) /\ ∃ acc : List Int, acc.length + ds.length = 3 /\ δ = [.fr (.lst (ns.map D.int)), .ow (.lst (acc.map D.int)), .un, .un, .un, .un, .un, .un, .un, .un, .un, .un]) ?_ ?_ _ _ ⟨?_, [], rfl, rfl⟩
  · rintro δ ⟨_, acc, ha, rfl⟩
    obtain ⟨a, b, c, rfl⟩ : ∃ a b c : Int, acc = [a, b, c] := by
      match acc, ha with
      | [a, b, c], _ => exact ⟨a, b, c, rfl⟩
    have pl : plainD 60 (.lst [.int a, .int b, .int c]) = true := plain_ints 59 [a, b, c]; refine ⟨_, rfl, _, rfl, _, rfl, [a, b, c], rfl, rfl, ?_⟩; refine ⟨_, rfl, _, rfl, _, rfl, [c, a, b], rfl, rfl, ?_⟩; refine ⟨Cx11, _, a, rfl, tw.xo, tw.n1, rfl, Cx11, _, b, rfl, tw.xo, tw.n2, rfl, Cx11, _, c, rfl, tw.xo, tw.n3, rfl, sz3, ?_⟩; refine loop_ind (fun ds δ => (∀ d ∈ ds, ∃ i : Int, d = .int i) /\ δ = [.fr (.lst (ns.map D.int)), .fr (.lst [.int a, .int b, .int c]), .un, .un, .un, .un, .fr (.exc Cx11 (some [("number", .int a), ("year", .int b), ("day", .int c)])), .fr (.exc Cx11 (some [("number", .int c), ("year", .int a), ("day", .int b)])), .un, .un, .un, .un]) ?_ ?_ _ _ ⟨?_, rfl⟩
    · rintro δ ⟨_, rfl⟩
      refine if_f (fun Q q => ⟨Cx11, _, a, rfl, tw.xo, tw.n1, rfl, Cx11, _, b, rfl, tw.xo, tw.n2, rfl, Cx11, _, c, rfl, tw.xo, tw.n3, rfl, sz3, pl, pl, by rw [eq_self60 pl]; exact q⟩) ?_; refine if_f (fun Q q => ⟨Cx11, _, a, rfl, tw.xo, tw.n2, rfl, Cx11, _, b, rfl, tw.xo, tw.n3, rfl, Cx11, _, c, rfl, tw.xo, tw.n1, rfl, sz3, pl, pl, by rw [eq_self60 pl]; exact q⟩) ?_; refine ⟨(by show 1 <= 9; decide), (by show 1 <= 9; decide), (by show 1 <= 9; decide), (by show 1 <= 9; decide), (by show 1 <= 9; decide), (by show 1 <= 9; decide), (by show 6 <= sizeLine; decide), ?_⟩; refine ⟨(by show 1 <= 9; decide), (by show 1 <= 9; decide), (by show 1 <= 9; decide), (by show 1 <= 9; decide), (by show 1 <= 9; decide), (by show 6 <= sizeLine; decide), (by show 12 <= sizeLine; decide), ?_⟩; exact h_tail3 _ _ _ _ [none, none, none, none, none, none, none, none, none, none, none, some _] rfl
    · rintro d r δ L hL ⟨hd, rfl⟩
      obtain ⟨i, rfl⟩ := hd d (.head _); refine if_f (not_by (b1 := true) (fun Q q => ⟨_, rfl, q⟩)) ?_; exact hL _ _ ⟨fun d z => hd d (.tail _ z), rfl⟩ (by repeat constructor)
    · intro d hd
      simp only [List.mem_cons, List.not_mem_nil, or_false] at hd
      rcases hd with rfl | rfl | rfl <;> exact ⟨_, rfl⟩
  · rintro d r δ L hL ⟨hd, acc, ha, rfl⟩
    obtain ⟨i, hi, rfl⟩ := hd d (.head _); simp only [List.length_cons] at ha; have hz : (acc.map D.int).length < sizeLine := by rw [List.length_map]; exact small1000 (by omega)
    have fin : ∀ (v : Int) (x2 x3 x4 : D), L [.fr (.lst (ns.map D.int)), .ow (.lst (acc.map D.int ++ [.int v])), .fr x2, .fr x3, .fr x4, .fr (.int v), .un, .un, .un, .un, .un, .un] := fun v x2 x3 x4 =>
      hL _ [.fr (.lst (ns.map D.int)), .ow (.lst ((acc ++ [v]).map D.int)), .un, .un, .un, .un, .un, .un, .un, .un, .un, .un] ⟨fun d z => hd d (.tail _ z), acc ++ [v], by simp; omega, rfl⟩ (by rw [List.map_append]; repeat constructor)
    refine ⟨_, _, rfl, hi, fun v => ⟨cpow, sz3, _, [_, _, _], rfl, ?_, by simp, Drawn.three fun x y z _ _ _ _ _ _ => ⟨rfl, ?_⟩⟩⟩
    · intro z hz
      simp only [List.mem_cons, List.not_mem_nil, or_false] at hz
      rcases hz with rfl | rfl | rfl <;> exact ⟨by decide, by decide⟩
    · exact if_by (fun Q q => q) (fun _ => ⟨(by show (0 : Int) < 20; decide), if_by (fun Q q => q) (fun _ => ⟨hz, fin _ _ _ _⟩) (fun _ => ⟨hz, fin _ _ _ _⟩)⟩) (fun _ => if_by (fun Q q => q) (fun _ => ⟨hz, fin _ _ _ _⟩) (fun _ => ⟨hz, fin _ _ _ _⟩))
  · intro d hd
    unfold rng at hd; obtain ⟨j, _, rfl⟩ := List.mem_map.mp hd; exact ⟨_, by omega, rfl⟩
end
theorem lenS {n : Nat} {us : List Value} (h : us.length = n + 1) : ∃ a vs, us = a :: vs /\ vs.length = n := by
  cases us with
  | nil => exact absurd h (fun z => by cases z)
  | cons a vs => exact ⟨a, vs, rfl, Nat.succ.inj h⟩
theorem lenIs0 {us : List Value} (h : us.length = 0) : us = [] := List.eq_nil_of_length_eq_zero h
theorem lenIs1 {us : List Value} (h : us.length = 1) : ∃ a0, us = [a0] := by
  obtain ⟨a, vs, rfl, h2⟩ := lenS (n := 0) h; obtain rfl := lenIs0 h2; exact ⟨a, rfl⟩
theorem lenIs2 {us : List Value} (h : us.length = 2) : ∃ a0 a1, us = [a0, a1] := by
  obtain ⟨a, vs, rfl, h2⟩ := lenS (n := 1) h; obtain ⟨a1, rfl⟩ := lenIs1 h2; exact ⟨a, a1, rfl⟩
abbrev LkF (K : PySem.W.Frag) (n : Str) (st : Stmt) (f : Addr) (oc : Value) (od : Option Addr) (kV dc pm : Value) (an : Option Addr) (cd ct : Value) (sl : Array (Option Value)) : Prop := K.lookup f = some ⟨oc, od, .func (PySem.W.fnOf n n (defArgs st) (defBody st) (defScope st) .none kV dc pm an cd ct), sl⟩
theorem mkF2 {P : Program} {w : World} {K : PySem.W.Frag} {mg : Str -> Option Value} {base : Heap} {i j : Nat} {n : Str} {sp : Sp2} {f : Addr} {fd : FuncData} {ps : List Str} (g : ∀ base : Heap, FnOk P w K mg base CX0 j f fd ps (liftSp K sp)) (m : mg n = some (.ref f)) (k : PySem.W.keepIn K (.ref f) = true) (b : Binds K fd ps []) (h : j <= i) : Fn2 P w K mg base i n sp := ⟨⟨f, fd, ps, (g base).mono h, m, k, b⟩⟩
theorem mkF3 {P : Program} {w : World} {K : PySem.W.Frag} {mg : Str -> Option Value} {base : Heap} {i j : Nat} {n : Str} {sp : Sp3} {f : Addr} {fd : FuncData} {ps : List Str} (g : ∀ base : Heap, FnOk P w K mg base CX0 j f fd ps (liftSp3 K sp)) (m : mg n = some (.ref f)) (k : PySem.W.keepIn K (.ref f) = true) (b : Binds K fd ps []) (h : j <= i) : Fn3 P w K mg base i n sp := ⟨⟨f, fd, ps, (g base).mono h, m, k, b⟩⟩
theorem all_mk {l : PySem.W.OpenLaw} {w : World} {K : PySem.W.Frag} {h : Heap} {mg : Str -> Option Value} {fa : Addr} (X : K.In h) (G : h.Ns mainGlobals mg) (hfa : mg "law" = some (.ref fa))
 {od0 an0 : Option Addr} {sl0 : Array (Option Value)} {oc0 kV0 dc0 pm0 cd0 ct0 : Value} {f0 : Addr}
 (a0 : PySem.W.nsIn K mainGlobals "_law_cell" = some (some (.ref f0))) (l0 : LkF K "_law_cell" Zf f0 oc0 od0 kV0 dc0 pm0 an0 cd0 ct0 sl0) (c0 : PySem.W.codeIn K cd0 "_law_cell" = true) (k0 : PySem.W.keepIn K (.ref f0) = true)
{od1 an1 : Option Addr} {sl1 : Array (Option Value)} {oc1 kV1 dc1 pm1 cd1 ct1 : Value} {f1 : Addr}
 (a1 : PySem.W.nsIn K mainGlobals "_law_seed" = some (some (.ref f1))) (l1 : LkF K "_law_seed" Zl f1 oc1 od1 kV1 dc1 pm1 an1 cd1 ct1 sl1) (c1 : PySem.W.codeIn K cd1 "_law_seed" = true) (k1 : PySem.W.keepIn K (.ref f1) = true)
{od2 an2 : Option Addr} {sl2 : Array (Option Value)} {oc2 kV2 dc2 pm2 cd2 ct2 : Value} {f2 : Addr}
 (a2 : PySem.W.nsIn K mainGlobals "_law_digits" = some (some (.ref f2))) (l2 : LkF K "_law_digits" Z5 f2 oc2 od2 kV2 dc2 pm2 an2 cd2 ct2 sl2) (c2 : PySem.W.codeIn K cd2 "_law_digits" = true) (k2 : PySem.W.keepIn K (.ref f2) = true)
{od3 an3 : Option Addr} {sl3 : Array (Option Value)} {oc3 kV3 dc3 pm3 cd3 ct3 : Value} {f3 : Addr}
 (a3 : PySem.W.nsIn K mainGlobals "_law_whole" = some (some (.ref f3))) (l3 : LkF K "_law_whole" Za f3 oc3 od3 kV3 dc3 pm3 an3 cd3 ct3 sl3) (c3 : PySem.W.codeIn K cd3 "_law_whole" = true) (k3 : PySem.W.keepIn K (.ref f3) = true)
{od4 an4 : Option Addr} {sl4 : Array (Option Value)} {oc4 kV4 dc4 pm4 cd4 ct4 : Value} {f4 : Addr}
 (a4 : PySem.W.nsIn K mainGlobals "_law_classes" = some (some (.ref f4))) (l4 : LkF K "_law_classes" Z3 f4 oc4 od4 kV4 dc4 pm4 an4 cd4 ct4 sl4) (c4 : PySem.W.codeIn K cd4 "_law_classes" = true) (k4 : PySem.W.keepIn K (.ref f4) = true)
{od5 an5 : Option Addr} {sl5 : Array (Option Value)} {oc5 kV5 dc5 pm5 cd5 ct5 : Value} {f5 : Addr}
 (a5 : PySem.W.nsIn K mainGlobals "law" = some (some (.ref f5))) (l5 : LkF K "law" Zs f5 oc5 od5 kV5 dc5 pm5 an5 cd5 ct5 sl5) (c5 : PySem.W.codeIn K cd5 "law" = true) (k5 : PySem.W.keepIn K (.ref f5) = true)
 (z_len : PySem.W.nsIn K mainGlobals "len" = some none)
 (z_enumerate : PySem.W.nsIn K mainGlobals "enumerate" = some none)
 (z_isinstance : PySem.W.nsIn K mainGlobals "isinstance" = some none)
 (z_bool : PySem.W.nsIn K mainGlobals "bool" = some none)
 (z_int : PySem.W.nsIn K mainGlobals "int" = some none)
 (z_ValueError : PySem.W.nsIn K mainGlobals "ValueError" = some none)
 (z_KeyError : PySem.W.nsIn K mainGlobals "KeyError" = some none)
 (z_IndexError : PySem.W.nsIn K mainGlobals "IndexError" = some none)
 (z_range : PySem.W.nsIn K mainGlobals "range" = some none)
 {Cx0 Cx1 Cx2 Cx3 Cx4 Cx5 Cx6 Cx7 Cx8 Cx9 Cx10 Cx11 CF : Addr} (ax0 : PySem.W.nsIn K mainGlobals "NoDay" = some (some (.ref Cx0))) (ax1 : PySem.W.nsIn K mainGlobals "NoYear" = some (some (.ref Cx1))) (ax2 : PySem.W.nsIn K mainGlobals "BadYear" = some (some (.ref Cx2))) (ax3 : PySem.W.nsIn K mainGlobals "BadDay" = some (some (.ref Cx3))) (ax4 : PySem.W.nsIn K mainGlobals "BadFeast" = some (some (.ref Cx4))) (ax5 : PySem.W.nsIn K mainGlobals "Taken" = some (some (.ref Cx5))) (ax6 : PySem.W.nsIn K mainGlobals "NoFeast" = some (some (.ref Cx6))) (ax7 : PySem.W.nsIn K mainGlobals "NoOrder" = some (some (.ref Cx7))) (ax8 : PySem.W.nsIn K mainGlobals "NoBack" = some (some (.ref Cx8))) (ax9 : PySem.W.nsIn K mainGlobals "NoForth" = some (some (.ref Cx9))) (ax10 : PySem.W.nsIn K mainGlobals "NoStand" = some (some (.ref Cx10))) (ax11 : PySem.W.nsIn K mainGlobals "Sealed" = some (some (.ref Cx11))) (aF : PySem.W.nsIn K mainGlobals "FeastError" = some (some (.ref CF))) (qx0 : PySem.W.excIn K Cx0 bmVE "ValueError.__new__" = true) (qx1 : PySem.W.excIn K Cx1 bmVE "ValueError.__new__" = true) (qx2 : PySem.W.excIn K Cx2 bmVE "ValueError.__new__" = true) (qx3 : PySem.W.excIn K Cx3 bmVE "ValueError.__new__" = true) (qx4 : PySem.W.excIn K Cx4 bmVE "ValueError.__new__" = true) (qx5 : PySem.W.excIn K Cx5 bmVE "ValueError.__new__" = true) (qx6 : PySem.W.excIn K Cx6 bmVE "ValueError.__new__" = true) (qx7 : PySem.W.excIn K Cx7 bmVE "ValueError.__new__" = true) (qx8 : PySem.W.excIn K Cx8 bmVE "ValueError.__new__" = true) (qx9 : PySem.W.excIn K Cx9 bmVE "ValueError.__new__" = true) (qx10 : PySem.W.excIn K Cx10 bmVE "ValueError.__new__" = true) (kc0 : PySem.W.keepIn K (.ref Cx0) = true) (kc1 : PySem.W.keepIn K (.ref Cx1) = true) (kc2 : PySem.W.keepIn K (.ref Cx2) = true) (kc3 : PySem.W.keepIn K (.ref Cx3) = true) (kc4 : PySem.W.keepIn K (.ref Cx4) = true) (kc5 : PySem.W.keepIn K (.ref Cx5) = true) (kc6 : PySem.W.keepIn K (.ref Cx6) = true) (kc7 : PySem.W.keepIn K (.ref Cx7) = true) (kc8 : PySem.W.keepIn K (.ref Cx8) = true) (kc9 : PySem.W.keepIn K (.ref Cx9) = true) (kc10 : PySem.W.keepIn K (.ref Cx10) = true) (kc11 : PySem.W.keepIn K (.ref Cx11) = true) (hck : chk K [Cx0, Cx1, Cx2, Cx3, Cx4, Cx5, Cx6, Cx7, Cx8, Cx9, Cx10, Cx11] CF = true) {NS fI : Addr} {nmS qS : Str} {bsS : List Value} {snS : List Str} {subS : List Value} {abS : Bool} {colS : Option Bool} {ddS odI anI : Option Addr} {kS0 kS1 kS2 kS3 kS5 : Option Value} {kVI dcI pmI cdI ctI : Value} {slI : Array (Option Value)} (lS : K.lookup Cx11 = some (excClassObj nmS qS Cx11 NS bsS (.ref CF :: bmVE) true snS subS abS colS ddS kS0 kS1 kS2 kS3 kS5 "ValueError.__new__")) (iS : PySem.W.nsIn K NS "__init__" = some (some (.ref fI))) (oS : PySem.W.nsOkIn K NS = true) (tS : PySem.W.tailIn K bmVE (.ref CF :: bmVE) = true) (lI : K.lookup fI = some ⟨.type "function", odI, .func (PySem.W.fnOf "__init__" "Sealed.__init__" (defArgs stI) (defBody stI) (defScope stI) .none kVI dcI pmI anI cdI ctI), slI⟩) (cI : PySem.W.codeIn K cdI "Sealed.__init__" = true) (kI : PySem.W.keepIn K (.ref fI) = true) (nA : NoAttr K Cx11 "number") (nB : NoAttr K Cx11 "year") (nC : NoAttr K Cx11 "day") (sS : PySem.W.findIn K (.ref Cx11) "__setattr__" = some (some (.builtin "object.__setattr__"))) (gS : PySem.W.findIn K (.ref Cx11) "__getattribute__" = some (some (.builtin "BaseException.__getattribute__"))) (tgS : PySem.W.findIn K (.ref Cx11) "__getattr__" = some none) :
 ∃ fd : FuncData, (∀ (s : Shared) (v : Value), BindsTo s fd ⟨[v], []⟩ [("_law_script", v)]) /\ ∀ base : Heap, K.In base -> base.Ns mainGlobals mg -> FnOk l.prog w K mg base CX0 3 fa fd ["_law_script"] (liftSp K Zu) := by
  have e : f5 = fa := by
    have e := hfa.symm.trans (PySem.W.mg_of X G a5); cases e; rfl
  subst e; have z_len := PySem.W.mg_none_of X G z_len; have z_enumerate := PySem.W.mg_none_of X G z_enumerate; have z_isinstance := PySem.W.mg_none_of X G z_isinstance; have z_bool := PySem.W.mg_none_of X G z_bool; have z_int := PySem.W.mg_none_of X G z_int; have z_ValueError := PySem.W.mg_none_of X G z_ValueError; have z_KeyError := PySem.W.mg_none_of X G z_KeyError; have z_IndexError := PySem.W.mg_none_of X G z_IndexError; have z_range := PySem.W.mg_none_of X G z_range; have hx0 := PySem.W.mg_of X G ax0; have hx1 := PySem.W.mg_of X G ax1; have hx2 := PySem.W.mg_of X G ax2; have hx3 := PySem.W.mg_of X G ax3; have hx4 := PySem.W.mg_of X G ax4; have hx5 := PySem.W.mg_of X G ax5; have hx6 := PySem.W.mg_of X G ax6; have hx7 := PySem.W.mg_of X G ax7; have hx8 := PySem.W.mg_of X G ax8; have hx9 := PySem.W.mg_of X G ax9; have hx10 := PySem.W.mg_of X G ax10; have hx11 := PySem.W.mg_of X G ax11; have hF := PySem.W.mg_of X G aF; have xoS := xok_of lS sS gS tgS; have tw : Tw K mg Cx0 Cx1 Cx2 Cx3 Cx4 Cx5 Cx6 Cx7 Cx8 Cx9 Cx10 Cx11 CF := ⟨hx0, kc0, hx1, kc1, hx2, kc2, hx3, kc3, hx4, kc4, hx5, kc5, hx6, kc6, hx7, kc7, hx8, kc8, hx9, kc9, hx10, kc10, hx11, kc11, hF, hck, xoS, nA, nB, nC⟩; have TI := fun_mk (st := stI) lI cI kI; have bI := TI.binds (ps := ["self", "number", "year", "day"]) fun _ _ _ _ _ _ us hl => by
    match us, hl with
    | [_, _, _, _], _ => rfl
  have m0 := PySem.W.mg_of X G a0; have T0 := fun_mk (st := Zf) l0 c0 k0; have b0 := T0.binds (ps := ["_law_script", "_law_place"]) fun _ _ _ _ _ _ us hl => by obtain ⟨_, _, rfl⟩ := lenIs2 hl; rfl
  have m1 := PySem.W.mg_of X G a1; have T1 := fun_mk (st := Zl) l1 c1 k1; have b1 := T1.binds (ps := ["_law_cell_here"]) fun _ _ _ _ _ _ us hl => by obtain ⟨_, rfl⟩ := lenIs1 hl; rfl
  have m2 := PySem.W.mg_of X G a2; have T2 := fun_mk (st := Z5) l2 c2 k2; have b2 := T2.binds (ps := ["_law_cell_here", "_law_sizes"]) fun _ _ _ _ _ _ us hl => by obtain ⟨_, _, rfl⟩ := lenIs2 hl; rfl
  have m3 := PySem.W.mg_of X G a3; have T3 := fun_mk (st := Za) l3 c3 k3; have b3 := T3.binds (ps := ["_law_thing"]) fun _ _ _ _ _ _ us hl => by obtain ⟨_, rfl⟩ := lenIs1 hl; rfl
  have m4 := PySem.W.mg_of X G a4; have T4 := fun_mk (st := Z3) l4 c4 k4; have b4 := T4.binds (ps := ["_law_e"]) fun _ _ _ _ _ _ us hl => by obtain ⟨_, rfl⟩ := lenIs1 hl; rfl
  have m5 := PySem.W.mg_of X G a5; have T5 := fun_mk (st := Zs) l5 c5 k5; have b5 := T5.binds (ps := ["_law_script"]) fun _ _ _ _ _ _ us hl => by obtain ⟨_, rfl⟩ := lenIs1 hl; rfl
  have G0 : ∀ base : Heap, FnOk l.prog w K mg base CX0 (0 + 1) f0 _ _ (liftSp K Zi) := fun base => Zg T0  z_len
  have G1 : ∀ base : Heap, FnOk l.prog w K mg base CX0 (0 + 1) f1 _ _ (liftSp K Zj) := fun base => Zm T1
  have G3 : ∀ base : Heap, FnOk l.prog w K mg base CX0 (0 + 1) f3 _ _ (liftSp K Zc) := fun base => Zd T3  z_isinstance z_bool z_int
  have G4 : ∀ base : Heap, FnOk l.prog w K mg base CX0 (0 + 1) f4 _ _ (liftSp K (Z0 [Cx0, Cx1, Cx2, Cx3, Cx4, Cx5, Cx6, Cx7, Cx8, Cx9, Cx10, Cx11])) := fun base => Z2 T4  z_isinstance tw
  have G2 : ∀ base : Heap, FnOk l.prog w K mg base CX0 (1 + 1) f2 _ _ (liftSp K Z7) := fun base => Z6 T2 (mkF2 G1 m1 k1 b1 (by decide)) z_enumerate
  have G5 : ∀ base : Heap, K.In base -> base.Ns mainGlobals mg -> FnOk l.prog w K mg base CX0 (2 + 1) f5 _ _ (liftSp K Zu) := fun base kb gb => Zr T5 (mkF2 G4 m4 k4 b4 (by decide)) (mkF2 G2 m2 k2 b2 (by decide)) (mkF2 G0 m0 k0 b0 (by decide)) (mkF2 G3 m3 k3 b3 (by decide)) z_enumerate z_isinstance z_ValueError z_KeyError z_IndexError z_range tw (erri_of kb lS iS oS tS lI) (Zq TI xoS nA nB nC) bI (err_of kb gb PySem.F.excBase_ValueError ax0 qx0) (err_of kb gb PySem.F.excBase_ValueError ax1 qx1) (err_of kb gb PySem.F.excBase_ValueError ax2 qx2) (err_of kb gb PySem.F.excBase_ValueError ax3 qx3) (err_of kb gb PySem.F.excBase_ValueError ax4 qx4) (err_of kb gb PySem.F.excBase_ValueError ax5 qx5) (err_of kb gb PySem.F.excBase_ValueError ax6 qx6) (err_of kb gb PySem.F.excBase_ValueError ax7 qx7) (err_of kb gb PySem.F.excBase_ValueError ax8 qx8) (err_of kb gb PySem.F.excBase_ValueError ax9 qx9) (err_of kb gb PySem.F.excBase_ValueError ax10 qx10)
  exact ⟨PySem.W.fnOf "law" "law" (defArgs Zs) (defBody Zs) (defScope Zs) .none kV5 dc5 pm5 an5 cd5 ct5, fun s v => .of_eq rfl, fun base kb gb => G5 base kb gb⟩
theorem law_sp {K : PySem.W.Frag} {H : Hp} {a : Addr} {ns : List Int} (hl : ns.length <= 63) (hS : SqL K H a (ns.map V.int)) : liftSp K Zu [.ref a] H (fun v _ => v = .bl true) E0 :=
  ⟨[.lst (ns.map .int)], fun r => r = .val (.bl true), Reps.cons (by simp only [Rep]; exact ⟨a, _, rfl, hS, Reps.ints ns⟩) Reps.nil, ⟨ns, rfl, hl, rfl⟩, fun v H' r ok e => by subst e; exact (by simpa only [Rep] using ok.2)⟩
theorem walk {l : PySem.W.OpenLaw} {q : Program} {loose : List Str} {XP : (Str -> Option Value) -> Heap -> Prop} {YP : World -> Heap -> Prop} {d : DefRec} {K : Params -> PySem.W.Frag} (hn : l.most = some 63) (hdf : d.params.defaults = [])
 (hY : ∀ (w : World) (h : Heap), YP w h -> (K w.params).In h)
 (F : ∀ (w : World) (mg : Str -> Option Value) (fa : Addr) (h : Heap), (K w.params).In h -> h.Ns mainGlobals mg -> mg d.name = some (.ref fa) ->
 ∃ fd : FuncData, (∀ (s : Shared) (u : Value), BindsTo s fd ⟨[u], []⟩ [("_law_script", u)]) /\ ∀ base : Heap, (K w.params).In base -> base.Ns mainGlobals mg -> FnOk l.prog w (K w.params) mg base CX0 3 fa fd ["_law_script"] (liftSp (K w.params) Zu)) :
 PySem.W.WalkO q loose XP YP l.row.toRowW d [] (fun f vs => PySem.call f vs) :=
  L2.walk_of (n := 63) (k := 3) (x := "_law_script") (CX := fun _ => CX0) (sp := fun w => liftSp (K w.params) Zu) hn (by decide) hdf ⟨rfl, by decide, by decide⟩ hY F (fun _ _ a ns hl _ hS => law_sp hl hS) fun _ _ _ _ _ z => z
end My
open PySem PySem.W PyProof.Rows
local macro_rules | `(tactic| refine $e) => do
  let e' <- e.raw.replaceM fun x => if x.isIdent && x.getId == `hl then pure (some (Lean.mkIdent `hq).raw) else pure none
  if e' == e.raw then Lean.Macro.throwUnsupported else
    let e' : Lean.TSyntax `term := ⟨e'⟩
    `(tactic| refine $e')
set_option maxRecDepth 100000 in
set_option maxHeartbeats 0 in
theorem PySem.Challenge.cw_feastfall_k57_refusals_by_their_classes_holds : PySem.Challenge.rw_feastfall_k57_refusals_by_their_classes.Holds := by
  w_on; o_law; k_head; (case hq => intro w; kernel_rfl); (case hw => w_witness2)
  k_fill
  refine My.walk (l := PySem.Challenge.rw_feastfall_k57_refusals_by_their_classes) rfl rfl (fun w h Y => PySem.W.kIn_of Y) ?F
  case F =>
    intro w mg fa h KX G hmg; refine' My.all_mk KX G hmg ?a0 ?l0 ?c0 ?k0 ?a1 ?l1 ?c1 ?k1 ?a2 ?l2 ?c2 ?k2 ?a3 ?l3 ?c3 ?k3 ?a4 ?l4 ?c4 ?k4 ?a5 ?l5 ?c5 ?k5 ?z_len ?z_enumerate ?z_isinstance ?z_bool ?z_int ?z_ValueError ?z_KeyError ?z_IndexError ?z_range ?ax0 ?ax1 ?ax2 ?ax3 ?ax4 ?ax5 ?ax6 ?ax7 ?ax8 ?ax9 ?ax10 ?ax11 ?aF ?qx0 ?qx1 ?qx2 ?qx3 ?qx4 ?qx5 ?qx6 ?qx7 ?qx8 ?qx9 ?qx10 ?kc0 ?kc1 ?kc2 ?kc3 ?kc4 ?kc5 ?kc6 ?kc7 ?kc8 ?kc9 ?kc10 ?kc11 ?hck ?lS ?iS ?oS ?tS ?lI ?cI ?kI ?nA ?nB ?nC ?sS ?gS ?tgS
    (case a0 => k_is); (case l0 => unfold My.LkF; k_is); (case c0 => k_is); (case k0 => k_is); (case a1 => k_is); (case l1 => unfold My.LkF; k_is); (case c1 => k_is); (case k1 => k_is); (case a2 => k_is); (case l2 => unfold My.LkF; k_is); (case c2 => k_is); (case k2 => k_is); (case a3 => k_is); (case l3 => unfold My.LkF; k_is); (case c3 => k_is); (case k3 => k_is); (case a4 => k_is); (case l4 => unfold My.LkF; k_is); (case c4 => k_is); (case k4 => k_is); (case a5 => k_is); (case l5 => unfold My.LkF; k_is); (case c5 => k_is); (case k5 => k_is); (case z_len => k_is); (case z_enumerate => k_is); (case z_isinstance => k_is); (case z_bool => k_is); (case z_int => k_is); (case z_ValueError => k_is); (case z_KeyError => k_is); (case z_IndexError => k_is); (case z_range => k_is); (case ax0 => k_is); (case ax1 => k_is); (case ax2 => k_is); (case ax3 => k_is); (case ax4 => k_is); (case ax5 => k_is); (case ax6 => k_is); (case ax7 => k_is); (case ax8 => k_is); (case ax9 => k_is); (case ax10 => k_is); (case ax11 => k_is); (case aF => k_is); (case qx0 => k_exc); (case qx1 => k_exc); (case qx2 => k_exc); (case qx3 => k_exc); (case qx4 => k_exc); (case qx5 => k_exc); (case qx6 => k_exc); (case qx7 => k_exc); (case qx8 => k_exc); (case qx9 => k_exc); (case qx10 => k_exc); (case kc0 => k_is); (case kc1 => k_is); (case kc2 => k_is); (case kc3 => k_is); (case kc4 => k_is); (case kc5 => k_is); (case kc6 => k_is); (case kc7 => k_is); (case kc8 => k_is); (case kc9 => k_is); (case kc10 => k_is); (case kc11 => k_is); (case hck => kernel_rfl); (case lS => k_is); (case iS => k_is); (case oS => kernel_rfl); (case tS => kernel_rfl); (case lI => k_is); (case cI => k_is); (case kI => k_is); (case nA => (unfold L2.NoAttr; k_is)); (case nB => (unfold L2.NoAttr; k_is)); (case nC => (unfold L2.NoAttr; k_is)); (case sS => k_is); (case gS => k_is); (case tgS => k_is)
