import PyProof.Rows.All
import Wide.All
import OpenK.AllK
import Wide.FinOn
import Lean
import PyProof.EqAt
import PyProof.EqKinds
import PyProof.TupleCall
import PySem.Challenge.RW_feastfall_k23_turns_between_two_layings
set_option Elab.async false
set_option linter.all false
set_option maxRecDepth 100000
namespace L2
open PySem PySem.Spec PyProof.Rows
abbrev Key:=Sum Int Str
def keyIs:Key -> Value -> Bool
 | .inl k,v=>Value.isInt k v
 | .inr x,v=>Value.isStrOf x v
def keyH (w:World):Key -> Int
 | .inl k=>hashInt k
 | .inr x=>hashStr w x
theorem Xap:∀ {k:Key} {v:Value},keyIs k v = true -> (∃ i t,k = Sum.inl i /\ v = Value.int i t) \/ (∃ x t,k = Sum.inr x /\ v = Value.str x t)
 | .inl i,v,h=>by
  obtain ⟨t,e⟩:=Value.isInt_shape (k:=i) (v:=v) h;exact .inl ⟨i,t,rfl,e⟩
 | .inr x,v,h=>by
  obtain ⟨t,e⟩:=Value.isStrOf_shape (x:=x) (v:=v) h;exact .inr ⟨x,t,rfl,e⟩
theorem Xnu (i:Int) (t:Tok):keyIs (.inl i) (.int i t) = true:=by simp [keyIs,Value.isInt]
theorem Xnt (x:Str) (t:Tok):keyIs (.inr x) (.str x t) = true:=by simp [keyIs,Value.isStrOf]
theorem Xwh (a b:Int):decide ((Sum.inl a:Key) = Sum.inl b) = (a == b):=by
 by_cases e:a = b
 ·subst e;simp
 ·have h:¬ (Sum.inl a:Key) = Sum.inl b:=λq=>e (Sum.inl.inj q)
  rw [decide_eq_false h];exact (beq_eq_false_iff_ne.mpr e).symm
theorem Xwe (a b:Str):decide ((Sum.inr a:Key) = Sum.inr b) = decide (a = b):=by
 by_cases e:a = b
 ·subst e;simp
 ·have h:¬ (Sum.inr a:Key) = Sum.inr b:=λq=>e (Sum.inr.inj q)
  rw [decide_eq_false h,decide_eq_false e]
theorem Xwg (a:Int) (b:Str):decide ((Sum.inl a:Key) = Sum.inr b) = false:=decide_eq_false (λq=>nomatch q)
theorem Xwf (a:Str) (b:Int):decide ((Sum.inr a:Key) = Sum.inl b) = false:=decide_eq_false (λq=>nomatch q)
def Xao (prog:Program) (w:World):PySem.KeyKind prog w Key where
 is:=keyIs
 hash:=keyH w
 inj:=λv a b ha hb=>by
  rcases Xap ha with ⟨i,t,rfl,rfl⟩ | ⟨x,t,rfl,rfl⟩
  ·rcases Xap hb with ⟨j,u,rfl,e⟩ | ⟨y,u,rfl,e⟩
   ·injection e with e1 _;rw [e1]
   ·exact nomatch e
  ·rcases Xap hb with ⟨j,u,rfl,e⟩ | ⟨y,u,rfl,e⟩
   ·exact nomatch e
   ·injection e with e1 _;rw [e1]
 byValue:=λk v h=>by
  rcases Xap h with ⟨i,t,rfl,rfl⟩ | ⟨x,t,rfl,rfl⟩ <;> rfl
 pyHash:=λhv h=>by
  rcases Xap hv with ⟨i,t,rfl,rfl⟩ | ⟨x,t,rfl,rfl⟩
  ·exact wpAny_pyHash_int h
  ·exact wpAny_pyHash_str h
 eqBool:=λhu hv h=>by
  rcases Xap hu with ⟨i,t,rfl,rfl⟩ | ⟨x,t,rfl,rfl⟩
  ·rcases Xap hv with ⟨j,u,rfl,rfl⟩ | ⟨y,u,rfl,rfl⟩
   ·rw [Xwh] at h;exact wpAny_eqBool_int h
   ·rw [Xwg] at h;exact SeqAt.EqAt.int_str i t y u _ _ _ _ h
  ·rcases Xap hv with ⟨j,u,rfl,rfl⟩ | ⟨y,u,rfl,rfl⟩
   ·rw [Xwf] at h;exact SeqAt.EqAt.str_int x t j u _ _ _ _ h
   ·rw [Xwe] at h;exact wpAny_eqBool_str h
 «strs» := λk x t v h=>by
  rcases Xap h with ⟨i,u,rfl,e⟩ | ⟨y,u,rfl,e⟩
  ·exact nomatch e
  ·injection e with e1 _
   subst e1
   cases v <;> rfl
theorem Xiq (prog:Program) (w:World) (i:Int) (t:Tok):(Xao prog w).is (.inl i) (.int i t) = true:=Xnu i t
theorem Xip (prog:Program) (w:World) (x:Str) (t:Tok):(Xao prog w).is (.inr x) (.str x t) = true:=Xnt x t
inductive V where
 | non | bl (b:Bool) | int (i:Int) | str (x:Str) | byt (b:Array UInt8) | flt (b:UInt64) | ref (a:Addr) | ty (n:String)
 deriving DecidableEq
def RelV:V -> Value -> Prop
 | .non,u=>u = Value.none
 | .bl b,u=>u = Value.bool b
 | .int i,u=>∃ t,u = Value.int i t
 | .str x,u=>∃ t,u = Value.str x t
 | .byt b,u=>∃ t,u = Value.bytes b t
 | .flt b,u=>∃ t,u = Value.float b t
 | .ref a,u=>u = Value.ref a
 | .ty n,u=>u = Value.type n
abbrev Vals:List V -> List Value -> Prop:=Paired RelV
theorem Vals.length {xs:List V} {us:List Value} (r:Vals xs us):xs.length = us.length:=Paired.length r
theorem Vals.get:∀ {xs:List V} {us:List Value} {i:Nat} {x:V},Vals xs us -> xs[i]? = some x -> ∃ u,us[i]? = some u /\ RelV x u
 | _,_,_,_,.nil,e=>by simp at e
 | _,_,0,_,.cons r _,e=>by simp at e;subst e;exact ⟨_,rfl,r⟩
 | _,_,i + 1,x,.cons _ t,e=>by
  obtain ⟨u,h1,h2⟩:=Vals.get (i:=i) (x:=x) t (by simpa using e);exact ⟨u,by simpa using h1,h2⟩
theorem Vals.append:∀ {xs ys:List V} {us ws:List Value},Vals xs us -> Vals ys ws -> Vals (xs ++ ys) (us ++ ws)
 | _,_,_,_,.nil,s=>s
 | _,_,_,_,.cons r t,s=>.cons r (Vals.append t s)
theorem Vals.take:∀ {xs:List V} {us:List Value} (n:Nat),Vals xs us -> Vals (xs.take n) (us.take n)
 | _,_,0,_=>.nil
 | _,_,_ + 1,.nil=>.nil
 | _,_,n + 1,.cons r t=>.cons r (Vals.take n t)
theorem Vals.drop:∀ {xs:List V} {us:List Value} (n:Nat),Vals xs us -> Vals (xs.drop n) (us.drop n)
 | _,_,0,r=>r
 | _,_,_ + 1,.nil=>.nil
 | _,_,n + 1,.cons _ t=>Vals.drop n t
def RelO:Option V -> Option Value -> Prop
 | some v,some u=>RelV v u
 | none,none=>True
 | _,_=>False
def KV {κ:Type}:List (κ × V) -> List (κ × Value) -> Prop:=Paired λ(p:κ × V) (q:κ × Value)=>p.1 = q.1 /\ RelV p.2 q.2
def kV:Key -> V
 | .inl i=>.int i
 | .inr x=>.str x
inductive HO where
 | lst (xs:List V)
 | tup (xs:List V)
 | dK (kvs:List (Key × V)) | dT (kvs:List (List Key × V))
 | set (S:Int -> Bool) (n:Nat)
 | ins (C dx:Addr) (fs:List (Str × V))
 | own (x:Addr)
 | xd (fs:List (Str × V))
 | met (f x:Addr)
 | rng (lo hi:Int)
 | frz (o:Obj) (u:HO)
 | tbl (ps:Array Value)
 | ext (φ:Heap -> Prop)
abbrev Hp:=Addr -> Option HO
def upd (H:Hp) (a:Addr) (o:HO):Hp:=λb=>if b = a then some o else H b
theorem Xac {H:Hp} {a:Addr} {o:HO}:upd H a o a = some o:=by unfold upd;rw [if_pos rfl]
theorem Xad {H:Hp} {a b:Addr} {o:HO} (h:b ≠ a):upd H a o b = H b:=by unfold upd;rw [if_neg h]
theorem ne_of {H:Hp} {a b:Addr} {o u:HO} (h:H a = some o) (h':H b = some u) (d:o ≠ u):a ≠ b:=by
 intro e;subst e;rw [h] at h';exact d (Option.some.inj h')
theorem Xaf {H:Hp} {a b:Addr} {o:HO} (h:H a = some o) (h':H b = none):a ≠ b:=by
 intro e;subst e;rw [h] at h';cases h'
section
variable (P:Program) (w:World)
def ObjOk (H:Hp) (h:Heap) (a:Addr):HO -> Prop
 | .lst xs=>xs.length <= sizeLine /\ ∃ (its:List Value) (n:Nat),Vals xs its /\ h.get? a = some { cls:=.type "list", data:=.seq its.toArray n }
 | .tup xs=>xs.length <= sizeLine /\ ∃ its:List Value,Vals xs its /\ IsTup h a its.toArray
 | .dK kvs=>kvs.length <= sizeLine /\ (a == sysModules) = false /\ ∃ vs,KV kvs vs /\ h.DictOf (Xao P w) a vs
 | .dT kvs=>kvs.length <= sizeLine /\ (a == sysModules) = false /\ ∃ xs:List (List Key × Addr × Value),
   Paired (λ(p:List Key × V) (q:List Key × Addr × Value)=>p.1 = q.1 /\ H q.2.1 = some (.tup (p.1.map kV)) /\ RelV p.2 q.2.2) kvs xs /\
   ∃ o es ep,h.get? a = some o /\ o.ExactDict /\ o.data = .dict es ep /\ es.toList = xs.map (entryOfKey (tupleKind (Xao P w))) /\ (xs.map (·.1)).Nodup
 | .set S n=>h.SetOf (intKind P w) a S n
 | .ins C dx fs=>H dx = some (.own a) /\ fs.length <= 1000 /\ dx ≠ a /\ h.get? a = some (PySem.W.instObj C dx) /\
   ∃ mA,h.Ns1 dx mA /\ (∀ f,RelO (fs.lookup f) (mA f)) /\ PySem.Within mA (fs.map (·.1))
 | .own _=>∃ o,h.get? a = some o
 | .xd fs=>∃ mA,h.Ns1 a mA /\ ∀ f,RelO (fs.lookup f) (mA f)
 | .rng lo hi=>∃ t u v,h.get? a = some { cls:=.type "range", data:=.fields #[.int lo t,.int hi u,.int 1 v] }
 | .frz o u=>h.get? a = some o /\ ObjOk H h a u
 | .tbl ps=>h.get? a = some { cls:=.none,data:=.fields ps }
 | .met f x=>h.get? a = some (PySem.W.methodObj (.ref f) (.ref x))
 | .ext φ=>φ h /\ (∃ o,h.get? a = some o) /\ ∀ h1 h2:Heap,φ h1 -> (∀ o,h1.get? a = some o -> h2.get? a = some o) -> φ h2
def HOk (H:Hp) (h:Heap):Prop:=∀ a o,H a = some o -> ObjOk P w H h a o
end
section
variable {P:Program} {w:World} {H H':Hp} {h h':Heap} {a:Addr} {o:HO}
theorem ObjOk.lt (x:ObjOk P w H h a o):a < h.objs.size:=by
 cases o with
 | lst xs=>obtain ⟨_,_,_,_,e⟩:=x;exact Heap.lt_size e
 | tup xs=>obtain ⟨_,_,_,p⟩:=x;exact p.lt
 | dK kvs=>obtain ⟨_,_,_,_,o,_,_,e,_⟩:=x;exact Heap.lt_size e
 | dT kvs=>obtain ⟨_,_,_,_,o,_,_,e,_⟩:=x;exact Heap.lt_size e
 | set S n=>obtain ⟨o,_,_,_,e,_⟩:=x;exact Heap.lt_size e
 | ins C dx fs=>obtain ⟨_,_,_,e,_⟩:=x;exact Heap.lt_size e
 | own y=>obtain ⟨_,e⟩:=x;exact Heap.lt_size e
 | xd fs=>obtain ⟨_,⟨_,_,_,e,_⟩,_⟩:=x;exact Heap.lt_size e
 | rng lo hi=>obtain ⟨_,_,_,e⟩:=x;exact Heap.lt_size e
 | frz ob u=>obtain ⟨e,_⟩:=x;exact Heap.lt_size e
 | tbl ps=>exact Heap.lt_size (show h.get? a = some _ from x)
 | met f y=>exact Heap.lt_size (show h.get? a = some _ from x)
 | ext φ=>obtain ⟨_,⟨_,e⟩,_⟩:=x;exact Heap.lt_size e
theorem Paired.mapP {α β:Type} {F G:α -> β -> Prop}:∀ {l₁:List α} {l₂:List β},Paired F l₁ l₂ -> (∀ a b,F a b -> G a b) -> Paired G l₁ l₂
 | _,_,.nil,_=>.nil
 | _,_,.cons r t,f=>.cons (f _ _ r) (Paired.mapP t f)
theorem ObjOk.stay (x:ObjOk P w H h a o) (k:∀ b u,(b = a \/ H b = some (.own a)) -> h.get? b = some u -> h'.get? b = some u)
(ho:∀ b,H b = some (.own a) -> H' b = some (.own a)) (ht:∀ b xs,H b = some (.tup xs) -> H' b = some (.tup xs)):ObjOk P w H' h' a o:=by
 induction o with
 | lst xs=>obtain ⟨z,its,n,r,e⟩:=x;exact ⟨z,its,n,r,k _ _ (.inl rfl) e⟩
 | tup xs=>obtain ⟨z,its,r,ob,e,c⟩:=x;exact ⟨z,its,r,ob,k _ _ (.inl rfl) e,c⟩
 | dK kvs=>obtain ⟨z,y,vs,r,ob,es,ep,e,c⟩:=x;exact ⟨z,y,vs,r,ob,es,ep,k _ _ (.inl rfl) e,c⟩
 | dT kvs =>
  obtain ⟨z,y,xs,r,ob,es,ep,e,c⟩:=x;exact ⟨z,y,xs,Paired.mapP r λp q z=>⟨z.1,ht _ _ z.2.1,z.2.2⟩,ob,es,ep,k _ _ (.inl rfl) e,c⟩
 | set S n=>obtain ⟨ob,es,ep,t,e,c⟩:=x;exact ⟨ob,es,ep,t,k _ _ (.inl rfl) e,c⟩
 | ins C dx fs =>
  obtain ⟨d,z,ne,e,mA,⟨od,es,ep,e2,c⟩,r⟩:=x;exact ⟨ho _ d,z,ne,k _ _ (.inl rfl) e,mA,⟨od,es,ep,k _ _ (.inr d) e2,c⟩,r⟩
 | own y=>obtain ⟨ob,e⟩:=x;exact ⟨ob,k _ _ (.inl rfl) e⟩
 | xd fs=>obtain ⟨mA,⟨od,es,ep,e,c⟩,r⟩:=x;exact ⟨mA,⟨od,es,ep,k _ _ (.inl rfl) e,c⟩,r⟩
 | rng lo hi=>obtain ⟨t,u,v,e⟩:=x;exact ⟨t,u,v,k _ _ (.inl rfl) e⟩
 | frz ob u ih=>obtain ⟨e,q⟩:=x;exact ⟨k _ _ (.inl rfl) e,ih q⟩
 | tbl ps =>
  have e:h.get? a = some { cls:=.none,data:=.fields ps }:=x
  show h'.get? a = some { cls:=.none,data:=.fields ps }
  exact k a _ (.inl rfl) e
 | met f y =>
  have e:h.get? a = some (PySem.W.methodObj (.ref f) (.ref y)):=x
  show h'.get? a = some (PySem.W.methodObj (.ref f) (.ref y))
  exact k a _ (.inl rfl) e
 | ext φ=>obtain ⟨p,⟨o,e⟩,st⟩:=x;exact ⟨st _ _ p λo q=>k _ _ (.inl rfl) q,⟨o,k _ _ (.inl rfl) e⟩,st⟩
theorem HOk.lt (x:HOk P w H h) (e:H a = some o):a < h.objs.size:=(x a o e).lt
theorem HOk.fresh (x:HOk P w H h) (e:h.objs.size <= a):H a = none:=by
 cases q:H a with
 | none=>rfl
 | some u=>exact absurd (Nat.lt_of_lt_of_le (x.lt q) e) (Nat.lt_irrefl _)
theorem HOk.kept (x:HOk P w H h) (k:∀ b u,h.get? b = some u -> h'.get? b = some u):HOk P w H h':=λa o e =>
 (x a o e).stay (λb u _ q=>k b u q) (λ_ q=>q) λ_ _ q=>q
theorem HOk.laid (x:HOk P w H h) (k:∀ b u,h.get? b = some u -> h'.get? b = some u) (hp:h.objs.size <= a) (new:ObjOk P w (upd H a o) h' a o):HOk P w (upd H a o) h':=λb u e=>by
 have hn:=x.fresh hp
 by_cases hb:b = a
 ·subst hb;rw [Xac] at e;cases e;exact new
 ·rw [Xad hb] at e
  exact (x b u e).stay (λc v _ q=>k c v q) (λc q=>by rw [Xad (Xaf q hn)];exact q) λc xs q=>by rw [Xad (Xaf q hn)];exact q
end
def Rd (H:Hp) (a:Addr) (u:HO):Prop:=H a = some u \/ ∃ o,H a = some (.frz o u)
theorem Rd.ok {P:Program} {w:World} {H:Hp} {h:Heap} {a:Addr} {u:HO} (r:Rd H a u) (x:HOk P w H h):ObjOk P w H h a u:=by
 rcases r with r | ⟨o,r⟩
 ·exact x a u r
 ·obtain ⟨_,q⟩:=x a _ r
  exact q
def Mut:Option HO -> Prop
 | some (.lst _)=>True
 | some (.dK _)=>True
 | some (.dT _)=>True
 | some (.set _ _)=>True
 | some (.ins _ _ _)=>True
 | some (.ext _)=>True
 | _=>False
section
variable {P:Program} {w:World} {H:Hp} {h h':Heap} {x e:Addr} {o':HO}
theorem HOk.write (ok:HOk P w H h) (mu:Mut (H x)) (he:e = x \/ H e = some (.own x)) (k:∀ b u,b ≠ e -> h.get? b = some u -> h'.get? b = some u) (heo:∃ u,h'.get? e = some u)
(new:ObjOk P w (upd H x o') h' x o'):HOk P w (upd H x o') h':=λb u q=>by
 have nown:∀ c y,H c = some (.own y) -> c ≠ x:=λc y r z=>by subst z;rw [r] at mu;exact mu
 have ntup:∀ c xs,H c = some (.tup xs) -> c ≠ x:=λc xs r z=>by subst z;rw [r] at mu;exact mu
 by_cases hb:b = x
 ·subst hb;rw [Xac] at q;cases q;exact new
 ·rw [Xad hb] at q
  by_cases hbe:b = e
  ·have q':H b = some (.own x):=by
    rcases he with z | z
    ·exact absurd (hbe.trans z) hb
    ·rw [hbe];exact z
   rw [q] at q';cases q';obtain ⟨v,hv⟩:=heo;exact ⟨v,by rw [hbe];exact hv⟩
  ·refine (ok b u q).stay (λc v hc r=>k c v ?_ r) (λc r=>by rw [Xad (nown c b r)];exact r) λc xs r=>by rw [Xad (ntup c xs r)];exact r
   rcases hc with rfl | hc
   ·exact hbe
   ·rintro rfl
    rcases he with z | z
    ·exact nown c b hc z
    ·rw [hc] at z;cases z;exact hb rfl
end
structure Un (fs ex:List Addr) (H H':Hp) (h h':Heap):Prop where
 keep:∀ b o,h.get? b = some o -> H b = none -> b ∉ fs -> b ∉ ex -> h'.get? b = some o
 slot:∀ b o,h.get? b = some o -> H b = none -> b ∈ fs -> b ∉ ex -> ∃ sl,h'.get? b = some { o with slots:=sl }
 free:∀ b o,h.get? b = some o -> H b = none -> b ∉ ex -> H' b = none
 there:∀ b o,h.get? b = some o -> b ∉ ex -> ∃ o',h'.get? b = some o'
 tups:∀ b xs,H b = some (.tup xs) -> H' b = some (.tup xs)
 frzs:∀ b o u,H b = some (.frz o u) -> H' b = some (.frz o u)
 tbls:∀ b ps,H b = some (.tbl ps) -> ∃ more,H' b = some (.tbl (ps ++ more))
section
variable {fs fs' ex ex':List Addr} {H H1 H2:Hp} {h h1 h2 h':Heap} {a x e:Addr} {o:HO}
theorem Un.any (u:Un fs ex H H1 h h1) {b:Addr} {ob:Obj} (q:h.get? b = some ob) (n:H b = none) (hx:b ∉ ex):∃ sl,h1.get? b = some { ob with slots:=sl }:=by
 by_cases hb:b ∈ fs
 ·exact u.slot b ob q n hb hx
 ·exact ⟨ob.slots,u.keep b ob q n hb hx⟩
theorem Un.kept (k:∀ b u,h.get? b = some u -> h'.get? b = some u):Un fs ex H H h h' :=
 ⟨λb ob q _ _ _=>k b ob q,λb ob q _ _ _=>⟨ob.slots,k b ob q⟩,λ_ _ _ n _=>n,λb ob q _=>⟨ob,k b ob q⟩,λ_ _ q=>q,λ_ _ _ q=>q,λ_ ps q=>⟨#[],by rw [q];simp⟩⟩
theorem Un.refl:Un fs ex H H h h:=Un.kept λ_ _ q=>q
theorem Un.laid (k:∀ b u,h.get? b = some u -> h'.get? b = some u) (hp:h.objs.size <= a) (hn:H a = none):Un fs ex H (upd H a o) h h' where
 keep:=λb u q _ _ _=>k b u q
 slot:=λb u q _ _ _=>⟨u.slots,k b u q⟩
 free:=λb u q n _=>by rw [Xad (Nat.ne_of_lt (Nat.lt_of_lt_of_le (Heap.lt_size q) hp))];exact n
 there:=λb u q _=>⟨u,k b u q⟩
 tups:=λb xs q=>by rw [Xad (Xaf q hn)];exact q
 frzs:=λb u xs q=>by rw [Xad (Xaf q hn)];exact q
 tbls:=λb ps q=>⟨#[],by rw [Xad (Xaf q hn),q];simp⟩
theorem Un.write (mu:Mut (H x)) (he:e = x \/ H e = some (.own x)) (k:∀ b u,b ≠ e -> h.get? b = some u -> h'.get? b = some u) (heo:∃ u,h'.get? e = some u):Un fs ex H (upd H x o) h h':=by
 have hx:∀ b,H b = none -> b ≠ x:=λb n z=>by subst z;rw [n] at mu;exact mu
 have hb:∀ b,H b = none -> b ≠ e:=λb n z=>by
  subst z
  rcases he with r | r
  ·exact hx b n r
  ·rw [n] at r;cases r
 have hm:∀ b u,H b = some u -> ¬ Mut (some u) -> b ≠ x:=λb u q nm z=>by subst z;rw [q] at mu;exact nm mu
 refine ⟨λb u q n _ _=>k b u (hb b n) q,λb u q n _ _=>⟨u.slots,k b u (hb b n) q⟩,λb u q n _=>by rw [Xad (hx b n)];exact n,λb u q _=>?_,
  λb xs q=>by rw [Xad (hm b _ q λz=>z)];exact q,λb u xs q=>by rw [Xad (hm b _ q λz=>z)];exact q,λb ps q=>⟨#[],by rw [Xad (hm b _ q λz=>z),q];simp⟩⟩
 by_cases hbe:b = e
 ·subst hbe;exact heo
 ·exact ⟨u,k b u hbe q⟩
end
def trk (h:Heap) (H:Hp):List Addr:=(List.range h.objs.size).filter λa=>(H a).isSome
def hidT (h:Heap) (H:Hp):Heap:=PySem.W.hideAll h (trk h H)
theorem Xnx (h:Heap) (H:Hp):(hidT h H).objs.size = h.objs.size:=PySem.W.hideAll_size _ _
theorem Xqa {h:Heap} {H:Hp} {b:Addr} {o:Obj} (e:h.get? b = some o) (n:H b = none):(hidT h H).get? b = some o :=
 PySem.W.hideAll_get _ e λhm=>by
  have q:(H b).isSome = true:=(List.mem_filter.mp hm).2;rw [n] at q;simp at q
theorem Xsv {h:Heap} {H:Hp} {b:Addr} {o:Obj} (e:(hidT h H).get? b = some o):h.get? b = some o /\ H b = none:=by
 have e':h.get? b = some o:=PySem.W.of_hideAll (trk h H) e;refine ⟨e',?_⟩
 cases q:H b with
 | none=>rfl
 | some x =>
  have hm:b ∈ trk h H:=List.mem_filter.mpr ⟨List.mem_range.mpr (Heap.lt_size e'),by simp [q]⟩;have z:(hidT h H).get? b = none:=PySem.W.hideAll_none (trk h H) hm;rw [z] at e;cases e
def Xud (g h:Heap) (L:Addr):List (Addr × Obj):=(List.range h.objs.size).filterMap λa=>if a = L \/ (g.get? a).isSome = true then none else (h.get? a).map λo=>(a,o)
def rest (g h:Heap) (L d:Addr):List (Addr × Obj):=(Xud g h L).filter λp=>decide (p.1 ≠ d)
structure Mod (K:PySem.W.Frag) (mg:Str -> Option Value) (base:Heap):Prop where
 kin:K.In base
 glob:base.Ns mainGlobals mg
 blt:∃ mb,base.Ns builtinsNs mb /\ ∀ x:Str,x ≠ "__name__" -> mb x = bootBuiltins x
 nolimit:base.NoLimit
structure Cx where
 prog:Program
 w:World
 K:PySem.W.Frag
 mg:Str -> Option Value
 base:Heap
 A:Around
 N:List Str
 s₀:Shared
 H₀:Hp
 env:Env
 outer:List Env
 stack:List Env
 ex:List Addr
 fn:Str -> Bool
 calm:Bool
 pn:List (Addr × Obj)
 xe:Value -> Shared -> Prop
def frs (l:List Env):List Addr:=l.filterMap (·.frame)
abbrev Cx.fs (X:Cx):List Addr:=frs X.outer
def Vis (sc:Scope) (x:Str):Prop:=sc.names.lookup x = some .local \/ sc.names.lookup x = some .cell \/ sc.names.lookup x = some .free
def Loc (sc:Scope) (x:Str):Prop:=sc.names.lookup x = some .local \/ sc.names.lookup x = some .cell
def Look (env:Env) (h:Heap) (m:Str -> Option Value) (x:Str) (u:Value):Prop :=
 (env.kindOf x = some .local /\ m x = some u) \/ ((env.kindOf x = some .cell \/ env.kindOf x = some .free) /\ ∃ c,env.cells.lookup x = some c /\ h.IsCell c (some u))
structure Cx.Ok (X:Cx):Prop where
 mod:Mod X.K X.mg X.base
 kind:X.env.scope.kind = .function
 glob:X.env.globals = mainGlobals
 blt:X.env.builtins = builtinsNs
 above:X.s₀.heap.objs.size <= X.env.locals
 inj:∀ x y c,X.env.cells.lookup x = some c -> X.env.cells.lookup y = some c -> x = y
 has:∀ x,(X.env.kindOf x = some .cell \/ X.env.kindOf x = some .free) -> ∃ c,X.env.cells.lookup x = some c
 cab:∀ x c,X.fn x = true -> X.env.cells.lookup x = some c -> X.s₀.heap.objs.size <= c
 hd:X.calm = true -> X.A.handled = none
 frames:X.A.frames = some X.stack
 stk:X.stack = X.outer \/ (X.stack = X.env :: X.outer /\ X.env.frame = some X.env.locals)
 exf:∀ b ∈ X.ex,b ≠ X.env.locals /\ ∀ x c,X.env.cells.lookup x = some c -> c ≠ b
 bs:∀ b o,X.base.get? b = some o -> X.s₀.heap.get? b = some o /\ X.H₀ b = none
 bsz:X.base.objs.size <= X.s₀.heap.objs.size
 noex:∀ b o,X.base.get? b = some o -> b ∉ X.ex
 exfs:∀ b ∈ X.ex,b ∉ X.fs
 funs:X.s₀.heap.FunFrames X.base X.outer
 frf:∀ b ∈ X.fs,X.H₀ b = none
structure Inv (X:Cx) (pins:List (Addr × Obj)) (σ:List (Option V)) (H:Hp) (s:Shared):Prop where
 ok:X.Ok
 os:s.os = X.s₀.os
 bare:AllBare s.gens
 base:Un X.fs X.ex X.H₀ H X.s₀.heap s.heap
 loc:∃ m,s.heap.Ns X.env.locals m /\ ∀ (i:Nat) (x:Str) (v:V),X.N[i]? = some x -> σ[i]? = some (some v) -> Vis X.env.scope x -> ∃ u,RelV v u /\ Look X.env s.heap m x u
 cell:∀ x c,X.env.cells.lookup x = some c -> ∃ v,s.heap.IsCell c v
 free:H X.env.locals = none
 freeC:∀ x c,X.env.cells.lookup x = some c -> H c = none
 pin:∀ p ∈ X.pn ++ pins,s.heap.get? p.1 = some p.2 /\ H p.1 = none /\ p.1 ≠ X.env.locals /\ p.1 ∉ X.fs /\ ∀ v,p.2.data ≠ .cell v
 hok:HOk X.prog X.w H s.heap
 len:σ.length = X.N.length
section
variable {X:Cx} {pins:List (Addr × Obj)} {σ:List (Option V)} {H H':Hp} {s:Shared} {h':Heap}
theorem Cx.Ok.nofr (ok:X.Ok) {b:Addr} {o:Obj} (e:X.base.get? b = some o):b ∉ X.fs:=λhb=>by
 have:=(ok.funs.mem hb).1;rw [e] at this;cases this
theorem Inv.bs (I:Inv X pins σ H s):∀ b o,X.base.get? b = some o -> s.heap.get? b = some o /\ H b = none:=λb o e =>
 ⟨I.base.keep b o (I.ok.bs b o e).1 (I.ok.bs b o e).2 (I.ok.nofr e) (I.ok.noex b o e),I.base.free b o (I.ok.bs b o e).1 (I.ok.bs b o e).2 (I.ok.noex b o e)⟩
theorem Inv.bk (I:Inv X pins σ H s):∀ b o,X.base.get? b = some o -> s.heap.get? b = some o:=λb o e=>(I.bs b o e).1
theorem Inv.mod (I:Inv X pins σ H s):Mod X.K X.mg X.base:=I.ok.mod
theorem Inv.kIn (I:Inv X pins σ H s):X.K.In s.heap:=I.ok.mod.kin.keeps I.bk
theorem Inv.lt (I:Inv X pins σ H s):X.env.locals < s.heap.objs.size:=let ⟨_,hn,_⟩:=I.loc;hn.lt
theorem Inv.sz (I:Inv X pins σ H s):X.s₀.heap.objs.size <= s.heap.objs.size:=Nat.le_trans I.ok.above (Nat.le_of_lt I.lt)
theorem Inv.nofs (I:Inv X pins σ H s) {a:Addr} (h:s.heap.objs.size <= a):a ∉ X.fs:=λhb=>by
 obtain ⟨_,o,ho,_⟩:=I.ok.funs.mem hb;exact absurd (Nat.lt_of_lt_of_le (Heap.lt_size ho) (Nat.le_trans I.sz h)) (Nat.lt_irrefl _)
theorem Inv.cne (I:Inv X pins σ H s):∀ x c,X.env.cells.lookup x = some c -> c ≠ X.env.locals:=λx c e z=>by
 obtain ⟨v,o,ho,hd⟩:=I.cell x c e;obtain ⟨m,⟨o',es,ep,ho',hd',_⟩,_⟩:=I.loc;rw [z,ho'] at ho;cases ho;rw [hd'] at hd;cases hd
theorem Inv.funs (I:Inv X pins σ H s):s.heap.FunFrames X.base X.outer:=by
 have all:∀ (l:List Env),(∀ b ∈ frs l,b ∈ X.fs) -> X.s₀.heap.FunFrames X.base l -> s.heap.FunFrames X.base l:=by
  intro l
  induction l with
  | nil=>intro _ _;trivial
  | cons env r ih =>
   intro hs hl;obtain ⟨hk,⟨L,o,hf,hn,ho,hd⟩,hr⟩:=hl;have hL:L ∈ X.fs:=hs L (by unfold frs;rw [List.filterMap_cons,hf];exact List.mem_cons_self);obtain ⟨sl,e⟩:=I.base.slot L o ho (I.ok.frf L hL) hL λz=>I.ok.exfs L z hL
   exact ⟨hk,⟨L,_,hf,hn,e,hd⟩,ih (λb hb=>hs b (by unfold frs;rw [List.filterMap_cons,hf];exact List.mem_cons_of_mem _ hb)) hr⟩
 exact all X.outer (λ_ hb=>hb) I.ok.funs
theorem Inv.stack (I:Inv X pins σ H s):s.heap.FunFrames X.base X.stack:=by
 rcases I.ok.stk with e | ⟨e,hf⟩
 ·rw [e];exact I.funs
 ·rw [e]
  obtain ⟨m,hn,_⟩:=I.loc;refine .cons (by rw [I.ok.kind];decide) hf hn ?_ I.funs;exact Heap.get?_none_of_le (Nat.le_trans I.ok.bsz I.ok.above)
theorem Inv.stkSub (I:Inv X pins σ H s):∀ b ∈ frs X.stack,b ∈ X.env.locals :: X.fs:=λb hb=>by
 rcases I.ok.stk with e | ⟨e,hf⟩
 ·rw [e] at hb;exact List.mem_cons_of_mem _ hb
 ·rw [e] at hb
  unfold frs at hb;rw [List.filterMap_cons,hf] at hb;exact hb
theorem Inv.stkFree (I:Inv X pins σ H s):∀ b ∈ frs X.stack,H b = none:=λb hb=>by
 rcases List.mem_cons.mp (I.stkSub b hb) with e | hb
 ·rw [e];exact I.free
 ·obtain ⟨_,o,ho,_⟩:=I.ok.funs.mem hb
  exact I.base.free b o ho (I.ok.frf b hb) λz=>I.ok.exfs b z hb
theorem Inv.step {g':Array GenState} {t':Nat} {d':Drawn} {ch:List Addr} (I:Inv X pins σ H s)
(hch:∀ b ∈ ch,(b ∈ X.ex \/ X.s₀.heap.objs.size <= b) /\ b ≠ X.env.locals /\ (∀ x c,X.env.cells.lookup x = some c -> c ≠ b) /\ ∀ p ∈ X.pn ++ pins,p.1 ≠ b)
(keep:∀ b o,b ≠ X.env.locals -> b ∉ X.fs -> b ∉ ch -> s.heap.get? b = some o -> H b = none -> h'.get? b = some o)
(slot:∀ b o,b ≠ X.env.locals -> b ∈ X.fs -> b ∉ ch -> s.heap.get? b = some o -> H b = none -> ∃ sl,h'.get? b = some { o with slots:=sl }) (free:∀ b o,b ∉ ch -> s.heap.get? b = some o -> H b = none -> H' b = none)
(there:∀ b o,b ∉ ch -> s.heap.get? b = some o -> ∃ o',h'.get? b = some o')
(tups:∀ b xs,H b = some (.tup xs) -> H' b = some (.tup xs)) (frzs:∀ b o u,H b = some (.frz o u) -> H' b = some (.frz o u)) (tbls:∀ b ps,H b = some (.tbl ps) -> ∃ more,H' b = some (.tbl (ps ++ more)))
(ns:∀ m,s.heap.Ns X.env.locals m -> h'.Ns X.env.locals m) (hok:HOk X.prog X.w H' h') (hg:AllBare g') :
Inv X pins σ H' { s with heap:=h',gens:=g',drawn:=d',toks:=t' }:=by
 have neL:∀ b o,X.s₀.heap.get? b = some o -> b ≠ X.env.locals:=λb o e=>Nat.ne_of_lt (Nat.lt_of_lt_of_le (Heap.lt_size e) I.ok.above)
 have neC:∀ b o,X.s₀.heap.get? b = some o -> b ∉ X.ex -> b ∉ ch:=λb o e hx hb=>by
  rcases (hch b hb).1 with z | z
  ·exact hx z
  ·exact absurd (Nat.lt_of_lt_of_le (Heap.lt_size e) z) (Nat.lt_irrefl _)
 have cellK:∀ x c,X.env.cells.lookup x = some c -> ∀ v,s.heap.IsCell c v -> h'.IsCell c v:=λx c e v ⟨o,ho,hd⟩=>by
  have nch:c ∉ ch:=λz=>(hch c z).2.2.1 x c e rfl
  by_cases hc:c ∈ X.fs
  ·obtain ⟨sl,q⟩:=slot c o (I.cne x c e) hc nch ho (I.freeC x c e)
   exact ⟨_,q,hd⟩
  ·exact ⟨o,keep c o (I.cne x c e) hc nch ho (I.freeC x c e),hd⟩
 refine ⟨I.ok,I.os,hg,⟨λb o e n hb hx=>?_,λb o e n hb hx=>?_,λb o e n hx=>?_,λb o e hx=>?_,λb xs e=>tups b xs (I.base.tups b xs e),λb o xs e=>frzs b o xs (I.base.frzs b o xs e),λb ps e=>?_⟩,?_,λx c e=>?_,?_,λx c e=>?_,λp hp=>?_,hok,I.len⟩
 ·exact keep b o (neL b o e) hb (neC b o e hx) (I.base.keep b o e n hb hx) (I.base.free b o e n hx)
 ·obtain ⟨sl,e1⟩:=I.base.slot b o e n hb hx
  obtain ⟨sl',e2⟩:=slot b _ (neL b o e) hb (neC b o e hx) e1 (I.base.free b o e n hx);exact ⟨sl',e2⟩
 ·obtain ⟨o',e1⟩:=I.base.there b o e hx
  exact free b o' (neC b o e hx) e1 (I.base.free b o e n hx)
 ·obtain ⟨o',e1⟩:=I.base.there b o e hx
  exact there b o' (neC b o e hx) e1
 ·obtain ⟨m1,e1⟩:=I.base.tbls b ps e
  obtain ⟨m2,e2⟩:=tbls b _ e1;exact ⟨m1 ++ m2,by rw [e2,Array.append_assoc]⟩
 ·obtain ⟨m,hn,hl⟩:=I.loc
  refine ⟨m,ns m hn,λi x v e1 e2 e3=>?_⟩;obtain ⟨u,r,l⟩:=hl i x v e1 e2 e3;refine ⟨u,r,?_⟩
  rcases l with l | ⟨k,c,e,z⟩
  ·exact .inl l
  ·exact .inr ⟨k,c,e,cellK x c e _ z⟩
 ·obtain ⟨v,z⟩:=I.cell x c e
  exact ⟨v,cellK x c e v z⟩
 ·obtain ⟨m,⟨o,_,_,ho,_⟩,_⟩:=I.loc
  exact free _ o (λz=>(hch _ z).2.1 rfl) ho I.free
 ·obtain ⟨v,o,ho,hd⟩:=I.cell x c e
  exact free c o (λz=>(hch c z).2.2.1 x c e rfl) ho (I.freeC x c e)
 ·obtain ⟨e,n,ne,nf,d⟩:=I.pin p hp
  have nch:p.1 ∉ ch:=λz=>(hch p.1 z).2.2.2 p hp rfl
  exact ⟨keep p.1 p.2 ne nf nch e n,free p.1 p.2 nch e n,ne,nf,d⟩
theorem Inv.un {t':Nat} (I:Inv X pins σ H s) (u:Un X.fs [] H H' s.heap h') (hok:HOk X.prog X.w H' h'):Inv X pins σ H' { s with heap:=h',toks:=t' }:=by
 obtain ⟨m,⟨o,es,ep,ho,r⟩,_⟩:=id I.loc;obtain ⟨sl,hL⟩:=u.any ho I.free (by simp)
 exact I.step (g':=s.gens) (d':=s.drawn) (ch:=[]) (λ_ z=>nomatch z) (λb o _ hb _ e n=>u.keep b o e n hb (by simp)) (λb o _ hb _ e n=>u.slot b o e n hb (by simp)) (λb o _ e n=>u.free b o e n (by simp)) (λb o _ e=>u.there b o e (by simp)) u.tups u.frzs u.tbls (λm' hm=>by
  obtain ⟨o',es',ep',ho',r'⟩:=hm;rw [ho] at ho';cases ho'
  exact ⟨_,es',ep',hL,r'⟩) hok I.bare
theorem Inv.call {g':Array GenState} {t':Nat} {d':Drawn} {ch:List Addr} (I:Inv X pins σ H s) (u:Un (frs X.stack) ch H H' s.heap h') (hok:HOk X.prog X.w H' h') (hg:AllBare g')
(hch:∀ b ∈ ch,(b ∈ X.ex \/ X.s₀.heap.objs.size <= b) /\ b ≠ X.env.locals /\ (∀ x c,X.env.cells.lookup x = some c -> c ≠ b) /\ ∀ p ∈ X.pn ++ pins,p.1 ≠ b) :
Inv X pins σ H' { s with heap:=h',gens:=g',drawn:=d',toks:=t' }:=by
 obtain ⟨m,⟨o,es,ep,ho,r⟩,_⟩:=id I.loc;obtain ⟨sl,hL⟩:=u.any ho I.free λz=>(hch _ z).2.1 rfl
 exact I.step (ch:=ch) hch (λb o hL hb hc e n=>u.keep b o e n (λz=>(List.mem_cons.mp (I.stkSub b z)).elim hL hb) hc) (λb o _ _ hc e n=>u.any e n hc) (λb o hc e n=>u.free b o e n hc) (λb o hc e=>u.there b o e hc) u.tups u.frzs u.tbls (λm' hm=>by
  obtain ⟨o',es',ep',ho',r'⟩:=hm;rw [ho] at ho';cases ho'
  exact ⟨_,es',ep',hL,r'⟩) hok hg
theorem Inv.turned {t':Nat} {it:Addr} (I:Inv X pins σ H s) (k:∀ b o,b ≠ it -> s.heap.get? b = some o -> h'.get? b = some o) (hn:H it = none) (hL:it ≠ X.env.locals)
(h1:it ∈ X.ex \/ X.s₀.heap.objs.size <= it) (h2:∀ x c,X.env.cells.lookup x = some c -> c ≠ it) (h3:∀ p ∈ X.pn ++ pins,p.1 ≠ it):Inv X pins σ H { s with heap:=h',toks:=t' }:=by
 have nit:∀ b u,H b = some u -> b ≠ it:=λb u e z=>by rw [z,hn] at e;cases e
 refine I.step (g':=s.gens) (d':=s.drawn) (ch:=[it]) (λb hb=>?_) (λb o _ _ hc e _=>k b o (λz=>hc (by simp [z])) e) (λb o _ _ hc e _=>⟨o.slots,k b o (λz=>hc (by simp [z])) e⟩) (λ_ _ _ _ n=>n)
  (λb o hc e=>⟨o,k b o (λz=>hc (by simp [z])) e⟩) (λ_ _ e=>e) (λ_ _ _ e=>e) (λb ps e=>⟨#[],by rw [e];simp⟩) (λm hm=>?_) (λb u e=>?_) I.bare
 ·have e:b = it:=by simpa using hb
  subst e;exact ⟨h1,hL,h2,h3⟩
 ·obtain ⟨o,es,ep,ho,r⟩:=hm
  exact ⟨o,es,ep,k _ o (Ne.symm hL) ho,r⟩
 ·refine (I.hok b u e).stay (λc v hc q=>k c v ?_ q) (λ_ q=>q) λ_ _ q=>q
  rcases hc with z | z
  ·rw [z];exact nit b u e
  ·exact nit c _ z
theorem Inv.tok (I:Inv X pins σ H s) (t:Nat):Inv X pins σ H { s with toks:=t }:=I.un (h':=s.heap) (t':=t) Un.refl I.hok
theorem Inv.kept {t':Nat} (I:Inv X pins σ H s) (k:∀ b u,s.heap.get? b = some u -> h'.get? b = some u):Inv X pins σ H { s with heap:=h',toks:=t' }:=I.un (Un.kept k) (I.hok.kept k)
theorem Inv.laid {a:Addr} {o:HO} {t':Nat} (I:Inv X pins σ H s) (k:∀ b u,s.heap.get? b = some u -> h'.get? b = some u) (hp:s.heap.objs.size <= a) (new:ObjOk X.prog X.w (upd H a o) h' a o) :
 Inv X pins σ (upd H a o) { s with heap:=h',toks:=t' }:=I.un (Un.laid k hp (I.hok.fresh hp)) (I.hok.laid k hp new)
theorem Inv.write {x e:Addr} {o:HO} {t':Nat} (I:Inv X pins σ H s) (mu:Mut (H x)) (he:e = x \/ H e = some (.own x)) (k:∀ b u,b ≠ e -> s.heap.get? b = some u -> h'.get? b = some u) (heo:∃ u,h'.get? e = some u)
 (new:ObjOk X.prog X.w (upd H x o) h' x o):Inv X pins σ (upd H x o) { s with heap:=h',toks:=t' }:=I.un (Un.write mu he k heo) (I.hok.write mu he k heo new)
theorem Inv.pins_of {pins':List (Addr × Obj)} (I:Inv X pins σ H s) (h:∀ p ∈ pins',s.heap.get? p.1 = some p.2 /\ H p.1 = none /\ p.1 ≠ X.env.locals /\ p.1 ∉ X.fs /\ ∀ v,p.2.data ≠ .cell v):Inv X pins' σ H s :=
 ⟨I.ok,I.os,I.bare,I.base,I.loc,I.cell,I.free,I.freeC,λp hp=>(List.mem_append.mp hp).elim (λz=>I.pin p (List.mem_append_left _ z)) (h p),I.hok,I.len⟩
theorem Xjs {N:List Str} (hN:N.Nodup) {i j:Nat} {x:Str} (a:N[i]? = some x) (b:N[j]? = some x):i = j:=by
 obtain ⟨h1,e1⟩:=List.getElem?_eq_some_iff.mp a;obtain ⟨h2,e2⟩:=List.getElem?_eq_some_iff.mp b;exact (List.getElem_inj hN).mp (e1.trans e2.symm)
theorem Xma {M:Model} {A:Around} {E:Value -> Shared -> Prop} {i:Nat} {x:Str} {v:V} {u:Value} {Q:Unit -> Shared -> Prop} (I:Inv X pins σ H s) (hN:X.N.Nodup) (hi:X.N[i]? = some x) (hx:Loc X.env.scope x) (r:RelV v u)
(h:∀ s',Inv X pins (σ.set i (some v)) H s' -> (∃ a,Heap.SameBut a s.heap s'.heap /\ (a = X.env.locals \/ X.env.cells.lookup x = some a)) -> Q () s') (hf:X.fn x = true \/ X.env.scope.names.lookup x = some .local:=by first | exact .inl rfl | exact .inr rfl | assumption):wpAny M A (storeName X.env x u) Q E s:=by
 obtain ⟨m,hn,hl⟩:=id I.loc;have hcls:(X.env.scope.kind == .class || (X.env.scope.kind == .module && X.env.locals != X.env.globals)) = false:=by rw [I.ok.kind];rfl
 have hiσ:i < σ.length:=by rw [I.len];exact (List.getElem?_eq_some_iff.mp hi).1
 have cne:=I.cne;have tracked:∀ {a:Addr} {h':Heap},(∃ o,s.heap.get? a = some o /\ H a = none) -> Heap.SameBut a s.heap h' -> HOk X.prog X.w H h':=λ{a h'} ha hs b ob e=>by
  obtain ⟨_,_,hfree⟩:=ha;refine (I.hok b ob e).stay (λc w' hc q=>(hs.2 c ?_).trans q) (λ_ q=>q) λ_ _ q=>q
  rintro rfl
  rcases hc with rfl | hc
  ·rw [hfree] at e;cases e
  ·rw [hfree] at hc;cases hc
 rcases hx with hk | hk
 ·refine wpAny_storeName_local hk hn (λh' hn' hs=>?_) hcls
  obtain ⟨oL,_,_,hoL,_⟩:=id hn;refine h _ ⟨I.ok,I.os,I.bare,⟨λb o e n hb hx=>?_,λb o e n hb hx=>?_,I.base.free,λb o e hx=>?_,I.base.tups,I.base.frzs,I.base.tbls⟩,⟨_,hn',λj y v' e1 e2 e3=>?_⟩,λy c e=>?_,I.free,I.freeC,λp hp=>?_,tracked ⟨oL,hoL,I.free⟩ hs,by simpa using I.len⟩ ⟨_,hs,.inl rfl⟩
  ·exact (hs.2 b (Nat.ne_of_lt (Nat.lt_of_lt_of_le (Heap.lt_size e) I.ok.above))).trans (I.base.keep b o e n hb hx)
  ·obtain ⟨sl,e1⟩:=I.base.slot b o e n hb hx
   exact ⟨sl,(hs.2 b (Nat.ne_of_lt (Nat.lt_of_lt_of_le (Heap.lt_size e) I.ok.above))).trans e1⟩
  ·obtain ⟨o',e1⟩:=I.base.there b o e hx
   exact ⟨o',(hs.2 b (Nat.ne_of_lt (Nat.lt_of_lt_of_le (Heap.lt_size e) I.ok.above))).trans e1⟩
  ·by_cases hj:j = i
   ·subst hj
    rw [hi] at e1;cases e1;rw [List.getElem?_set_self hiσ] at e2;cases e2;exact ⟨u,r,.inl ⟨hk,by simp⟩⟩
   ·rw [List.getElem?_set_ne (Ne.symm hj)] at e2
    obtain ⟨u',r',q⟩:=hl j y v' e1 e2 e3;refine ⟨u',r',?_⟩
    rcases q with ⟨k,e⟩ | ⟨k,c,e,z⟩
    ·refine .inl ⟨k,?_⟩
     have : y ≠ x:=λe=>hj (Xjs hN e1 (e ▸ hi))
     simp [this,e]
    ·exact .inr ⟨k,c,e,z.sameBut hs (cne y c e)⟩
  ·obtain ⟨w',z⟩:=I.cell y c e
   exact ⟨w',z.sameBut hs (cne y c e)⟩
  ·obtain ⟨e,n,ne,nf,d⟩:=I.pin p hp
   exact ⟨(hs.2 p.1 ne).trans e,n,ne,nf,d⟩
 ·have hfn:X.fn x = true:=by
   rcases hf with z | z
   ·exact z
   ·rw [z] at hk;cases hk
  obtain ⟨c,hc⟩:=I.ok.has x (.inl hk);obtain ⟨w',z⟩:=I.cell x c hc;refine wpAny_storeName_cell I.ok.kind hk hc z (λh' hc' hs=>?_);obtain ⟨oc,hoc,hocd⟩:=id z
  refine h { s with heap:=h' } ⟨I.ok,I.os,I.bare,⟨λb o e n hb hx=>?_,λb o e n hb hx=>?_,I.base.free,λb o e hx=>?_,I.base.tups,I.base.frzs,I.base.tbls⟩,⟨m,hn.sameBut hs (Ne.symm (cne x c hc)),λj y v' e1 e2 e3=>?_⟩,λy c' e=>?_,I.free,I.freeC,λp hp=>?_,tracked ⟨oc,hoc,I.freeC x c hc⟩ hs,by simpa using I.len⟩ ⟨c,hs,.inr hc⟩
  ·exact (hs.2 b (Nat.ne_of_lt (Nat.lt_of_lt_of_le (Heap.lt_size e) (I.ok.cab x c hfn hc)))).trans (I.base.keep b o e n hb hx)
  ·obtain ⟨sl,e1⟩:=I.base.slot b o e n hb hx
   exact ⟨sl,(hs.2 b (Nat.ne_of_lt (Nat.lt_of_lt_of_le (Heap.lt_size e) (I.ok.cab x c hfn hc)))).trans e1⟩
  ·obtain ⟨o',e1⟩:=I.base.there b o e hx
   exact ⟨o',(hs.2 b (Nat.ne_of_lt (Nat.lt_of_lt_of_le (Heap.lt_size e) (I.ok.cab x c hfn hc)))).trans e1⟩
  ·by_cases hj:j = i
   ·subst hj
    rw [hi] at e1;cases e1;rw [List.getElem?_set_self hiσ] at e2;cases e2;exact ⟨u,r,.inr ⟨.inl hk,c,hc,hc'⟩⟩
   ·rw [List.getElem?_set_ne (Ne.symm hj)] at e2
    obtain ⟨u',r',q⟩:=hl j y v' e1 e2 e3;refine ⟨u',r',?_⟩
    rcases q with q | ⟨k,c',e,z'⟩
    ·exact .inl q
    ·refine .inr ⟨k,c',e,z'.sameBut hs ?_⟩
     rintro rfl;exact hj (Xjs hN e1 (I.ok.inj _ _ _ e hc ▸ hi))
  ·by_cases hcc:c' = c
   ·subst hcc;exact ⟨_,hc'⟩
   ·obtain ⟨w2,z2⟩:=I.cell y c' e
    exact ⟨w2,z2.sameBut hs hcc⟩
  ·obtain ⟨e,n,ne,nf,d⟩:=I.pin p hp
   refine ⟨(hs.2 p.1 ?_).trans e,n,ne,nf,d⟩;intro q;rw [q,hoc] at e;have q':oc = p.2:=Option.some.inj e;exact d w' (by rw [<- q'];exact hocd)
theorem Xfv {M:Model} {A:Around} {E:Value -> Shared -> Prop} {i:Nat} {x:Str} {v:V} {u:Value} {Q:Unit -> Shared -> Prop} (I:Inv X pins σ H s) (hN:X.N.Nodup) (hi:X.N[i]? = some x) (hx:Loc X.env.scope x) (r:RelV v u)
(h:∀ s',Inv X pins (σ.set i (some v)) H s' -> Q () s') (hf:X.fn x = true \/ X.env.scope.names.lookup x = some .local:=by first | exact .inl rfl | exact .inr rfl | assumption):wpAny M A (storeName X.env x u) Q E s :=
 Xma I hN hi hx r (λs' I' _=>h s' I') hf
end
abbrev XK:=Value -> Option Addr -> Hp -> Prop
abbrev St:=List (Option V)
abbrev VK:=V -> Hp -> Prop
abbrev TE:=St -> Hp -> VK -> Prop
abbrev TT:=St -> Hp -> (Bool -> Hp -> Prop) -> Prop
abbrev TA:=St -> Hp -> (List V -> Hp -> Prop) -> Prop
structure Ends where
 nx:St -> Hp -> Prop
 rt:VK
 bk:St -> Hp -> Prop:=λ_ _=>False
 ct:St -> Hp -> Prop:=λ_ _=>False
abbrev TS:=Ends -> St -> Hp -> Prop
def EP (X:Cx) (pins:List (Addr × Obj)) (σ:St) (Q:VK) (u:Value) (s':Shared):Prop:=∃ v H',Inv X pins σ H' s' /\ RelV v u /\ Q v H'
def TP (X:Cx) (pins:List (Addr × Obj)) (σ:St) (Q:Bool -> Hp -> Prop) (b:Bool) (s':Shared):Prop:=∃ H',Inv X pins σ H' s' /\ Q b H'
def AP (X:Cx) (pins:List (Addr × Obj)) (σ:St) (Q:List V -> Hp -> Prop) (us:List Value) (s':Shared):Prop:=∃ vs H',Inv X pins σ H' s' /\ Vals vs us /\ Q vs H'
def SP (X:Cx) (pins:List (Addr × Obj)) (D:Ends) (f:Flow) (s':Shared):Prop :=
 match f with
 | .next=>∃ σ' H',Inv X pins σ' H' s' /\ D.nx σ' H'
 | .brk=>∃ σ' H',Inv X pins σ' H' s' /\ D.bk σ' H'
 | .cont=>∃ σ' H',Inv X pins σ' H' s' /\ D.ct σ' H'
 | .ret u=>∃ v σ' H',Inv X pins σ' H' s' /\ RelV v u /\ D.rt v H'
def PE (X:Cx) (e:Expr) (t:TE):Prop :=
 ∀ (pins:List (Addr × Obj)) (s:Shared) (σ:St) (H:Hp) (Q:VK),Inv X pins σ H s -> t σ H Q -> wpAny (model X.prog X.w) X.A (eval e X.env) (EP X pins σ Q) X.xe s
def PT (X:Cx) (e:Expr) (t:TT):Prop :=
 ∀ (pins:List (Addr × Obj)) (s:Shared) (σ:St) (H:Hp) (Q:Bool -> Hp -> Prop),Inv X pins σ H s -> t σ H Q -> wpAny (model X.prog X.w) X.A (isTrue e X.env (eval e X.env)) (TP X pins σ Q) X.xe s
def PW (X:Cx) (e:Expr) (t:TT):Prop :=
 ∀ (whole:Sem Value) (pins:List (Addr × Obj)) (s:Shared) (σ:St) (H:Hp) (Q:Bool -> Hp -> Prop),Inv X pins σ H s -> t σ H Q -> wpAny (model X.prog X.w) X.A (isTrue e X.env whole) (TP X pins σ Q) X.xe s
theorem PW.pt {X:Cx} {e:Expr} {t:TT} (h:PW X e t):PT X e t:=h _
def PA (X:Cx) (es:List Expr) (t:TA):Prop :=
 ∀ (pos:Pos) (pins:List (Addr × Obj)) (s:Shared) (σ:St) (H:Hp) (Q:List V -> Hp -> Prop),Inv X pins σ H s -> t σ H Q -> wpAny (model X.prog X.w) X.A (spliced (backTo pos (starEach es X.env))) (AP X pins σ Q) X.xe s
def PS (X:Cx) (st:Stmt) (t:TS):Prop :=
 ∀ (pins:List (Addr × Obj)) (s:Shared) (σ:St) (H:Hp) (D:Ends),Inv X pins σ H s -> t D σ H -> wpAny (model X.prog X.w) X.A (exec st X.env) (SP X pins D) X.xe s
def PSs (X:Cx) (st:List Stmt) (t:TS):Prop :=
 ∀ (pins:List (Addr × Obj)) (s:Shared) (σ:St) (H:Hp) (D:Ends),Inv X pins σ H s -> t D σ H -> wpAny (model X.prog X.w) X.A (execs st X.env) (SP X pins D) X.xe s
theorem thn {α:Type} {t:Sem α} {Q Q':α -> Shared -> Prop} {M:Model} {A:Around} {E:Value -> Shared -> Prop} {s:Shared} (h:wpAny M A t Q E s) (hQ:∀ a s,Q a s -> Q' a s):wpAny M A t Q' E s:=wpAny_mono h hQ λ_ _ x=>x
section
variable {X:Cx}
def tVar (i:Nat):TE:=λσ H Q=>∃ v,σ[i]? = some (some v) /\ Q v H
def tC (v:V):TE:=λ_ H Q=>Q v H
theorem Xhi {i:Nat} {x:Str} {pos:Pos} (hN:X.N[i]? = some x) (hv:Vis X.env.scope x) (hd:(x == ("__debug__" : Str)) = false:=by decide) (hcd:(x == ("__classdict__" : Str)) = false:=by decide):PE X (.Name x pos) (tVar i):=by
 intro pins s σ H Q I h;obtain ⟨v,e,h⟩:=h;obtain ⟨m,hn,hl⟩:=I.loc;obtain ⟨u,r,l⟩:=hl i x v hN e hv;have fin:EP X pins σ Q u s:=⟨v,H,I,r,h⟩
 rcases l with ⟨hk,hm⟩ | ⟨hk,c,hc,hcell⟩
 ·exact wpAny_Name (wpAny_loadName_local I.ok.kind hk hn hm fin) hd
 ·rcases hk with hk | hk
  ·exact wpAny_Name (wpAny_loadName_cell I.ok.kind hk hc hcell fin) hd
  ·exact wpAny_Name (wpAny_loadName_free I.ok.kind hk hc hcell fin hcd) hd
theorem Xvg {i j pos}:PE X (.Constant (.int i) j pos) (tC (.int i)):=λ_ _ _ H _ I h=>wpAny_Constant_int ⟨.int i,H,I.tok _,⟨_,rfl⟩,h⟩
theorem pe_bl {b j pos}:PE X (.Constant (.bool b) j pos) (tC (.bl b)):=λ_ _ _ H _ I h=>Constant_bool ⟨.bl b,H,I,rfl,h⟩
theorem Xve {j pos}:PE X (.Constant .none j pos) (tC .non):=λ_ _ _ H _ I h=>Constant_none ⟨.non,H,I,rfl,h⟩
theorem Xvb {x j pos}:PE X (.Constant (.str x) j pos) (tC (.str x)):=λ_ _ _ H _ I h=>Calls.Constant_str ⟨.str x,H,I.tok _,⟨_,rfl⟩,h⟩
def Gl (X:Cx) (x:Str):Prop:=X.env.kindOf x = some .globalImplicit
theorem Xnn {E:Value -> Shared -> Prop} {pins:List (Addr × Obj)} {s:Shared} {σ:St} {H:Hp} {x:Str} {u:Value} {pos:Pos} {Q:Value -> Shared -> Prop} (I:Inv X pins σ H s) (hg:Gl X x) (hm:X.mg x = some u) (h:Q u s)
(hd:(x == ("__debug__" : Str)) = false:=by decide):wpAny (model X.prog X.w) X.A (eval (.Name x pos) X.env) Q E s :=
 Calls.Name_function_global I.ok.kind hg (Calls.loadGlobal_global (by rw [I.ok.glob];exact I.mod.glob.keeps I.bk) hm h) hd
theorem Xhl {E:Value -> Shared -> Prop} {pins:List (Addr × Obj)} {s:Shared} {σ:St} {H:Hp} {x:Str} {u:Value} {pos:Pos} {Q:Value -> Shared -> Prop} (I:Inv X pins σ H s) (hg:Gl X x) (hm:X.mg x = none) (hv:bootBuiltins x = some u) (h:Q u s)
(hn:x ≠ "__name__" := by decide) (hd:(x == ("__debug__" : Str)) = false:=by decide):wpAny (model X.prog X.w) X.A (eval (.Name x pos) X.env) Q E s:=by
 obtain ⟨mb,h1,h2⟩:=I.mod.blt;exact Calls.Name_function_global I.ok.kind hg (Calls.loadGlobal_builtin (by rw [I.ok.glob];exact I.mod.glob.keeps I.bk) hm (by rw [I.ok.blt];exact h1.keeps I.bk) ((h2 x hn).trans hv) h) hd
theorem Xsr {x:Str} {v:V} {u:Value} {pos:Pos} (hg:Gl X x) (hm:X.mg x = none) (hv:bootBuiltins x = some u) (r:RelV v u) (hn:x ≠ "__name__" := by decide) (hd:(x == ("__debug__" : Str)) = false:=by decide):PE X (.Name x pos) (tC v) :=
 λ_ _ _ H _ I h=>Xhl I hg hm hv ⟨v,H,I,r,h⟩ hn hd
variable {a b:Expr} {ta tb:TE} {pos:Pos}
def PC (X:Cx) (op:CmpOp) (a b:Expr) (t:TE):Prop :=
 ∀ (pins:List (Addr × Obj)) (s:Shared) (σ:St) (H:Hp) (Q:VK),Inv X pins σ H s -> t σ H Q ->
  wpAny (model X.prog X.w) X.A (eval a X.env) (λv s₁=>wpAny (model X.prog X.w) X.A (eval b X.env) (λu s₂=>wpAny (model X.prog X.w) X.A (compareOp op v u) (EP X pins σ Q) X.xe s₂) X.xe s₁) X.xe s
def tB (t:TE):TT:=λσ H Q=>t σ H λx H1=>∃ c,x = .bl c /\ Q c H1
theorem Xqy {op:CmpOp} {t:TE} (h:PC X op a b t) (h1:behindInMarks op b = false:=by first | exact nobehind _ (by decide) (by decide) | rfl):PT X (.Compare a [op] [b] pos) (tB t):=by
 intro pins s σ H Q I hw;refine wpAny_isTrue_Compare1 (thn (h pins s σ H _ I hw) λv s1 h1=>thn h1 λu s2 h2=>thn h2 λc s3 ⟨x,H1,I1,r1,q1⟩=>?_) h1;obtain ⟨d,rfl,q⟩:=q1;cases r1;exact wpAny_truthy_bool ⟨H1,I1,q⟩
theorem Xuv {e:Expr} {t:TE} (h:PE X e t) (he:∀ whole,isTrue e X.env whole = (do let v <- whole;standAt e.pos;holding [v] (truthy v)):=by intro _;rfl):PT X e (tB t):=by
 intro pins s σ H Q I hw;refine isTrue_plain (thn (h pins s σ H _ I hw) λv s1 ⟨x,H1,I1,r1,q1⟩=>?_) (he _);obtain ⟨d,rfl,q⟩:=q1;cases r1;exact wpAny_truthy_bool ⟨H1,I1,q⟩
variable {tA tB':TT} {rest:List Expr}
def tAnd (t u:TT):TT:=λσ H Q=>t σ H λc H1=>if c = true then u σ H1 Q else Q false H1
def tOr (t u:TT):TT:=λσ H Q=>t σ H λc H1=>if c = true then Q true H1 else u σ H1 Q
def tNot (t:TT):TT:=λσ H Q=>t σ H λc H1=>Q (!c) H1
theorem Xsd (ha:PT X a tA):PW X (.BoolOp .And [a] pos) tA:=by
 intro wh pins s σ H Q I h;refine isTrue_and (thn (ha pins s σ H Q I h) λc s1 e=>?_)
 cases c with
 | true=>exact isTrue_and_nil e
 | false=>exact e
theorem Xus (ha:PT X a tA):PW X (.BoolOp .Or [a] pos) tA:=by
 intro wh pins s σ H Q I h;refine isTrue_or (thn (ha pins s σ H Q I h) λc s1 e=>?_)
 cases c with
 | false=>exact isTrue_or_nil e
 | true=>exact e
theorem Xut (ha:PT X a tA) (hb:PW X (.BoolOp .And (b :: rest) pos) tB'):PW X (.BoolOp .And (a :: b :: rest) pos) (tAnd tA tB'):=by
 intro wh pins s σ H Q I h;refine isTrue_and (thn (ha pins s σ H _ I h) λc s1 ⟨H1,I1,q1⟩=>?_)
 cases c with
 | true=>exact hb wh pins s1 σ H1 Q I1 q1
 | false=>exact ⟨H1,I1,q1⟩
theorem pw_or (ha:PT X a tA) (hb:PW X (.BoolOp .Or (b :: rest) pos) tB'):PW X (.BoolOp .Or (a :: b :: rest) pos) (tOr tA tB'):=by
 intro wh pins s σ H Q I h;refine isTrue_or (thn (ha pins s σ H _ I h) λc s1 ⟨H1,I1,q1⟩=>?_)
 cases c with
 | true=>exact ⟨H1,I1,q1⟩
 | false=>exact hb wh pins s1 σ H1 Q I1 q1
theorem Xuw (ha:PT X a tA):PT X (.UnaryOp .Not a pos) (tNot tA):=by
 intro pins s σ H Q I h;exact isTrue_not (ha pins s σ H (λc H1=>Q (!c) H1) I h)
def tAndV (ta tb:TE):TE:=λσ H Q=>ta σ H λx H1=>∃ c,x = .bl c /\ if c = true then tb σ H1 Q else Q (.bl false) H1
def tNotV (ta:TE):TE:=λσ H Q=>ta σ H λx H1=>∃ c,x = .bl c /\ Q (.bl (!c)) H1
theorem Xvc {op} {t:TE} (h:PE X a t):PE X (.BoolOp op [a] pos) t:=λpins s σ H Q I hw=>BoolOp_one (h pins s σ H Q I hw)
theorem Xvi (ha:PE X a ta) (hb:PE X (.BoolOp .And (b :: rest) pos) tb):PE X (.BoolOp .And (a :: b :: rest) pos) (tAndV ta tb):=by
 intro pins s σ H Q I h;refine BoolOp_and (thn (ha pins s σ H _ I h) λv s1 ⟨x,H1,I1,r1,q1⟩=>?_);obtain ⟨c,rfl,q1⟩:=q1;cases r1;refine wpAny_truthy_bool ?_
 cases c with
 | true=>exact hb pins s1 σ H1 Q I1 q1
 | false=>exact ⟨.bl false,H1,I1,rfl,q1⟩
theorem Xvd (ha:PE X a ta):PE X (.UnaryOp .Not a pos) (tNotV ta):=by
 intro pins s σ H Q I h;refine UnaryOp_ (thn (ha pins s σ H _ I h) λv s1 ⟨x,H1,I1,r1,q1⟩=>?_);obtain ⟨c,rfl,q1⟩:=q1;cases r1;exact not_of (wpAny_truthy_bool ⟨.bl (!c),H1,I1,rfl,q1⟩)
end
def SqL (K:PySem.W.Frag) (H:Hp) (a:Addr) (xs:List V):Prop :=
 Rd H a (.lst xs) \/
  ∃ (o:Obj) (its:Array Value) (n:Nat),K.lookup a = some o /\ o.cls = .type "list" /\ o.dict = none /\ o.data = .seq its n /\ its.size <= sizeLine /\ Vals xs its.toList
def SqT (K:PySem.W.Frag) (H:Hp) (a:Addr) (xs:List V):Prop :=
 Rd H a (.tup xs) \/
  ∃ (o:Obj) (its:Array Value) (n:Nat),K.lookup a = some o /\ o.cls = .type "tuple" /\ o.data = .seq its n /\ its.size <= sizeLine /\ Vals xs its.toList
def absV:Value -> Option V
 | .none=>some .non
 | .bool b=>some (.bl b)
 | .int i _=>some (.int i)
 | .str x _=>some (.str x)
 | .bytes b _=>some (.byt b)
 | .float b _=>some (.flt b)
 | .ref a=>some (.ref a)
 | .type n=>some (.ty n)
 | _=>none
theorem RelV.abs {x:V} {u:Value} (r:RelV x u):absV u = some x:=by
 cases x with
 | non=>cases r;rfl
 | bl _=>cases r;rfl
 | int _=>obtain ⟨t,rfl⟩:=r;rfl
 | str _=>obtain ⟨t,rfl⟩:=r;rfl
 | byt _=>obtain ⟨t,rfl⟩:=r;rfl
 | flt _=>obtain ⟨t,rfl⟩:=r;rfl
 | ref _=>cases r;rfl
 | ty _=>cases r;rfl
theorem RelV.inj {x y:V} {u:Value} (r:RelV x u) (q:RelV y u):x = y:=Option.some.inj (r.abs.symm.trans q.abs)
theorem Vals.inj:∀ {xs ys:List V} {us:List Value},Vals xs us -> Vals ys us -> xs = ys
 | _,_,_,.nil,.nil=>rfl
 | _,_,_,.cons r t,.cons r' t'=>by rw [r.inj r',Vals.inj t t']
section
variable {X:Cx} {pins:List (Addr × Obj)} {σ:St} {H:Hp} {s:Shared} {a:Addr} {xs ys:List V}
theorem SqL.of {K:PySem.W.Frag} (h:H a = some (.lst xs)):SqL K H a xs:=.inl (.inl h)
theorem SqT.of {K:PySem.W.Frag} (h:H a = some (.tup xs)):SqT K H a xs:=.inl (.inl h)
theorem Inv.list (I:Inv X pins σ H s) (h:SqL X.K H a xs):∃ its:List Value,Vals xs its /\ PlainL s.heap a its.toArray /\ xs.length <= sizeLine:=by
 rcases h with h | ⟨o,its,n,hk,hc,hd,hs,hz,r⟩
 ·obtain ⟨z,its,n,r,e⟩:=h.ok I.hok
  exact ⟨its,r,⟨_,n,e,rfl,rfl,rfl⟩,z⟩
 ·refine ⟨its.toList,r,⟨o,n,I.kIn a o hk,hc,hd,by simpa using hs⟩,?_⟩
  have e:=r.length;simp only [Array.length_toList] at e;omega
theorem Inv.tuple (I:Inv X pins σ H s) (h:SqT X.K H a xs):∃ its:List Value,Vals xs its /\ IsTup s.heap a its.toArray /\ xs.length <= sizeLine:=by
 rcases h with h | ⟨o,its,n,hk,hc,hs,hz,r⟩
 ·obtain ⟨z,its,r,p⟩:=h.ok I.hok
  exact ⟨its,r,p,z⟩
 ·refine ⟨its.toList,r,⟨o,I.kIn a o hk,hc,n,by simpa using hs⟩,?_⟩
  have e:=r.length;simp only [Array.length_toList] at e;omega
theorem Inv.list_inj (I:Inv X pins σ H s) (h:SqL X.K H a xs) (h':SqL X.K H a ys):xs = ys:=by
 obtain ⟨its,r,⟨o,n,e,_,_,d⟩,_⟩:=I.list h;obtain ⟨its',r',⟨o',n',e',_,_,d'⟩,_⟩:=I.list h';rw [e] at e';cases e';rw [d] at d'
 injection d' with d1 _
 have : its = its':=by simpa using congrArg Array.toList d1
 subst this;exact r.inj r'
theorem Inv.tuple_inj (I:Inv X pins σ H s) (h:SqT X.K H a xs) (h':SqT X.K H a ys):xs = ys:=by
 obtain ⟨its,r,⟨o,e,_,n,d⟩,_⟩:=I.tuple h;obtain ⟨its',r',⟨o',e',_,n',d'⟩,_⟩:=I.tuple h';rw [e] at e';cases e';rw [d] at d'
 injection d' with d1 _
 have : its = its':=by simpa using congrArg Array.toList d1
 subst this;exact r.inj r'
end
abbrev Cx.wish (X:Cx) (E:Value -> Shared -> Prop):Cx:={ X with xe:=E }
abbrev Cx.nox (X:Cx):Cx:=X.wish λ_ _=>False
theorem Cx.Ok.wish {X:Cx} (ok:X.Ok) (E:Value -> Shared -> Prop):(X.wish E).Ok :=
 ⟨ok.mod,ok.kind,ok.glob,ok.blt,ok.above,ok.inj,ok.has,ok.cab,ok.hd,ok.frames,ok.stk,ok.exf,ok.bs,ok.bsz,ok.noex,ok.exfs,ok.funs,ok.frf⟩
theorem Cx.Ok.unwish {X:Cx} {E:Value -> Shared -> Prop} (ok:(X.wish E).Ok):X.Ok :=
 ⟨ok.mod,ok.kind,ok.glob,ok.blt,ok.above,ok.inj,ok.has,ok.cab,ok.hd,ok.frames,ok.stk,ok.exf,ok.bs,ok.bsz,ok.noex,ok.exfs,ok.funs,ok.frf⟩
section
variable {X:Cx} {pins:List (Addr × Obj)} {σ:St} {H:Hp} {s:Shared} {E:Value -> Shared -> Prop}
theorem Inv.wish (I:Inv X pins σ H s) (E:Value -> Shared -> Prop):Inv (X.wish E) pins σ H s:=⟨I.ok.wish E,I.os,I.bare,I.base,I.loc,I.cell,I.free,I.freeC,I.pin,I.hok,I.len⟩
theorem Inv.unwish (I:Inv (X.wish E) pins σ H s):Inv X pins σ H s:=⟨I.ok.unwish,I.os,I.bare,I.base,I.loc,I.cell,I.free,I.freeC,I.pin,I.hok,I.len⟩
theorem SP.unwish {D:Ends} {f:Flow} {s':Shared} (h:SP (X.wish E) pins D f s'):SP X pins D f s':=by
 cases f with
 | next=>obtain ⟨σ',H',I,q⟩:=h;exact ⟨σ',H',I.unwish,q⟩
 | brk=>obtain ⟨σ',H',I,q⟩:=h;exact ⟨σ',H',I.unwish,q⟩
 | cont=>obtain ⟨σ',H',I,q⟩:=h;exact ⟨σ',H',I.unwish,q⟩
 | ret u=>obtain ⟨v,σ',H',I,r,q⟩:=h;exact ⟨v,σ',H',I.unwish,r,q⟩
theorem PSs.nox {st:List Stmt} {t:TS} (h:PSs X.nox st t):PSs X st t:=λpins s σ H D I hw =>
 wpAny_mono (h pins s σ H D (I.wish _) hw) (λ_ _ q=>q.unwish) λ_ _ z=>False.elim z
end
section
variable {X:Cx} {st:Stmt} {rest:List Stmt} {t u:TS} {e:Expr} {te:TE} {pos:Pos}
def tNext:TS:=λD σ H=>D.nx σ H
def tSeq (t u:TS):TS:=λD σ H=>t { D with nx:=u D } σ H
theorem Xsg:PSs X [] tNext:=λ_ _ σ H _ I h=>wpAny_execs_nil ⟨σ,H,I,h⟩
theorem Xpf (h1:PS X st t) (h2:PSs X rest u):PSs X (st :: rest) (tSeq t u):=by
 intro pins s σ H D I h
 refine wpAny_execs_cons (thn (h1 pins s σ H { D with nx:=u D } I h) λf s1 q=>?_)
 cases f with
 | next =>
  obtain ⟨σ',H',I',q⟩:=q;exact h2 pins s1 σ' H' D I' q
 | ret v=>exact q
 | brk=>exact q
 | cont=>exact q
theorem Xsf (h1:PS X st t):PSs X [st] t:=by
 intro pins s σ H D I h;refine wpAny_execs_cons (thn (h1 pins s σ H D I h) λf s1 q=>?_)
 cases f with
 | next=>exact wpAny_execs_nil q
 | ret v=>exact q
 | brk=>exact q
 | cont=>exact q
theorem Inv.quiet {pins:List (Addr × Obj)} {σ:St} {H:Hp} {s:Shared} (I:Inv X pins σ H s):interactive X.env = false:=by simp [interactive,I.ok.kind]
def tDrop (te:TE):TS:=λD σ H=>te σ H λ_ H1=>D.nx σ H1
theorem Xsh (he:PE X e te) (hs:swapsWith e none pos.line X.env = pure false:=by rfl):PS X (.Expr e pos) (tDrop te):=by
 intro pins s σ H D I h;exact wpAny_Expr_any (thn (he pins s σ H _ I h) λv s1 ⟨x,H1,I1,r1,q1⟩=>⟨σ,H1,I1,q1⟩) I.quiet hs
def tRet (te:TE):TS:=λD σ H=>te σ H D.rt
theorem Xmr (he:PE X e te):PS X (.Return (some e) pos) (tRet te):=by
 intro pins s σ H D I h;exact wpAny_Return_some (thn (he pins s σ H _ I h) λv s1 ⟨x,H1,I1,r1,q1⟩=>⟨x,σ,H1,I1,r1,q1⟩)
def tIfS (c:TT) (t u:TS):TS:=λD σ H=>c σ H λb H1=>if b = true then t D σ H1 else u D σ H1
theorem ps_if {c:Expr} {a b:List Stmt} {tc:TT} (hc:PT X c tc) (ha:PSs X a t) (hb:PSs X b u):PS X (.If c a b pos) (tIfS tc t u):=by
 intro pins s σ H D I h;refine wpAny_If (thn (hc pins s σ H _ I h) λd s1 ⟨H1,I1,q1⟩=>?_)
 cases d with
 | true=>exact ha pins s1 σ H1 D I1 q1
 | false=>exact hb pins s1 σ H1 D I1 q1
end
abbrev TG:=V -> St -> Hp -> (St -> Hp -> Prop) -> Prop
abbrev TGs:=List V -> St -> Hp -> (St -> Hp -> Prop) -> Prop
def PG (X:Cx) (target:Expr) (t:TG):Prop :=
 ∀ (pins:List (Addr × Obj)) (s:Shared) (σ:St) (H:Hp) (v:V) (u:Value) (Q:St -> Hp -> Prop),Inv X pins σ H s -> RelV v u -> t v σ H Q ->
  wpAny (model X.prog X.w) X.A (assign target X.env u) (λ_ s'=>∃ σ' H',Inv X pins σ' H' s' /\ Q σ' H') X.xe s
def PGs (X:Cx) (ts:List Expr) (t:TGs):Prop :=
 ∀ (pins:List (Addr × Obj)) (s:Shared) (σ:St) (H:Hp) (vs:List V) (us:List Value) (Q:St -> Hp -> Prop),Inv X pins σ H s -> Vals vs us -> t vs σ H Q ->
  wpAny (model X.prog X.w) X.A (assignInOrder ((assignEach ts X.env).map (·.2)) us) (λ_ s'=>∃ σ' H',Inv X pins σ' H' s' /\ Q σ' H') X.xe s
abbrev TIp:=V -> V -> Hp -> VK -> Prop
def PIp (X:Cx) (op:Operator) (t:TIp):Prop :=
 ∀ (pins:List (Addr × Obj)) (s:Shared) (σ:St) (H:Hp) (x y:V) (v u:Value) (Q:VK),Inv X pins σ H s -> RelV x v -> RelV y u -> t x y H Q ->
  wpAny (model X.prog X.w) X.A (inplaceOp op v u) (EP X pins σ Q) X.xe s
section
variable {X:Cx} {pos:Pos}
def gName (i:Nat):TG:=λv σ H Q=>Q (σ.set i (some v)) H
theorem Xge {i:Nat} {x:Str} (hN:X.N.Nodup) (hi:X.N[i]? = some x) (hx:Loc X.env.scope x) (hf:X.fn x = true \/ X.env.scope.names.lookup x = some .local:=by first | exact .inl rfl | exact .inr rfl | assumption):PG X (.Name x pos) (gName i):=by
 intro pins s σ H v u Q I r h;exact wpAny_assign_Name (Xfv I hN hi hx r (λs' I'=>⟨_,H,I',h⟩) hf)
def gNil:TGs:=λvs σ H Q=>vs = [] /\ Q σ H
def gCons (t:TG) (u:TGs):TGs:=λvs σ H Q=>∃ v r,vs = v :: r /\ t v σ H λσ' H'=>u r σ' H' Q
theorem Xmv:PGs X [] gNil:=by
 intro pins s σ H vs us Q I r h;obtain ⟨e,h⟩:=h;subst e;cases r;exact assignInOrder_nil ⟨σ,H,I,h⟩
theorem Xjr {e:Expr} {es:List Expr} {t:TG} {u:TGs} (h1:PG X e t) (h2:PGs X es u)
(hs:(assignEach (e :: es) X.env).map (·.2) = assign e X.env :: (assignEach es X.env).map (·.2):=by rfl):PGs X (e :: es) (gCons t u):=by
 intro pins s σ H vs us Q I r h;obtain ⟨v,vr,e1,h⟩:=h;subst e1
 cases r with
 | cons r rr =>
  rw [hs];refine assignInOrder_cons (thn (h1 pins s σ H _ _ _ I r h) λ_ s1 ⟨σ1,H1,I1,q1⟩=>?_);exact h2 pins s1 σ1 H1 _ _ Q I1 rr q1
def gTup (K:PySem.W.Frag) (n:Nat) (t:TGs):TG:=λv σ H Q=>∃ a xs,v = .ref a /\ SqT K H a xs /\ xs.length = n /\ t xs σ H Q
theorem Xrb {es:List Expr} {k:Nat} {t:TGs} {n:Nat} (hc:X.calm = true) (h:PGs X es t)
(hn:(assignEach es X.env).length = n:=by rfl) (hst:(assignEach es X.env).findIdx? (·.1) = none:=by rfl):PG X (.Tuple es k pos) (gTup X.K n t):=by
 intro pins s σ H v u Q I r hw;obtain ⟨a,xs,e1,hq,hl,hw⟩:=hw;subst e1;cases r;obtain ⟨its,rv,ht,hz⟩:=I.tuple hq;refine assign_Tuple_tuple (I.ok.hd hc) ht (by simp [hn,<- hl,rv.length]) hst λh' hx=>?_
 have I1:Inv X pins σ H { s with heap:=h' }:=I.kept (t':=s.toks) λb o e=>hx b o (Nat.ne_of_lt (Heap.lt_size e)) e
 exact h pins _ σ H xs _ Q I1 (by simpa using rv) hw
def tAsg (te:TE) (g:TG):TS:=λD σ H=>te σ H λx H1=>g x σ H1 D.nx
theorem Xuy {tg e:Expr} {te:TE} {g:TG} (he:PE X e te) (hg:PG X tg g) (hs:swapsWithSole [tg] e pos.line X.env = pure false:=by rfl) (hw:swappedStores [tg] e X.env = pure none:=by rfl)
(h1:(assignEach [tg] X.env).map (·.2) = [assign tg X.env]:=by rfl):PS X (.Assign [tg] e pos) (tAsg te g):=by
 intro pins s σ H D I h;refine wpAny_Assign_stores (thn (he pins s σ H _ I h) λv s1 ⟨x,H1,I1,r1,q1⟩=>?_) hs hw;rw [h1];exact thn (hg pins s1 σ H1 x v _ I1 r1 q1) λ_ s2 q=>q
theorem Xqz {i:Nat} {x:Str} {e:Expr} {te:TE} {pos':Pos} (hN:X.N.Nodup) (hi:X.N[i]? = some x) (hx:Loc X.env.scope x) (he:PE X e te) (hs:swapsWith e (some (.Name x pos')) pos.line X.env = pure false:=by rfl) (hf:X.fn x = true \/ X.env.scope.names.lookup x = some .local:=by first | exact .inl rfl | exact .inr rfl | assumption) :
PS X (.Assign [.Name x pos'] e pos) (tAsg te (gName i)):=by
 intro pins s σ H D I h;refine wpAny_Assign_Name (thn (he pins s σ H _ I h) λv s1 ⟨y,H1,I1,r1,q1⟩=>?_) hs;exact Xfv I1 hN hi hx r1 (λs2 I2=>⟨_,H1,I2,q1⟩) hf
def tAug (i:Nat) (te:TE) (ti:TIp):TS:=λD σ H=>∃ x,σ[i]? = some (some x) /\ te σ H λy H1=>ti x y H1 λz H2=>D.nx (σ.set i (some z)) H2
theorem Xux {i:Nat} {x:Str} {e:Expr} {te:TE} {op:Operator} {ti:TIp} {pos':Pos} (hN:X.N.Nodup) (hi:X.N[i]? = some x) (hx:Loc X.env.scope x) (he:PE X e te) (ho:PIp X op ti) (hf:X.fn x = true \/ X.env.scope.names.lookup x = some .local:=by first | exact .inl rfl | exact .inr rfl | assumption) :
PS X (.AugAssign (.Name x pos') op e pos) (tAug i te ti):=by
 intro pins s σ H D I h;obtain ⟨v,e1,h⟩:=h;obtain ⟨m,hn,hl⟩:=I.loc
 have vis:Vis X.env.scope x:=by rcases hx with k | k;exact .inl k;exact .inr (.inl k)
 obtain ⟨u,r,l⟩:=hl i x v hi e1 vis;refine wpAny_AugAssign_Name ?_;have go:wpAny (model X.prog X.w) X.A (eval e X.env) (λw s₂=>wpAny (model X.prog X.w) X.A (inplaceOp op u w) (λr s₃=>wpAny (model X.prog X.w) X.A (storeName X.env x r) (λ_=>SP X pins D .next) X.xe s₃) X.xe s₂) X.xe s:=by
  refine thn (he pins s σ H _ I h) λw s1 ⟨y,H1,I1,r1,q1⟩=>?_
  refine thn (ho pins s1 σ H1 v y u w _ I1 r r1 q1) λz s2 ⟨zv,H2,I2,r2,q2⟩=>?_
  exact Xfv I2 hN hi hx r2 (λs3 I3=>⟨_,H2,I3,q2⟩) hf
 rcases l with ⟨hk,hm⟩ | ⟨hk,c,hc,hcell⟩
 ·exact wpAny_loadName_local I.ok.kind hk hn hm go
 ·rcases hk with hk | hk
  ·exact wpAny_loadName_cell I.ok.kind hk hc hcell go
  ·rcases hx with k | k
   ·have : X.env.scope.names.lookup x = some .free:=hk
    rw [k] at this;cases this
   ·have : X.env.scope.names.lookup x = some .free:=hk
    rw [k] at this;cases this
def ipI (f:Int -> Int -> Int):TIp:=λx y H Q=>∃ i j,x = .int i /\ y = .int j /\ Q (.int (f i j)) H
theorem Xwo:PIp X .Add (ipI λi j=>i + j):=by
 intro pins s σ H x y v u Q I r1 r2 h;obtain ⟨i,j,e1,e2,q⟩:=h;subst e1;subst e2;obtain ⟨t,rfl⟩:=r1;obtain ⟨t',rfl⟩:=r2;exact iadd_int ⟨.int _,H,I.tok _,⟨_,rfl⟩,q⟩
end
section
variable {X:Cx} {pos:Pos}
def Xuh (c:TT) (tb:TS):TS:=λD σ H=>∃ W:Nat -> St -> Hp -> Prop,(∃ m,W m σ H) /\ ∀ m σ H,W m σ H ->
 c σ H λb H1=>if b = true then ∃ N:St -> Hp -> Prop,(∀ σ' H',N σ' H' -> ∃ m',m' < m /\ W m' σ' H') /\ tb { D with nx:=N,ct:=N,bk:=D.nx } σ H1 else D.nx σ H1
theorem Xpg {c:Expr} {body:List Stmt} {tc:TT} {tb:TS} (hp:PassesOwn (model X.prog X.w) X.A X.env X.xe) (hc:PT X c tc) (hb:PSs X body tb):PS X (.While c body [] pos) (Xuh tc tb):=by
 intro pins s σ H D I h;obtain ⟨W,⟨m0,w0⟩,turn⟩:=h;refine wpAny_While (codeAny_whileLoop (λn s'=>∃ σ' H',Inv X pins σ' H' s' /\ W n σ' H') ?_ m0 ⟨σ,H,I,w0⟩);rintro n s1 ⟨σ1,H1,I1,w1⟩;refine wpAny_passesOwn hp (thn (hc pins s1 σ1 H1 _ I1 (turn n σ1 H1 w1)) λb s2 ⟨H2,I2,q2⟩=>?_)
 cases b with
 | true =>
  obtain ⟨N,hN,q2⟩:=q2;rw [if_pos rfl];refine wpAny_passesOwn hp (thn (hb pins s2 σ1 H2 _ I2 q2) λf s3 q3=>?_)
  cases f with
  | next =>
   obtain ⟨σ3,H3,I3,n3⟩:=q3;obtain ⟨m',hm,w3⟩:=hN σ3 H3 n3;exact ⟨m',hm,σ3,H3,I3,w3⟩
  | cont =>
   obtain ⟨σ3,H3,I3,n3⟩:=q3;obtain ⟨m',hm,w3⟩:=hN σ3 H3 n3;exact ⟨m',hm,σ3,H3,I3,w3⟩
  | brk=>exact q3
  | ret v=>exact q3
 | false =>
  rw [if_neg Bool.false_ne_true];exact wpAny_execs_nil ⟨σ1,H2,I2,q2⟩
end
structure It where
 go:Nat -> Hp -> Prop
 yld:Nat -> Hp -> V -> Hp -> Prop
 stop:Nat -> Hp -> Prop
def FpOk (X:Cx) (pins:List (Addr × Obj)) (H:Hp) (b:Addr):Prop :=
 H b = none /\ b ≠ X.env.locals /\ b ∉ X.fs /\ (b ∈ X.ex \/ X.s₀.heap.objs.size <= b) /\ (∀ x c,X.env.cells.lookup x = some c -> c ≠ b) /\ ∀ p ∈ X.pn ++ pins,p.1 ≠ b
theorem Inv.fpOk {X:Cx} {pins:List (Addr × Obj)} {σ:St} {H H':Hp} {s:Shared} {b:Addr} (I:Inv X pins σ H s) (hb:s.heap.objs.size <= b) (hn:H' b = none):FpOk X pins H' b:=by
 refine ⟨hn,Nat.ne_of_gt (Nat.lt_of_lt_of_le I.lt hb),I.nofs hb,.inr (Nat.le_trans I.sz hb),λx c e z=>?_,λp hp z=>?_⟩
 ·obtain ⟨v,q⟩:=I.cell x c e
  exact absurd (Nat.lt_of_lt_of_le q.lt (by rw [z];exact hb)) (Nat.lt_irrefl _)
 ·exact absurd (Nat.lt_of_lt_of_le (Heap.lt_size (I.pin p hp).1) (by rw [z];exact hb)) (Nat.lt_irrefl _)
structure Turn (P:Program) (w:World) (K:PySem.W.Frag) (tg:Expr) (J:It) (fp:List Addr) (it:Addr) (tn:Nat -> Heap -> Prop):Prop where
 mem:it ∈ fp
 obj:∀ i h,tn i h -> ∀ b ∈ fp,∃ o,h.get? b = some o /\ ∀ v,o.data ≠ .cell v
 keep:∀ i h h',tn i h -> (∀ b ∈ fp,∀ o,h.get? b = some o -> h'.get? b = some o) -> tn i h'
 item:∀ (X:Cx),X.prog = P -> X.w = w -> X.K = K -> X.calm = true -> ∀ (i:Nat) (pins:List (Addr × Obj)) (s:Shared) (σ:St) (H:Hp) (E:Value -> Shared -> Prop),Inv X pins σ H s -> (∀ b ∈ fp,FpOk X pins H b) -> tn i s.heap -> J.go i H ->
  wpAny (model P w) X.A (pyNext (.ref it)) (λr s1=>∃ u,r = some u /\
   wpAny (model P w) X.A (letOwnedTupleGo tg (.ref it) u) (λ_ s2=>∃ x H',Inv X pins σ H' s2 /\ RelV x u /\ J.yld i H x H' /\ tn (i + 1) s2.heap /\ ∀ b ∈ fp,H' b = none) E s1) E s
 done:∀ (X:Cx),X.prog = P -> X.w = w -> X.K = K -> X.calm = true -> ∀ (i:Nat) (pins:List (Addr × Obj)) (s:Shared) (σ:St) (H:Hp) (E:Value -> Shared -> Prop),Inv X pins σ H s -> (∀ b ∈ fp,FpOk X pins H b) -> tn i s.heap -> J.stop i H ->
  wpAny (model P w) X.A (pyNext (.ref it)) (λr s1=>r = none /\ Inv X pins σ H s1) E s
 self:∀ (A:Around) (i:Nat) (s:Shared) (Q:Value -> Shared -> Prop) (E:Value -> Shared -> Prop),tn i s.heap -> Q (.ref it) s -> wpAny (model P w) A (pyIter (.ref it)) Q E s
abbrev TI:=St -> Hp -> (It -> Hp -> Prop) -> Prop
def PIE (X:Cx) (pins:List (Addr × Obj)) (σ:St) (tg:Expr) (R:It -> Hp -> Prop) (itv:Value) (s2:Shared):Prop :=
 ∃ (it:Addr) (fp:List Addr) (tn:Nat -> Heap -> Prop) (J:It) (H':Hp),itv = .ref it /\ Inv X pins σ H' s2 /\ Turn X.prog X.w X.K tg J fp it tn /\ tn 0 s2.heap /\ (∀ b ∈ fp,FpOk X pins H' b) /\ R J H'
def PI (X:Cx) (tg iter:Expr) (wi:TI):Prop :=
 ∀ (pins:List (Addr × Obj)) (s:Shared) (σ:St) (H:Hp) (R:It -> Hp -> Prop),Inv X pins σ H s -> wi σ H R ->
  wpAny (model X.prog X.w) X.A (eval iter X.env) (λv s1=>wpAny (model X.prog X.w) X.A (pyIter v) (PIE X pins σ tg R) X.xe s1) X.xe s
theorem go_of {M:Model} {A:Around} {E:Value -> Shared -> Prop} {s:Shared} {tg:Expr} {it:Addr} {u:Value} {o:Obj} {n:String} {vs:Array Value} {Q:Unit -> Shared -> Prop} (ho:s.heap.get? it = some o) (hc:o.cls = .type n) (hd:o.data = .fields vs)
 (hn:["enumerate", "zip", "dict_itemiterator", "dict_reverseitemiterator", "odict_iterator", "itertools.zip_longest", "itertools.pairwise"].contains n = false) (hQ:Q () s):wpAny M A (letOwnedTupleGo tg (.ref it) u) Q E s:=by
  unfold letOwnedTupleGo
  cases tg <;> first
    | exact wpAny_pure hQ
    | (cases u <;> first
        | exact wpAny_pure hQ
        | (refine wpAny_bind (wpAny_load ho ?_)
           rw [hc,hd]
           show wpAny M A (if (["enumerate", "zip", "dict_itemiterator", "dict_reverseitemiterator", "odict_iterator", "itertools.zip_longest", "itertools.pairwise"].contains n && vs[0]? == some (rawInt _)) = true then _ else _) Q E s
           rw [if_neg (by intro h;rw [hn,Bool.false_and] at h;cases h)]
           exact wpAny_pure hQ))
def Itl (K:PySem.W.Frag) (a:Addr):It :=
 ⟨λi H=>∃ xs x,SqL K H a xs /\ xs[i]? = some x,λi H x H'=>H' = H /\ ∀ xs,SqL K H a xs -> xs[i]? = some x,λi H=>∃ xs,SqL K H a xs /\ xs.length <= i⟩
def Itt (K:PySem.W.Frag) (a:Addr):It :=
 ⟨λi H=>∃ xs x,SqT K H a xs /\ xs[i]? = some x,λi H x H'=>H' = H /\ ∀ xs,SqT K H a xs -> xs[i]? = some x,λi H=>∃ xs,SqT K H a xs /\ xs.length <= i⟩
def Itr (lo:Int) (n:Nat):It:=⟨λi _=>i < n,λi H x H'=>H' = H /\ x = .int (lo + i),λi _=>n <= i⟩
theorem Xlw {P:Program} {w:World} {K:PySem.W.Frag} {tg:Expr} (a it:Addr):Turn P w K tg (Itl K a) [it] it (λi h=>h.IsListIter it a i) where
 mem:=by simp
 obj:=λi h st b hb=>by
  have e:b = it:=by simpa using hb
  subst e;obtain ⟨o,e,c,d⟩:=st;exact ⟨o,e,λv z=>by rw [d] at z;cases z⟩
 keep:=λi h h' st k=>st.at λo e=>k it (by simp) o e
 item:=by
  intro X hP hw hK hc i pins s σ H E I hf st hg;subst hP hw hK;obtain ⟨xs,x,hq,hx⟩:=hg;obtain ⟨its,rv,p,hz⟩:=I.list hq;obtain ⟨u,hu,ru⟩:=rv.get hx;obtain ⟨f0,f1,f2,f3,f4,f5⟩:=hf it (by simp);refine wpAny_pyNext_list_item st p.isList (x:=u) (by simpa using hu) λh' st' sb=>?_
  have I1:Inv X pins σ H { s with heap:=h' }:=I.turned (t':=s.toks) (λb o hb e=>(sb.2 b hb).trans e) f0 f1 f3 f4 f5;obtain ⟨o,e,c,d⟩:=id st'
  exact ⟨u,rfl,go_of (s:={ s with heap:=h' }) e c d (by decide) ⟨x,H,I1,ru,⟨rfl,λys hy=>by rw [I.list_inj hy hq];exact hx⟩,st',λb hb=>(hf b hb).1⟩⟩
 done:=by
  intro X hP hw hK hc i pins s σ H E I hf st hg;subst hP hw hK;obtain ⟨xs,hq,hx⟩:=hg;obtain ⟨its,rv,p,hz⟩:=I.list hq;obtain ⟨f0,f1,f2,f3,f4,f5⟩:=hf it (by simp);have hl:=rv.length;exact wpAny_pyNext_list_end (I.ok.hd hc) st p.isList (by simp;omega) λh' eb=>⟨rfl,I.turned (t':=s.toks) (λb o hb e=>eb b o hb e) f0 f1 f3 f4 f5⟩
 self:=λ_ _ _ _ _ st h=>wpAny_pyIter_listiter st h
theorem Xkv {P:Program} {w:World} {K:PySem.W.Frag} {tg:Expr} (a it:Addr):Turn P w K tg (Itt K a) [it] it (λi h=>h.IsTupleIter it a i) where
 mem:=by simp
 obj:=λi h st b hb=>by
  have e:b = it:=by simpa using hb
  subst e;obtain ⟨o,e,c,d⟩:=st;exact ⟨o,e,λv z=>by rw [d] at z;cases z⟩
 keep:=λi h h' st k=>st.at λo e=>k it (by simp) o e
 item:=by
  intro X hP hw hK hc i pins s σ H E I hf st hg;subst hP hw hK;obtain ⟨xs,x,hq,hx⟩:=hg;obtain ⟨its,rv,p,hz⟩:=I.tuple hq;obtain ⟨u,hu,ru⟩:=rv.get hx;obtain ⟨f0,f1,f2,f3,f4,f5⟩:=hf it (by simp);refine wpAny_pyNext_tuple_item st (show s.heap.IsTuple a its.toArray from p) (x:=u) (by simpa using hu) λh' st' sb=>?_
  have I1:Inv X pins σ H { s with heap:=h' }:=I.turned (t':=s.toks) (λb o hb e=>(sb.2 b hb).trans e) f0 f1 f3 f4 f5;obtain ⟨o,e,c,d⟩:=id st'
  exact ⟨u,rfl,go_of (s:={ s with heap:=h' }) e c d (by decide) ⟨x,H,I1,ru,⟨rfl,λys hy=>by rw [I.tuple_inj hy hq];exact hx⟩,st',λb hb=>(hf b hb).1⟩⟩
 done:=by
  intro X hP hw hK hc i pins s σ H E I hf st hg;subst hP hw hK;obtain ⟨xs,hq,hx⟩:=hg;obtain ⟨its,rv,p,hz⟩:=I.tuple hq;obtain ⟨f0,f1,f2,f3,f4,f5⟩:=hf it (by simp);have hl:=rv.length;exact wpAny_pyNext_tuple_end (I.ok.hd hc) st (show s.heap.IsTuple a its.toArray from p) (by simp;omega) λh' eb=>⟨rfl,I.turned (t':=s.toks) (λb o hb e=>eb b o hb e) f0 f1 f3 f4 f5⟩
 self:=λ_ _ _ _ _ st h=>wpAny_pyIter_tupleiter st h
theorem Xkw {P:Program} {w:World} {K:PySem.W.Frag} {tg:Expr} (it:Addr) (lo:Int) (n:Nat):Turn P w K tg (Itr lo n) [it] it (λi h=>IsRangeIter h it (lo + (i:Nat) * 1) ((n:Int) - (i:Nat)) 1) where
 mem:=by simp
 obj:=λi h st b hb=>by
  have e:b = it:=by simpa using hb
  subst e
  exact ⟨_,st,λv z=>by
   have z':Data.fields _ = Data.cell v:=z
   cases z'⟩
 keep:=λi h h' st k=>k it (by simp) _ st
 item:=by
  intro X hP hw hK hc i pins s σ H E I hf st hg;subst hP hw hK;obtain ⟨f0,f1,f2,f3,f4,f5⟩:=hf it (by simp);have W:=Walks.range (prog:=X.prog) (w:=X.w) (I.ok.hd hc) it lo 1 n;refine W.item i s _ _ hg st λv h' tk hv st' kk=>?_
  obtain ⟨t,rfl⟩:=hv
  have I1:Inv X pins σ H { s with heap:=h',toks:=tk }:=I.turned (λb o hb e=>kk b o (by simpa using hb) e) f0 f1 f3 f4 f5
  refine ⟨_,rfl,go_of (s:={ s with heap:=h',toks:=tk }) (n := "range_iterator") st' rfl rfl (by decide) ⟨.int (lo + i),H,I1,⟨t,?_⟩,⟨rfl,rfl⟩,st',λb hb=>(hf b hb).1⟩⟩;rw [Int.mul_one]
 done:=by
  intro X hP hw hK hc i pins s σ H E I hf st hg;subst hP hw hK;obtain ⟨f0,f1,f2,f3,f4,f5⟩:=hf it (by simp);exact wpAny_pyNext_range_end (I.ok.hd hc) st (by have : n <= i:=hg;omega) λh' eb=>⟨rfl,I.turned (t':=s.toks) (λb o hb e=>eb b o hb e) f0 f1 f3 f4 f5⟩
 self:=λ_ _ _ _ _ st h=>wpAny_pyIter_rangeiter st h
section
variable {X:Cx} {tg:Expr}
def iList (K:PySem.W.Frag) (tl:TE):TI:=λσ H R=>tl σ H λx H1=>∃ a,x = .ref a /\ (∃ xs,SqL K H1 a xs) /\ R (Itl K a) H1
def iTup (K:PySem.W.Frag) (tl:TE):TI:=λσ H R=>tl σ H λx H1=>∃ a,x = .ref a /\ (∃ xs,SqT K H1 a xs) /\ R (Itt K a) H1
theorem Xcx {l:Expr} {tl:TE} (hl:PE X l tl):PI X tg l (iList X.K tl):=by
 intro pins s σ H R I h;refine thn (hl pins s σ H _ I h) λv s1 ⟨x,H1,I1,r1,q1⟩=>?_
 obtain ⟨a,e,⟨xs,hq⟩,q⟩:=q1;subst e;cases r1;obtain ⟨its,rv,p,hz⟩:=I1.list hq;refine wpAny_pyIter_list p.isList ?_;refine ⟨s1.heap.objs.size,[s1.heap.objs.size],_,_,H1,rfl,I1.kept (t':=s1.toks) λb o e=>Heap.get?_push_of_some _ e,Xlw a _,⟨_,Heap.get?_push_size _ rfl,rfl,rfl⟩,λb hb=>?_,q⟩;have e:b = s1.heap.objs.size:=by simpa using hb
 subst e;exact I1.fpOk (Nat.le_refl _) (I1.hok.fresh (Nat.le_refl _))
theorem Xra {l:Expr} {tl:TE} (hl:PE X l tl):PI X tg l (iTup X.K tl):=by
 intro pins s σ H R I h;refine thn (hl pins s σ H _ I h) λv s1 ⟨x,H1,I1,r1,q1⟩=>?_
 obtain ⟨a,e,⟨xs,hq⟩,q⟩:=q1;subst e;cases r1;obtain ⟨its,rv,p,hz⟩:=I1.tuple hq;refine wpAny_pyIter_tuple (show s1.heap.IsTuple a its.toArray from p) ?_;refine ⟨s1.heap.objs.size,[s1.heap.objs.size],_,_,H1,rfl,I1.kept (t':=s1.toks) λb o e=>Heap.get?_push_of_some _ e,Xkv a _,⟨_,Heap.get?_push_size _ rfl,rfl,rfl⟩,λb hb=>?_,q⟩;have e:b = s1.heap.objs.size:=by simpa using hb
 subst e;exact I1.fpOk (Nat.le_refl _) (I1.hok.fresh (Nat.le_refl _))
theorem Xpb {pins:List (Addr × Obj)} {σ:St} {H:Hp} {s:Shared} {R:It -> Hp -> Prop} {E:Value -> Shared -> Prop} {lo hi:Int} {t u v:Tok} {tk:Nat} (I:Inv X pins σ H s) (h1 : -(2 ^ 62) <= lo) (h2:lo < 2 ^ 62) (h3 : -(2 ^ 62) <= hi) (h4:hi < 2 ^ 62)
(q:R (Itr lo (hi - lo).toNat) H):wpAny (model X.prog X.w) X.A (pyIter (.ref s.heap.objs.size)) (PIE X pins σ tg R) E { s with heap:=s.heap.push { cls:=.type "range", data:=.fields #[.int lo t,.int hi u,.int 1 v] },toks:=tk }:=by
 refine wpAny_pyIter_range (IsRange.new ..) (small_one h1 h2 h3 h4) ?_
 have I1:Inv X pins σ H { s with heap:=s.heap.push { cls:=.type "range", data:=.fields #[.int lo t,.int hi u,.int 1 v] },toks:=tk }:=I.kept λb o e=>Heap.get?_push_of_some _ e
 refine ⟨(s.heap.push { cls:=.type "range", data:=.fields #[.int lo t,.int hi u,.int 1 v] }).objs.size,[(s.heap.push { cls:=.type "range", data:=.fields #[.int lo t,.int hi u,.int 1 v] }).objs.size],_,_,H,rfl,
  I1.kept (t':=tk) λb o e=>Heap.get?_push_of_some _ e,Xkw _ lo (hi - lo).toNat,?_,λb hb=>?_,q⟩
 ·have e1:lo + ((0:Nat):Int) * 1 = lo:=by simp
  have e2:(((hi - lo).toNat:Nat):Int) - ((0:Nat):Int) = Builtin.Range.rangeSize lo hi 1:=by rw [rangeSize_one];split <;> omega
  show IsRangeIter _ _ (lo + ((0:Nat):Int) * 1) ((((hi - lo).toNat:Nat):Int) - ((0:Nat):Int)) 1
  rw [e1,e2];exact Heap.get?_push_size _ rfl
 ·have e:b = (s.heap.push { cls:=.type "range", data:=.fields #[.int lo t,.int hi u,.int 1 v] }).objs.size:=by simpa using hb
  subst e;exact I1.fpOk (Nat.le_refl _) (I1.hok.fresh (Nat.le_refl _))
def iRng1 (ta:TA):TI:=λσ H R=>ta σ H λvs H1=>∃ j:Int,vs = [.int j] /\ -(2 ^ 62) <= j /\ j < 2 ^ 62 /\ R (Itr 0 j.toNat) H1
theorem Xmu {a:Expr} {ta:TA} {p pos:Pos} (hg:Gl X "range") (hm:X.mg "range" = none) (ha:PA X [a] ta) (hs:starEach [a] X.env = [(false,eval a X.env)]:=by rfl):PI X tg (.Call (.Name "range" p) [a] [] pos) (iRng1 ta):=by
 intro pins s σ H R I h;refine Call_ (Xhl I hg hm boot_range (PyProof.Rows.callWith_type1 (thn (ha pos pins s σ H _ I h) λus s1 ⟨vs,H1,I1,r1,q1⟩=>?_) hs rfl));obtain ⟨j,e,q1,q2,q⟩:=q1;subst e
 cases r1 with
 | cons r rr =>
  cases rr;obtain ⟨t,rfl⟩:=r;exact call_range_1 (Xpb I1 (by omega) (by omega) q1 q2 (by simpa using q))
def tFor (wi:TI) (g:TG) (tb:TS):TS:=λD σ H=>wi σ H λJ H1=>∃ W:Nat -> Nat -> St -> Hp -> Prop,(∃ m,W 0 m σ H1) /\ ∀ i m σ H,W i m σ H ->
 (J.stop i H /\ D.nx σ H) \/ (J.go i H /\ ∃ N:St -> Hp -> Prop,(∀ σ' H',N σ' H' -> ∃ m',m' < m /\ W (i + 1) m' σ' H') /\ ∀ x H',J.yld i H x H' -> g x σ H' λσ2 H2=>tb { D with nx:=N,ct:=N,bk:=D.nx } σ2 H2)
def Xdh (fp:List Addr) (h:Heap):List (Addr × Obj):=fp.filterMap λb=>(h.get? b).map λo=>(b,o)
theorem Xak {fp:List Addr} {h:Heap} {b:Addr} {o:Obj} (hb:b ∈ fp) (e:h.get? b = some o):(b,o) ∈ Xdh fp h:=List.mem_filterMap.mpr ⟨b,hb,by rw [e];rfl⟩
theorem Xnb {fp:List Addr} {h:Heap} {p:Addr × Obj} (hp:p ∈ Xdh fp h):p.1 ∈ fp /\ h.get? p.1 = some p.2:=by
 obtain ⟨b,hb,e⟩:=List.mem_filterMap.mp hp
 cases q:h.get? b with
 | none=>rw [q] at e;cases e
 | some o =>
  rw [q] at e;have e':(b,o) = p:=Option.some.inj e;subst e';exact ⟨hb,q⟩
theorem Inv.pinned {pins:List (Addr × Obj)} {σ:St} {H:Hp} {s:Shared} {fp:List Addr} (I:Inv X pins σ H s) (hf:∀ b ∈ fp,FpOk X pins H b) (ho:∀ b ∈ fp,∃ o,s.heap.get? b = some o /\ ∀ v,o.data ≠ .cell v):Inv X (pins ++ Xdh fp s.heap) σ H s :=
 I.pins_of λp hp=>(List.mem_append.mp hp).elim (λz=>I.pin p (List.mem_append_right _ z)) λz=>by
  obtain ⟨hb,e⟩:=Xnb z;obtain ⟨f0,f1,f2,_⟩:=hf p.1 hb;obtain ⟨o,e',d⟩:=ho p.1 hb;rw [e] at e';cases e';exact ⟨e,f0,f1,f2,d⟩
theorem Inv.unpinned {pins pl:List (Addr × Obj)} {σ:St} {H:Hp} {s:Shared} (I:Inv X (pins ++ pl) σ H s):Inv X pins σ H s:=I.pins_of λp hp=>I.pin p (List.mem_append_right _ (List.mem_append_left _ hp))
theorem Xjo {iter:Expr} {body:List Stmt} {wi:TI} {g:TG} {tb:TS} {pos:Pos} (hp:PassesOwn (model X.prog X.w) X.A X.env X.xe) (hc:X.calm = true) (hi:PI X tg iter wi) (hg:PG X tg g) (hb:PSs X body tb)
(hs:∀ x,foldedSetIterable iter X.env x = pure x:=by intro _;rfl):PS X (.For tg iter body [] pos) (tFor wi g tb):=by
 intro pins s σ H D I h;refine wpAny_For (thn (hi pins s σ H _ I h) λv s1 h1=>thn h1 λitv s2 h2=>?_) hs;obtain ⟨it,fp,tn,J,H2,e,I2,T,st2,f2,W,⟨m0,w0⟩,turn⟩:=h2;subst e;have stat:∀ {H':Hp},(∀ b ∈ fp,H' b = none) -> ∀ b ∈ fp,FpOk X pins H' b:=λhn b hb=>⟨hn b hb,(f2 b hb).2⟩
 refine codeAny_forLoop_any (λn s'=>∃ i σ' H',Inv X pins σ' H' s' /\ tn i s'.heap /\ (∀ b ∈ fp,H' b = none) /\ W i n σ' H') ?_ m0 ⟨0,σ,H2,I2,st2,λb hb=>(f2 b hb).1,w0⟩;rintro n s3 ⟨i,σ3,H3,I3,st3,fr3,w3⟩
 rcases turn i n σ3 H3 w3 with ⟨stop,qn⟩ | ⟨go,N,hN,step⟩
 ·refine wpAny_passesOwn hp (thn (T.done X rfl rfl rfl hc i pins s3 σ3 H3 X.xe I3 (stat fr3) st3 stop) λr s4 ⟨hr,I4⟩=>?_)
  subst hr;exact wpAny_execs_nil ⟨σ3,H3,I4,qn⟩
 ·refine wpAny_passesOwn hp (thn (T.item X rfl rfl rfl hc i pins s3 σ3 H3 X.xe I3 (stat fr3) st3 go) λr s4 ⟨u,hr,h4⟩=>?_)
  subst hr;refine wpAny_passesOwn hp (thn h4 λ_ s5 ⟨x,H5,I5,r5,y5,st5,fr5⟩=>?_);have I5':=I5.pinned (stat fr5) (T.obj _ _ st5);refine wpAny_passesOwn hp (thn (hg _ s5 σ3 H5 x u _ I5' r5 (step x H5 y5)) λ_ s6 ⟨σ6,H6,I6,q6⟩=>?_);refine wpAny_passesOwn hp (thn (hb _ s6 σ6 H6 _ I6 q6) λf s7 q7=>?_);have again:∀ {σ7:St} {H7:Hp},Inv X (pins ++ Xdh fp s5.heap) σ7 H7 s7 -> N σ7 H7 -> ∃ m,m < n /\ ∃ i σ' H',Inv X pins σ' H' s7 /\ tn i s7.heap /\ (∀ b ∈ fp,H' b = none) /\ W i m σ' H':=λ{σ7 H7} I7 n7=>by
   obtain ⟨m',hm,w7⟩:=hN σ7 H7 n7;refine ⟨m',hm,i + 1,σ7,H7,I7.unpinned,T.keep _ _ _ st5 λb hb o e=>(I7.pin (b,o) (List.mem_append_right _ (List.mem_append_right _ (Xak hb e)))).1,λb hb=>?_,w7⟩;obtain ⟨o,e,d⟩:=T.obj _ _ st5 b hb;exact (I7.pin (b,o) (List.mem_append_right _ (List.mem_append_right _ (Xak hb e)))).2.1
  cases f with
  | next=>obtain ⟨σ7,H7,I7,n7⟩:=q7;exact again I7 n7
  | cont=>obtain ⟨σ7,H7,I7,n7⟩:=q7;exact again I7 n7
  | brk=>obtain ⟨σ7,H7,I7,q7⟩:=q7;exact ⟨σ7,H7,I7.unpinned,q7⟩
  | ret v=>obtain ⟨x7,σ7,H7,I7,r7,q7⟩:=q7;exact ⟨x7,σ7,H7,I7.unpinned,r7,q7⟩
end
theorem Xqc {K:PySem.W.Frag} {a:Addr} {xs:List V} {g:TG} {tb:TS} {D:Ends} {σ:St} {H:Hp} (Pv:Nat -> St -> Hp -> Prop) (h0:Pv 0 σ H) (hl:∀ i σ H,i <= xs.length -> Pv i σ H -> SqL K H a xs)
(hs:∀ i x σ H,xs[i]? = some x -> Pv i σ H -> g x σ H λσ2 H2=>tb { D with nx:=Pv (i + 1),ct:=Pv (i + 1),bk:=D.nx } σ2 H2) (hd:∀ σ H,Pv xs.length σ H -> D.nx σ H) :
∃ W:Nat -> Nat -> St -> Hp -> Prop,(∃ m,W 0 m σ H) /\ ∀ i m σ H,W i m σ H ->
((Itl K a).stop i H /\ D.nx σ H) \/ ((Itl K a).go i H /\ ∃ N:St -> Hp -> Prop,(∀ σ' H',N σ' H' -> ∃ m',m' < m /\ W (i + 1) m' σ' H') /\ ∀ x H',(Itl K a).yld i H x H' -> g x σ H' λσ2 H2=>tb { D with nx:=N,ct:=N,bk:=D.nx } σ2 H2):=by
 refine ⟨λi m σ H=>m = xs.length - i /\ i <= xs.length /\ Pv i σ H,⟨xs.length,by simp,Nat.zero_le _,h0⟩,?_⟩;rintro i m σ H ⟨rfl,hi,p⟩;have q:=hl i σ H hi p
 by_cases hlt:i < xs.length
 ·refine .inr ⟨⟨xs,xs[i],q,by simp [hlt]⟩,Pv (i + 1),λσ' H' p'=>⟨xs.length - (i + 1),by omega,rfl,hlt,p'⟩,λx H' y=>?_⟩
  obtain ⟨e,y⟩:=y;subst e;exact hs i x σ _ (y xs q) p
 ·have e:i = xs.length:=by omega
  subst e;exact .inl ⟨⟨xs,q,Nat.le_refl _⟩,hd σ H p⟩
theorem Xts {K:PySem.W.Frag} {a:Addr} {xs:List V} {g:TG} {tb:TS} {D:Ends} {σ:St} {H:Hp} (Pv:Nat -> St -> Hp -> Prop) (h0:Pv 0 σ H) (hl:∀ i σ H,i <= xs.length -> Pv i σ H -> SqT K H a xs)
(hs:∀ i x σ H,xs[i]? = some x -> Pv i σ H -> g x σ H λσ2 H2=>tb { D with nx:=Pv (i + 1),ct:=Pv (i + 1),bk:=D.nx } σ2 H2) (hd:∀ σ H,Pv xs.length σ H -> D.nx σ H) :
∃ W:Nat -> Nat -> St -> Hp -> Prop,(∃ m,W 0 m σ H) /\ ∀ i m σ H,W i m σ H ->
((Itt K a).stop i H /\ D.nx σ H) \/ ((Itt K a).go i H /\ ∃ N:St -> Hp -> Prop,(∀ σ' H',N σ' H' -> ∃ m',m' < m /\ W (i + 1) m' σ' H') /\ ∀ x H',(Itt K a).yld i H x H' -> g x σ H' λσ2 H2=>tb { D with nx:=N,ct:=N,bk:=D.nx } σ2 H2):=by
 refine ⟨λi m σ H=>m = xs.length - i /\ i <= xs.length /\ Pv i σ H,⟨xs.length,by simp,Nat.zero_le _,h0⟩,?_⟩;rintro i m σ H ⟨rfl,hi,p⟩;have q:=hl i σ H hi p
 by_cases hlt:i < xs.length
 ·refine .inr ⟨⟨xs,xs[i],q,by simp [hlt]⟩,Pv (i + 1),λσ' H' p'=>⟨xs.length - (i + 1),by omega,rfl,hlt,p'⟩,λx H' y=>?_⟩
  obtain ⟨e,y⟩:=y;subst e;exact hs i x σ _ (y xs q) p
 ·have e:i = xs.length:=by omega
  subst e;exact .inl ⟨⟨xs,q,Nat.le_refl _⟩,hd σ H p⟩
theorem Xoa {lo:Int} {n:Nat} {g:TG} {tb:TS} {D:Ends} {σ:St} {H:Hp} (Pv:Nat -> St -> Hp -> Prop) (h0:Pv 0 σ H)
(hs:∀ i σ H,i < n -> Pv i σ H -> g (.int (lo + i)) σ H λσ2 H2=>tb { D with nx:=Pv (i + 1),ct:=Pv (i + 1),bk:=D.nx } σ2 H2) (hd:∀ σ H,Pv n σ H -> D.nx σ H) :
∃ W:Nat -> Nat -> St -> Hp -> Prop,(∃ m,W 0 m σ H) /\ ∀ i m σ H,W i m σ H ->
((Itr lo n).stop i H /\ D.nx σ H) \/ ((Itr lo n).go i H /\ ∃ N:St -> Hp -> Prop,(∀ σ' H',N σ' H' -> ∃ m',m' < m /\ W (i + 1) m' σ' H') /\ ∀ x H',(Itr lo n).yld i H x H' -> g x σ H' λσ2 H2=>tb { D with nx:=N,ct:=N,bk:=D.nx } σ2 H2):=by
 refine ⟨λi m σ H=>m = n - i /\ i <= n /\ Pv i σ H,⟨n,by simp,Nat.zero_le _,h0⟩,?_⟩;rintro i m σ H ⟨rfl,hi,p⟩
 by_cases hlt:i < n
 ·refine .inr ⟨hlt,Pv (i + 1),λσ' H' p'=>⟨n - (i + 1),by omega,rfl,hlt,p'⟩,λx H' y=>?_⟩
  obtain ⟨e,y⟩:=y;subst e y;exact hs i σ _ hlt p
 ·have e:i = n:=by omega
  subst e;exact .inl ⟨Nat.le_refl _,hd σ H p⟩
abbrev R2:=V -> V -> Hp -> VK -> Prop
def OpR (X:Cx) (f:Value -> Value -> Sem Value) (r:R2):Prop :=
 ∀ (pins:List (Addr × Obj)) (s:Shared) (σ:St) (H:Hp) (x y:V) (v u:Value) (Q:VK),Inv X pins σ H s -> RelV x v -> RelV y u -> r x y H Q ->
  wpAny (model X.prog X.w) X.A (f v u) (EP X pins σ Q) X.xe s
def CallR (X:Cx) (f:Value) (r:List V -> Hp -> VK -> Prop):Prop :=
 ∀ (pins:List (Addr × Obj)) (s:Shared) (σ:St) (H:Hp) (xs:List V) (us:List Value) (Q:VK),Inv X pins σ H s -> Vals xs us -> r xs H Q ->
  wpAny (model X.prog X.w) X.A (call f us) (EP X pins σ Q) X.xe s
def TruR (X:Cx) (r:V -> Hp -> (Bool -> Hp -> Prop) -> Prop):Prop :=
 ∀ (pins:List (Addr × Obj)) (s:Shared) (σ:St) (H:Hp) (x:V) (v:Value) (Q:Bool -> Hp -> Prop),Inv X pins σ H s -> RelV x v -> r x H Q ->
  wpAny (model X.prog X.w) X.A (truthy v) (TP X pins σ Q) X.xe s
def tOp (r:R2) (ta tb:TE):TE:=λσ H Q=>ta σ H λx H1=>tb σ H1 λy H2=>r x y H2 Q
def rI (C:Int -> Int -> Prop) (g:Int -> Int -> V):R2:=λx y H Q=>∃ i j,x = .int i /\ y = .int j /\ C i j /\ Q (g i j) H
def rI0 (g:Int -> Int -> V):R2:=λx y H Q=>∃ i j,x = .int i /\ y = .int j /\ Q (g i j) H
section
variable {X:Cx} {a b c:Expr} {ta tb tc:TE} {pos:Pos}
theorem binT (ha:PE X a ta) (hb:PE X b tb) {pins:List (Addr × Obj)} {s:Shared} {σ:St} {H:Hp} {R:V -> V -> Hp -> Prop} (I:Inv X pins σ H s)
(h:ta σ H λx H1=>tb σ H1 λy H2=>R x y H2) {Q:Value -> Shared -> Prop} {f:Value -> Value -> Sem Value}
(hf:∀ v u s2 x y H2,Inv X pins σ H2 s2 -> RelV x v -> RelV y u -> R x y H2 -> wpAny (model X.prog X.w) X.A (f v u) Q X.xe s2) :
wpAny (model X.prog X.w) X.A (eval a X.env) (λv s₁=>wpAny (model X.prog X.w) X.A (eval b X.env) (λu s₂=>wpAny (model X.prog X.w) X.A (f v u) Q X.xe s₂) X.xe s₁) X.xe s:=by
 refine thn (ha pins s σ H _ I h) λv s1 ⟨x,H1,I1,r1,q1⟩=>?_
 refine thn (hb pins s1 σ H1 _ I1 q1) λu s2 ⟨y,H2,I2,r2,q2⟩=>?_
 exact hf v u s2 x y H2 I2 r1 r2 q2
theorem pe_op {op:Operator} {r:R2} (ho:OpR X (binaryOp op) r) (ha:PE X a ta) (hb:PE X b tb):PE X (.BinOp a op b pos) (tOp r ta tb):=by
 intro pins s σ H Q I h;exact wpAny_BinOp (binT ha hb I h λv u s2 x y H2 I2 rx ry q=>ho pins s2 σ H2 x y v u Q I2 rx ry q)
theorem opI {f:Value -> Value -> Sem Value} {C:Int -> Int -> Prop} {g:Int -> Int -> Int}
(rule:∀ (i j:Int) (t u:Tok) (s:Shared) (Q:Value -> Shared -> Prop) (E:Value -> Shared -> Prop),C i j -> Q (.int (g i j) s.toks) { s with toks:=s.toks + 1 } -> wpAny (model X.prog X.w) X.A (f (.int i t) (.int j u)) Q E s) :
OpR X f (rI C λi j=>.int (g i j)):=by
 intro pins s σ H x y v u Q I rx ry h;obtain ⟨i,j,rfl,rfl,hc,q⟩:=h;obtain ⟨t,rfl⟩:=rx;obtain ⟨t',rfl⟩:=ry;exact rule i j t t' s _ _ hc ⟨.int (g i j),H,I.tok _,⟨_,rfl⟩,q⟩
theorem opI0 {f:Value -> Value -> Sem Value} {g:Int -> Int -> Int}
(rule:∀ (i j:Int) (t u:Tok) (s:Shared) (Q:Value -> Shared -> Prop) (E:Value -> Shared -> Prop),Q (.int (g i j) s.toks) { s with toks:=s.toks + 1 } -> wpAny (model X.prog X.w) X.A (f (.int i t) (.int j u)) Q E s) :
OpR X f (rI0 λi j=>.int (g i j)):=by
 intro pins s σ H x y v u Q I rx ry h;obtain ⟨i,j,rfl,rfl,q⟩:=h;obtain ⟨t,rfl⟩:=rx;obtain ⟨t',rfl⟩:=ry;exact rule i j t t' s _ _ ⟨.int (g i j),H,I.tok _,⟨_,rfl⟩,q⟩
theorem opB0 {f:Value -> Value -> Sem Value} {g:Int -> Int -> Bool}
(rule:∀ (i j:Int) (t u:Tok) (s:Shared) (Q:Value -> Shared -> Prop) (E:Value -> Shared -> Prop),Q (.bool (g i j)) s -> wpAny (model X.prog X.w) X.A (f (.int i t) (.int j u)) Q E s) :
OpR X f (rI0 λi j=>.bl (g i j)):=by
 intro pins s σ H x y v u Q I rx ry h;obtain ⟨i,j,rfl,rfl,q⟩:=h;obtain ⟨t,rfl⟩:=rx;obtain ⟨t',rfl⟩:=ry;exact rule i j t t' s _ _ ⟨.bl (g i j),H,I,rfl,q⟩
def CPow (i j:Int):Prop:=0 <= j /\ j <= 1000000 /\ i.natAbs < 2 ^ 64
def CMul (i j:Int):Prop:=(-(2 ^ 64) < i /\ i < 2 ^ 64) \/ (-(2 ^ 64) < j /\ j < 2 ^ 64)
theorem CMul.ok {i j:Int} (h:CMul i j):IntMulOk i j:=by
 rcases h with ⟨h1,h2⟩ | ⟨h1,h2⟩
 ·exact .of_left (intBits_le_64 h1 h2)
 ·exact .of_right (intBits_le_64 h1 h2)
theorem Xvp:OpR X (binaryOp .Add) (rI0 λi j=>.int (i + j)):=opI0 λ_ _ _ _ _ _ _ q=>add_int q
theorem Xvm:OpR X (binaryOp .Mult) (rI CMul λi j=>.int (i * j)):=opI λ_ _ _ _ _ _ _ hc q=>mul_int q hc.ok
theorem Xvn:OpR X (binaryOp .Mod) (rI (λ_ j=>0 < j) λi j=>.int (i % j)):=opI λi j _ _ _ _ _ hc q=>by
 have h1:(0:Int) < j:=hc;exact mod_int' (by omega) (by rw [Int.fmod_eq_emod_of_nonneg i (by omega)];exact q)
theorem Xvl:OpR X (binaryOp .Pow) (rI CPow λi j=>.int (i ^ j.toNat)):=opI λ_ _ _ _ _ _ _ hc q=>pow_int_small hc.1 hc.2.1 hc.2.2 q
end
def scal:V -> V -> Bool
 | .non,.non=>true | .non,.int _=>true | .int _,.non=>true | .non,.bl _=>true | .bl _,.non=>true | .non,.str _=>true | .str _,.non=>true
 | .int _,.int _=>true | .bl _,.bl _=>true | .str _,.str _=>true | .byt _,.byt _=>true
 | .int _,.str _=>true | .str _,.int _=>true | .bl _,.str _=>true | .str _,.bl _=>true
 | _,_=>false
def rEq:R2:=λx y H Q=>scal x y = true /\ Q (.bl (decide (x = y))) H
def rNe:R2:=λx y H Q=>scal x y = true /\ Q (.bl (!decide (x = y))) H
theorem Xod {i j:Int}:decide (V.int i = V.int j) = (i == j):=by
 rw [Bool.eq_iff_iff];simp
theorem Xrk {i j:Bool}:decide (V.bl i = V.bl j) = (i == j):=by
 rw [Bool.eq_iff_iff];simp
theorem Xoc {i j:Str}:decide (V.str i = V.str j) = (i == j):=by
 rw [Bool.eq_iff_iff];simp
theorem Xoe {i j:Array UInt8}:decide (V.byt i = V.byt j) = (i.toList == j.toList):=by
 rw [Bool.eq_iff_iff];cases i;cases j;simp
section
variable {X:Cx} {a b c:Expr} {ta tb tc:TE} {pos:Pos}
theorem Xaj {pins:List (Addr × Obj)} {σ:St} {H:Hp} {s:Shared} {Q:VK} {k k':Bool} (I:Inv X pins σ H s) (q:Q (.bl k) H) (e:k = k'):EP X pins σ Q (.bool k') s:=by
 subst e;exact ⟨.bl k,H,I,rfl,q⟩
theorem op_eq:OpR X (compareOp .Eq) rEq:=by
 intro pins s σ H x y v u Q I rx ry h;obtain ⟨hs,q⟩:=h
 cases x with
 | non =>
  cases rx
  cases y with
  | non=>cases ry;exact PySem.EqNone.eq_none_none (Xaj I q (by simp))
  | bl j=>cases ry;exact PySem.EqNone.eq_none_bool (Xaj I q (by simp))
  | int j=>obtain ⟨t',rfl⟩:=ry;exact PySem.EqNone.eq_none_int (Xaj I q (by simp))
  | str j=>obtain ⟨t',rfl⟩:=ry;exact PySem.EqNone.eq_none_str (Xaj I q (by simp))
  | _=>exact absurd (show false = true from hs) Bool.false_ne_true
 | bl i =>
  cases rx
  cases y with
  | non=>cases ry;exact PySem.EqNone.eq_bool_none (Xaj I q (by simp))
  | bl j=>cases ry;exact eq_bool (Xaj I q Xrk)
  | str j=>obtain ⟨t',rfl⟩:=ry;exact PySem.EqMixed.eq_bool_str (Xaj I q (by simp))
  | _=>exact absurd (show false = true from hs) Bool.false_ne_true
 | int i =>
  obtain ⟨t,rfl⟩:=rx
  cases y with
  | non=>cases ry;exact PySem.EqNone.eq_int_none (Xaj I q (by simp))
  | int j=>obtain ⟨t',rfl⟩:=ry;exact eq_int (Xaj I q Xod)
  | str j=>obtain ⟨t',rfl⟩:=ry;exact PySem.EqMixed.eq_int_str (Xaj I q (by simp))
  | _=>exact absurd (show false = true from hs) Bool.false_ne_true
 | str i =>
  obtain ⟨t,rfl⟩:=rx
  cases y with
  | non=>cases ry;exact PySem.EqNone.eq_str_none (Xaj I q (by simp))
  | bl j=>cases ry;exact PySem.EqMixed.eq_str_bool (Xaj I q (by simp))
  | int j=>obtain ⟨t',rfl⟩:=ry;exact PySem.EqMixed.eq_str_int (Xaj I q (by simp))
  | str j=>obtain ⟨t',rfl⟩:=ry;exact eq_str (Xaj I q Xoc)
  | _=>exact absurd (show false = true from hs) Bool.false_ne_true
 | byt i =>
  obtain ⟨t,rfl⟩:=rx
  cases y with
  | byt j=>obtain ⟨t',rfl⟩:=ry;exact PySem.W.eq_bytes (Xaj I q Xoe)
  | _=>exact absurd (show false = true from hs) Bool.false_ne_true
 | _=>cases y <;> exact absurd (show false = true from hs) Bool.false_ne_true
theorem op_ne:OpR X (compareOp .NotEq) rNe:=by
 intro pins s σ H x y v u Q I rx ry h;obtain ⟨hs,q⟩:=h
 cases x with
 | non =>
  cases rx
  cases y with
  | non=>cases ry;exact PySem.EqNone.ne_none_none (Xaj I q (by simp))
  | bl j=>cases ry;exact PySem.EqNone.ne_none_bool (Xaj I q (by simp))
  | int j=>obtain ⟨t',rfl⟩:=ry;exact PySem.EqNone.ne_none_int (Xaj I q (by simp))
  | str j=>obtain ⟨t',rfl⟩:=ry;exact PySem.EqNone.ne_none_str (Xaj I q (by simp))
  | _=>exact absurd (show false = true from hs) Bool.false_ne_true
 | bl i =>
  cases rx
  cases y with
  | non=>cases ry;exact PySem.EqNone.ne_bool_none (Xaj I q (by simp))
  | bl j=>cases ry;exact ne_bool (Xaj I q (congrArg not Xrk))
  | str j=>obtain ⟨t',rfl⟩:=ry;exact PySem.EqMixed.ne_bool_str (Xaj I q (by simp))
  | _=>exact absurd (show false = true from hs) Bool.false_ne_true
 | int i =>
  obtain ⟨t,rfl⟩:=rx
  cases y with
  | non=>cases ry;exact PySem.EqNone.ne_int_none (Xaj I q (by simp))
  | int j=>obtain ⟨t',rfl⟩:=ry;exact ne_int (Xaj I q (congrArg not Xod))
  | str j=>obtain ⟨t',rfl⟩:=ry;exact PySem.EqMixed.ne_int_str (Xaj I q (by simp))
  | _=>exact absurd (show false = true from hs) Bool.false_ne_true
 | str i =>
  obtain ⟨t,rfl⟩:=rx
  cases y with
  | non=>cases ry;exact PySem.EqNone.ne_str_none (Xaj I q (by simp))
  | bl j=>cases ry;exact PySem.EqMixed.ne_str_bool (Xaj I q (by simp))
  | int j=>obtain ⟨t',rfl⟩:=ry;exact PySem.EqMixed.ne_str_int (Xaj I q (by simp))
  | str j=>obtain ⟨t',rfl⟩:=ry;exact ne_str (Xaj I q (congrArg not Xoc))
  | _=>exact absurd (show false = true from hs) Bool.false_ne_true
 | byt i =>
  obtain ⟨t,rfl⟩:=rx
  cases y with
  | byt j=>obtain ⟨t',rfl⟩:=ry;exact PySem.W.ne_bytes (Xaj I q (congrArg not Xoe))
  | _=>exact absurd (show false = true from hs) Bool.false_ne_true
 | _=>cases y <;> exact absurd (show false = true from hs) Bool.false_ne_true
theorem op_lt:OpR X (compareOp .Lt) (rI0 λi j=>.bl (decide (i < j))):=opB0 λ_ _ _ _ _ _ _ q=>lt_int q
theorem op_gt:OpR X (compareOp .Gt) (rI0 λi j=>.bl (decide (j < i))):=opB0 λ_ _ _ _ _ _ _ q=>gt_int q
theorem op_ge:OpR X (compareOp .GtE) (rI0 λi j=>.bl (decide (j <= i))):=opB0 λ_ _ _ _ _ _ _ q=>ge_int q
theorem Xio:OpR X (compareOp .IsNot) (λx y H Q=>y = .non /\ Q (.bl (!decide (x = .non))) H):=by
 intro pins s σ H x y v u Q I rx ry h;obtain ⟨rfl,q⟩:=h;cases ry;refine isnot_none_gen (Xaj I q ?_)
 cases x <;> first
  | (cases rx;rfl)
  | (obtain ⟨t,rfl⟩:=rx;rfl)
theorem Xam (b:Expr) {op:CmpOp} (h:op ≠ .In:=by decide) (h2:op ≠ .NotIn:=by decide):behindInMarks op b = false:=by
 have e1:(op == CmpOp.In) = false:=by cases op <;> first | rfl | exact absurd rfl h
 have e2:(op == CmpOp.NotIn) = false:=by cases op <;> first | rfl | exact absurd rfl h2
 cases b <;> simp [behindInMarks,e1,e2]
theorem Xsq {op:CmpOp} {r:R2} (ho:OpR X (compareOp op) r) (ha:PE X a ta) (hb:PE X b tb) (hm:behindInMarks op b = false):PE X (.Compare a [op] [b] pos) (tOp r ta tb):=by
 intro pins s σ H Q I h;exact wpAny_Compare1 (binT ha hb I h λv u s2 x y H2 I2 rx ry q=>ho pins s2 σ H2 x y v u Q I2 rx ry q) hm
def tTest (t:TE):TT:=λσ H Q=>t σ H λx H'=>∃ k,x = .bl k /\ Q k H'
theorem Xse {op:CmpOp} {r:R2} (ho:OpR X (compareOp op) r) (ha:PE X a ta) (hb:PE X b tb) (hm:behindInMarks op b = false):PT X (.Compare a [op] [b] pos) (tTest (tOp r ta tb)):=by
 intro pins s σ H Q I h
 refine wpAny_isTrue_Compare1 (thn (ha pins s σ H _ I h) λv s1 ⟨x,H1,I1,r1,q1⟩=>thn (hb pins s1 σ H1 _ I1 q1) λu s2 ⟨y,H2,I2,r2,q2⟩ =>
  thn (ho pins s2 σ H2 x y v u _ I2 r1 r2 q2) λc s3 ⟨z,H3,I3,r3,k,e,q3⟩=>?_) hm
 subst e;cases r3;exact wpAny_truthy_bool ⟨H3,I3,q3⟩
def TruV (K:PySem.W.Frag) (x:V) (H:Hp) (k:Bool):Prop :=
 match x with
 | .non=>k = false
 | .bl b=>k = b
 | .int i=>k = (i != 0)
 | .str y=>y.length <= sizeLine /\ k = ((y.length:Int) != 0)
 | .byt y=>y.size <= sizeLine /\ k = ((y.size:Int) != 0)
 | .ref p=>(∃ xs,SqL K H p xs /\ k = !xs.isEmpty) \/ (∃ xs,SqT K H p xs /\ k = !xs.isEmpty) \/ ∃ kvs,H p = some (.dK kvs) /\ k = !kvs.isEmpty
 | _=>False
theorem Xle {κ:Type} {kvs:List (κ × V)} {vs:List (κ × Value)} (r:KV kvs vs):(!vs.isEmpty) = !kvs.isEmpty:=by
 cases r <;> rfl
theorem Xfm {xs:List V} {its:List Value} (r:Vals xs its):(!its.toArray.isEmpty) = !xs.isEmpty:=by
 cases r <;> simp
theorem Xhk:(sizeLine:Nat) < 2 ^ 63:=by rw [sizeLine_eq];decide
theorem Xug:TruR X (λx H Q=>∃ k,TruV X.K x H k /\ Q k H):=by
 intro pins s σ H x v Q I rx h;obtain ⟨k,e,q⟩:=h;have hl:=Xhk;have hs:sizeLine = 16777216:=sizeLine_eq
 cases x with
 | non =>
  cases rx;have e':k = false:=e;subst e';exact truthy_none ⟨H,I,q⟩
 | bl b =>
  cases rx;have e':k = b:=e;subst e';exact wpAny_truthy_bool ⟨H,I,q⟩
 | int i =>
  obtain ⟨t,rfl⟩:=rx;have e':k = (i != 0):=e;subst e';exact PySem.P.truthy_int ⟨H,I,q⟩
 | str y =>
  obtain ⟨t,rfl⟩:=rx;obtain ⟨hy,e'⟩:y.length <= sizeLine /\ k = ((y.length:Int) != 0):=e;subst e';exact PySem.P.truthy_str (by omega) ⟨H,I.tok _,q⟩
 | byt y =>
  obtain ⟨t,rfl⟩:=rx;obtain ⟨hy,e'⟩:y.size <= sizeLine /\ k = ((y.size:Int) != 0):=e;subst e';exact PySem.W.truthy_bytes (by omega) ⟨H,I.tok _,q⟩
 | ref p =>
  cases rx;have e':(∃ xs,SqL X.K H p xs /\ k = !xs.isEmpty) \/ (∃ xs,SqT X.K H p xs /\ k = !xs.isEmpty) \/ ∃ kvs,H p = some (.dK kvs) /\ k = !kvs.isEmpty:=e
  rcases e' with ⟨xs,hx,e'⟩ | ⟨xs,hx,e'⟩ | ⟨kvs,hx,e'⟩
  ·subst e'
   obtain ⟨its,r,pl,hz⟩:=I.list hx;have hlen:=r.length;exact wpAny_truthy_list pl.isList (by simp only [List.size_toArray];omega) ⟨H,I.tok _,by rw [Xfm r];exact q⟩
  ·subst e'
   obtain ⟨its,r,pl,hz⟩:=I.tuple hx;have hlen:=r.length;exact truthy_tuple pl (by simp only [List.size_toArray];omega) ⟨H,I.tok _,by rw [Xfm r];exact q⟩
  ·subst e'
   obtain ⟨hz,hS,vs,r,m⟩:kvs.length <= sizeLine /\ (p == sysModules) = false /\ ∃ vs,KV kvs vs /\ s.heap.DictOf (Xao X.prog X.w) p vs:=I.hok p _ hx;have hlen:kvs.length = vs.length:=Paired.length r;exact wpAny_truthy_dict hS m (by omega) ⟨H,I.tok _,by rw [Xle r];exact q⟩
 | _=>exact (show False from e).elim
theorem Xpe (ha:PE X a ta) (he:∀ whole,isTrue a X.env whole = (do let v <- whole;standAt a.pos;holding [v] (truthy v))) :
PT X a (λσ H Q=>ta σ H λx H'=>∃ k,TruV X.K x H' k /\ Q k H'):=by
 intro pins s σ H Q I h;exact isTrue_plain (thn (ha pins s σ H _ I h) λv s1 ⟨x,H1,I1,r1,q1⟩=>Xug pins s1 σ H1 x v Q I1 r1 q1) (he _)
theorem vals1 {x:V} {us:List Value} (r:Vals [x] us):∃ u,us = [u] /\ RelV x u:=by
 cases r with
 | cons r1 r2=>cases r2;exact ⟨_,rfl,r1⟩
theorem vals2 {x y:V} {us:List Value} (r:Vals [x,y] us):∃ u w',us = [u,w'] /\ RelV x u /\ RelV y w':=by
 cases r with
 | cons r1 r2 =>
  cases r2 with
  | cons r3 r4=>cases r4;exact ⟨_,_,rfl,r1,r3⟩
theorem Xok (hc:X.calm = true):CallR X (.builtin "min") (λxs H Q=>∃ i j,xs = [.int i,.int j] /\ Q (.int (if j < i then j else i)) H):=by
 intro pins s σ H xs us Q I r h;obtain ⟨i,j,rfl,q⟩:=h;obtain ⟨u,w',rfl,⟨t,rfl⟩,⟨t',rfl⟩⟩:=vals2 r;refine min_two_ints (I.ok.hd hc) λh' tk k=>⟨_,H,I.kept k,?_,q⟩
 by_cases hj:j < i
 ·rw [if_pos hj,if_pos hj];exact ⟨_,rfl⟩
 ·rw [if_neg hj,if_neg hj];exact ⟨_,rfl⟩
end
structure ObjM (h:Heap) (x dx C:Addr) (mA:Str -> Option Value):Prop where
 obj:h.get? x = some (PySem.W.instObj C dx)
 ns:h.Ns1 dx mA
 ne:dx ≠ x
section
variable {prog:Program} {w:World} {A:Around} {E:Value -> Shared -> Prop} {s:Shared} {K:PySem.W.Frag} {x dx C f:Addr} {mA:Str -> Option Value} {name:Str} {v:Value}
end
theorem RelO.some_of {v:V} {o:Option Value} (r:RelO (some v) o):∃ u,o = some u /\ RelV v u:=by
 cases o with
 | none=>exact (show False from r).elim
 | some u=>exact ⟨u,rfl,r⟩
section
variable {P:Program} {w:World} {H H':Hp} {h h':Heap} {a C dx:Addr} {fs fs':List (Str × V)}
end
structure Cls (K:PySem.W.Frag) (C:Addr):Prop where
 pg:PySem.W.plainGet K C Str.empty = true
 hd:PySem.W.hasDictIn K C = true
 po:PySem.W.plainOver K C = true
 sa:PySem.W.findIn K (.ref C) "__setattr__" = some (some (.builtin "object.__setattr__"))
structure Con (K:PySem.W.Frag) (C:Addr) (f:Str) (v:V) (u:Value):Prop where
 at_:PySem.W.findIn K (.ref C) f = some (some u)
 rel:RelV v u
 get:PySem.W.specialIn K u "__get__" = some none
 cp:PySem.W.copiedNames.contains f = false
structure Meth (K:PySem.W.Frag) (C:Addr) (m:Str) (f:Addr):Prop where
 at_:PySem.W.findIn K (.ref C) m = some (some (.ref f))
 fn:PySem.W.isFn K (.ref f) = true
 kp:PySem.W.keepIn K (.ref f) = true
section
variable {X:Cx} {pins:List (Addr × Obj)} {σ:St} {H:Hp} {s:Shared} {a C dx:Addr} {fs:List (Str × V)} {f:Str} {v:V} {A:Around} {E:Value -> Shared -> Prop}
end
section
variable {X:Cx} {o e value:Expr} {f:Str} {pos pos' tpos:Pos} {ta tv:TE}
end
section
variable {X:Cx} {pins:List (Addr × Obj)} {σ:St} {H:Hp} {s:Shared} {A:Around} {E:Value -> Shared -> Prop} {Q:Value -> Shared -> Prop} {c:Value} {b:Bool}
inductive TyOf (K:PySem.W.Frag) (H:Hp):V -> Value -> Prop where
 | non:TyOf K H .non (.type "NoneType")
 | bl (x:Bool):TyOf K H (.bl x) (.type "bool")
 | int (i:Int):TyOf K H (.int i) (.type "int")
 | str (x:Str):TyOf K H (.str x) (.type "str")
 | flt (x:UInt64):TyOf K H (.flt x) (.type "float")
 | lst {a:Addr} {xs:List V} (e:H a = some (.lst xs)):TyOf K H (.ref a) (.type "list")
 | frz {a:Addr} {o:Obj} {xs:List V} (e:H a = some (.frz o (.lst xs))):TyOf K H (.ref a) (.type "list")
 | tup {a:Addr} {xs:List V} (e:H a = some (.tup xs)):TyOf K H (.ref a) (.type "tuple")
 | dK {a:Addr} {kvs:List (Key × V)} (e:H a = some (.dK kvs)):TyOf K H (.ref a) (.type "dict")
 | dT {a:Addr} {kvs:List (List Key × V)} (e:H a = some (.dT kvs)):TyOf K H (.ref a) (.type "dict")
 | ins {a C dx:Addr} {fs:List (Str × V)} (e:H a = some (.ins C dx fs)) (cl:Cls K C) (ha:PySem.W.findIn K (.ref C) "__class__" = some (some (.builtin "object.__class__")))
   (hn:PySem.W.specialIn K (.builtin "object.__class__") "__get__" = some (some (.builtin "getset_descriptor.__get__"))) (htk:PySem.W.takesIn K (.builtin "object.__class__") = some true)
   (hm:PySem.W.mroIn K C (.type "object") = some true):TyOf K H (.ref a) (.ref C)
end
structure Room (k:Nat) (A:Around):Prop where
 hd:A.handled = none
 dp:A.depth + 3 * k + 5 < recursionLimit
 un:A.units + 16 * k + 200 < cLine
theorem Room.mono {j k:Nat} {A:Around} (r:Room k A) (h:j <= k):Room j A:=⟨r.hd,by have:=r.dp;omega,by have:=r.un;omega⟩
theorem Room.deeper {k:Nat} {A:Around} (r:Room (k + 1) A) (env:Env):Room k (A.deeper env) :=
 ⟨r.hd,by have:=r.dp;show A.depth + 1 + 3 * k + 5 < _;omega,by have:=r.un;show A.units + 3 + 16 * k + 200 < _;omega⟩
theorem Room.depth {k:Nat} {A:Around} (r:Room k A):A.depth < recursionLimit:=by have:=r.dp;omega
theorem Room.units {k:Nat} {A:Around} (r:Room k A):A.units + 64 < cLine:=by have:=r.un;omega
def tNil:TA:=λ_ H Q=>Q [] H
def tCons (ta:TE) (tr:TA):TA:=λσ H Q=>ta σ H λx H1=>tr σ H1 λxs H2=>Q (x :: xs) H2
section
variable {X:Cx} {e:Expr} {es:List Expr} {te:TE} {t:TA} {pos:Pos}
theorem Xcj:PA X [] tNil:=λ_ _ _ _ H Q I h=>Calls.spliced_nil ⟨[],H,I,.nil,h⟩
theorem Xbc (ha:PE X e te) (hr:PA X es t) (hs:starEach (e :: es) X.env = (false,eval e X.env) :: starEach es X.env:=by rfl):PA X (e :: es) (tCons te t):=by
 intro pos pins s σ H Q I h;rw [hs]
 show wpAny _ _ (spliced ((false,eval e X.env) :: backTo pos (starEach es X.env))) _ _ s
 refine Calls.spliced_cons (thn (ha pins s σ H _ I h) λu s1 ⟨x,H1,I1,r1,q1⟩=>?_);exact thn (hr pos pins s1 σ H1 _ I1 q1) λus s2 ⟨xs,H2,I2,r2,q2⟩=>⟨x :: xs,H2,I2,.cons r1 r2,q2⟩
def tTup (t:TA):TE:=λσ H Q=>t σ H λxs H1=>xs.length <= sizeLine /\ ∀ p,H1 p = none -> Q (.ref p) (upd H1 p (.tup xs))
def tLst (t:TA):TE:=λσ H Q=>t σ H λxs H1=>xs.length <= sizeLine /\ ∀ p,H1 p = none -> Q (.ref p) (upd H1 p (.lst xs))
theorem Xva {x1} (h:PA X es t):PE X (.Tuple es x1 pos) (tTup t):=by
 intro pins s σ H Q I hq;refine wpAny_Tuple_spliced (thn (h pos pins s σ H _ I hq) λus s1 ⟨xs,H1,I1,r,z,q⟩=>⟨by rw [<- r.length];exact z,?_⟩);have hf:H1 s1.heap.objs.size = none:=I1.hok.fresh (Nat.le_refl _);refine ⟨.ref s1.heap.objs.size,upd H1 s1.heap.objs.size (.tup xs),I1.laid (t':=s1.toks) (λb u e=>Heap.get?_push_of_some _ e) (Nat.le_refl _) ?_,rfl,q _ hf⟩;exact ⟨z,us,r,⟨_,Heap.get?_push_size _ rfl,rfl,_,rfl⟩⟩
theorem Xvf (h:PA X es t):PE X (.List es pos) (tLst t):=by
 intro pins s σ H Q I hq;refine wpAny_List_spliced (thn (h pos pins s σ H _ I hq) λus s1 ⟨xs,H1,I1,r,z,q⟩=>⟨by rw [<- r.length];exact z,?_⟩);have hf:H1 s1.heap.objs.size = none:=I1.hok.fresh (Nat.le_refl _);refine ⟨.ref s1.heap.objs.size,upd H1 s1.heap.objs.size (.lst xs),I1.laid (t':=s1.toks) (λb u e=>Heap.get?_push_of_some _ e) (Nat.le_refl _) ?_,rfl,q _ hf⟩;exact ⟨z,us,0,r,Heap.get?_push_size _ rfl⟩
end
abbrev Sp:=List V -> Hp -> VK -> XK -> Prop
abbrev CXT:=List Env -> Hp -> Shared -> XK -> Value -> Shared -> Prop
structure Env0 (P:Program) (w:World) (K:PySem.W.Frag) (mg:Str -> Option Value) (base:Heap) (A:Around) (outer:List Env) (s:Shared) (H:Hp):Prop where
 frames:A.frames = some outer
 mod:Mod K mg base
 bs:∀ b o,base.get? b = some o -> s.heap.get? b = some o /\ H b = none
 bsz:base.objs.size <= s.heap.objs.size
 funs:s.heap.FunFrames base outer
 frf:∀ b ∈ frs outer,H b = none
 hok:HOk P w H s.heap
 bare:AllBare s.gens
def CE (outer:List Env) (P:Program) (w:World) (H:Hp) (s:Shared) (Q:VK) (u:Value) (s':Shared):Prop :=
 ∃ v H',s'.os = s.os /\ AllBare s'.gens /\ Un (frs outer) [] H H' s.heap s'.heap /\ HOk P w H' s'.heap /\ RelV v u /\ Q v H'
def CR (CX:CXT) (outer:List Env) (P:Program) (w:World) (H:Hp) (s:Shared) (Q:VK) (E:XK) (r:Result) (s':Shared):Prop :=
 match r with
 | .ok (.ret u)=>CE outer P w H s Q u s'
 | .ok _=>False
 | .error e=>CX outer H s E e s'
structure FnOk (P:Program) (w:World) (K:PySem.W.Frag) (mg:Str -> Option Value) (base:Heap) (CX:CXT) (k:Nat) (f:Addr) (fd:FuncData) (ps:List Str) (sp:Sp):Prop where
 len:∀ vs H Q E,sp vs H Q E -> vs.length = ps.length
 run:∀ (A:Around) (outer:List Env) (s:Shared) (H:Hp) (args:Args) (us:List Value) (vs:List V) (Q:VK) (E:XK),Room k A -> Env0 P w K mg base A outer s H -> BindsTo s fd args (ps.zip us) -> Vals vs us -> sp vs H Q E ->
  codeAny (model P w) A (.call (.ref f) args) (CR CX outer P w H s Q E) s
theorem FnOk.mono {P:Program} {w:World} {K:PySem.W.Frag} {mg:Str -> Option Value} {base:Heap} {CX:CXT} {j k:Nat} {f:Addr} {fd:FuncData} {ps:List Str} {sp:Sp} (F:FnOk P w K mg base CX j f fd ps sp) (h:j <= k) :
 FnOk P w K mg base CX k f fd ps sp:=⟨F.len,λA outer s H args us vs Q E hr=>F.run A outer s H args us vs Q E (hr.mono h)⟩
section
variable {X:Cx} {pins:List (Addr × Obj)} {σ:St} {H:Hp} {s s':Shared}
theorem Inv.env0 (I:Inv X pins σ H s):Env0 X.prog X.w X.K X.mg X.base X.A X.stack s H :=
 ⟨I.ok.frames,I.ok.mod,I.bs,Nat.le_trans I.ok.bsz I.sz,I.stack,I.stkFree,I.hok,I.bare⟩
end
def Binds (K:PySem.W.Frag) (fd:FuncData) (ps:List Str) (ds:List Value):Prop :=
 ∀ (s:Shared) (us:List Value),K.In s.heap -> (us ++ ds).length = ps.length -> BindsTo s fd ⟨us,[]⟩ (ps.zip (us ++ ds))
theorem Binds.all {K:PySem.W.Frag} {fd:FuncData} {ps:List Str} (h:∀ us:List Value,us.length = ps.length -> bindArgs fd ⟨us,[]⟩ = pure (ps.zip us)):Binds K fd ps []:=λs us _ hl=>by
 rw [List.append_nil] at hl ⊢;exact .of_eq (h us hl)
section
variable {X:Cx} {CX:CXT} {k:Nat} {f C:Addr} {fd:FuncData} {ps:List Str} {sp:Sp} {dvs:List V} {ds:List Value} {E:XK} {x m:Str} {p pos apos:Pos} {e o:Expr} {es:List Expr} {ta:TE} {t:TA}
structure Mk (K:PySem.W.Frag) (C f:Addr):Prop where
 makes:PySem.W.makesIn K C = true
 init:PySem.W.findIn K (.ref C) "__init__" = some (some (.ref f))
 fn:PySem.W.isFn K (.ref f) = true
 kp:PySem.W.keepIn K (.ref C) = true
end
section
variable {X:Cx} {CX:CXT} {k:Nat} {f C:Addr} {fd:FuncData} {ps ks:List Str} {sp:Sp} {E:XK} {x m:Str} {p pos apos kpos:Pos} {e o:Expr} {es:List Expr} {kws:List Keyword} {te ta:TE} {t tk:TA} {nm:Option Str}
structure KBinds (K:PySem.W.Frag) (fd:FuncData) (ps ks:List Str) (g:List Value -> List Value -> List Value) (gV:List V -> List V -> List V):Prop where
 to:∀ (s:Shared) (us ws:List Value),K.In s.heap -> (g us ws).length = ps.length -> BindsTo s fd ⟨us,ks.zip ws⟩ (ps.zip (g us ws))
 rel:∀ {vs:List V} {us:List Value} {zs:List V} {ws:List Value},Vals vs us -> Vals zs ws -> Vals (gV vs zs) (g us ws)
variable {g:List Value -> List Value -> List Value} {gV:List V -> List V -> List V}
end
structure FnScope (N P:List Str) (sc:Scope):Prop where
 kind:sc.kind = .function
 co:sc.isCoroutine = false
 gen:sc.isGenerator = false
 nd:N.Nodup
 pre:N.take P.length = P
 par:∀ x ∈ P,sc.names.lookup x = some .local \/ sc.names.lookup x = some .cell
 nofree:∀ y ∈ sc.names,y.2 ≠ .free
theorem Xhx {kindOf:Str -> Option NameKind} {x:Str}:∀ {binds:List (Str × Value)} {m:Str -> Option Value},(∀ v,(x,v) ∉ binds) -> bindL kindOf binds m x = m x
 | [],_,_=>rfl
 | (n,v) :: r,m,h=>by
  unfold bindL;rw [Xhx λw hw=>h w (List.mem_cons_of_mem _ hw)]
  split
  ·have : x ≠ n:=by rintro rfl;exact h v List.mem_cons_self
   simp [this]
  ·rfl
theorem Xhz {kindOf:Str -> Option NameKind} {x:Str}:∀ {binds:List (Str × Value)} {m:Str -> Option Value},(∀ v,(x,v) ∉ binds) -> bindC kindOf binds m x = m x
 | [],_,_=>rfl
 | (n,v) :: r,m,h=>by
  unfold bindC;rw [Xhz λw hw=>h w (List.mem_cons_of_mem _ hw)]
  split
  ·rfl
  ·have : x ≠ n:=by rintro rfl;exact h v List.mem_cons_self
   simp [this]
theorem Xhy {kindOf:Str -> Option NameKind} {x:Str} {v:Value}:∀ {P:List Str} {vs:List Value} {i:Nat} {m:Str -> Option Value},P.Nodup -> P[i]? = some x -> vs[i]? = some v -> kindOf x = some .local ->
 bindL kindOf (P.zip vs) m x = some v
  | [],_,_,_,_,h,_,_=>by simp at h
  | _ :: _,[],_,_,_,_,h,_=>by simp at h
  | p :: P,w :: vs,0,m,nd,h1,h2,hk=>by
    simp at h1 h2;subst h1;subst h2
    show bindL kindOf ((p,w) :: P.zip vs) m p = _
    unfold bindL;rw [Xhx λv hv=>(List.nodup_cons.mp nd).1 (List.of_mem_zip hv).1,if_pos hk];simp
  | p :: P,w :: vs,i + 1,m,nd,h1,h2,hk=>by
    show bindL kindOf ((p,w) :: P.zip vs) m x = _
    unfold bindL;exact Xhy (i:=i) (List.nodup_cons.mp nd).2 (by simpa using h1) (by simpa using h2) hk
theorem Xia {kindOf:Str -> Option NameKind} {x:Str} {v:Value}:∀ {P:List Str} {vs:List Value} {i:Nat} {m:Str -> Option Value},P.Nodup -> P[i]? = some x -> vs[i]? = some v -> kindOf x ≠ some .local ->
 bindC kindOf (P.zip vs) m x = some v
  | [],_,_,_,_,h,_,_=>by simp at h
  | _ :: _,[],_,_,_,_,h,_=>by simp at h
  | p :: P,w :: vs,0,m,nd,h1,h2,hk=>by
    simp at h1 h2;subst h1;subst h2
    show bindC kindOf ((p,w) :: P.zip vs) m p = _
    unfold bindC;rw [Xhz λv hv=>(List.nodup_cons.mp nd).1 (List.of_mem_zip hv).1,if_neg hk];simp
  | p :: P,w :: vs,i + 1,m,nd,h1,h2,hk=>by
    show bindC kindOf ((p,w) :: P.zip vs) m x = _
    unfold bindC;exact Xia (i:=i) (List.nodup_cons.mp nd).2 (by simpa using h1) (by simpa using h2) hk
def start (N:List Str) (vs:List V):St:=vs.map some ++ List.replicate (N.length - vs.length) none
def cxOf (CX:CXT) (P:Program) (w:World) (K:PySem.W.Frag) (mg:Str -> Option Value) (base:Heap) (N:List Str) (qual:Str) (scope:Scope) (f:Addr) (cd:Value) (A:Around) (outer:List Env) (s:Shared) (H:Hp) (E:XK):Cx where
 prog:=P
 w:=w
 K:=K
 mg:=mg
 base:=base
 A:=A.deeper (envOfC qual scope s.heap.objs.size f cd)
 N:=N
 s₀:=s
 H₀:=H
 env:=envOfC qual scope s.heap.objs.size f cd
 outer:=outer
 stack:=envOfC qual scope s.heap.objs.size f cd :: outer
 ex:=[]
 calm:=true
 fn:=λ_=>true
 pn:=[]
 xe:=λe s'=>wpAny (model P w) (A.deeper (envOfC qual scope s.heap.objs.size f cd)) (leaving (envOfC qual scope s.heap.objs.size f cd) e) (λ_ s''=>CX outer H s E e s'') (λe' s''=>CX outer H s E e' s'') s'
theorem Xkr {sc:Scope} {n:Nat} {x:Str} (h:sc.names.lookup x = some .cell):∃ c,(cellsFrom n sc.names []).lookup x = some c:=by
 have q:=PySem.W.cellsFrom_some sc.names n [] (.inl h);exact Option.isSome_iff_exists.mp q
theorem Xnv {CX:CXT} {P:Program} {w:World} {K:PySem.W.Frag} {mg:Str -> Option Value} {base:Heap} {N ps:List Str} {qual:Str} {scope:Scope} {f:Addr} {cd:Value} {A:Around} {outer:List Env} {s s1:Shared} {H:Hp} {E:XK} {us:List Value} {vs:List V}
(S:FnScope N ps scope) (hd:A.handled = none) (e0:Env0 P w K mg base A outer s H) (hl:vs.length = ps.length) (r:Vals vs us)
(x:InCallC s s.heap.objs.size (bindL (envOfC qual scope s.heap.objs.size f cd).kindOf (ps.zip us) λ_=>none) (cellsFrom (s.heap.objs.size + 1) scope.names []) (bindC (envOfC qual scope s.heap.objs.size f cd).kindOf (ps.zip us) λ_=>none) s1) :
Inv (cxOf CX P w K mg base N qual scope f cd A outer s H E) [] (start N vs) H s1:=by
 have hpl:ps.length <= N.length:=by have:=congrArg List.length S.pre;rw [List.length_take] at this;omega
 obtain ⟨h1,tk,rfl,hk⟩:=x.done;have noA:∀ b:Addr,b ∉ (cxOf CX P w K mg base N qual scope f cd A outer s H E).ex:=λb z=>absurd (show b ∈ ([]:List Addr) from z) (by simp)
 refine ⟨⟨e0.mod,S.kind,rfl,rfl,Nat.le_refl _,λy z c h1 h2=>?_,λy hy=>?_,λy c _ h=>?_,λ_=>hd,Around.frames_deeper e0.frames,.inr ⟨rfl,rfl⟩,λb z=>absurd z (noA b),e0.bs,e0.bsz,λb _ _=>noA b,λb z=>absurd z (noA b),e0.funs,e0.frf⟩,
  rfl,e0.bare,Un.kept hk,⟨_,x.toInCall.ns,λi y v h1 h2 h3=>?_⟩,λy c h=>⟨_,x.cell y c h⟩,e0.hok.fresh (Nat.le_refl _),λy c h=>?_,λp hp=>absurd (show p ∈ ([]:List (Addr × Obj)) from hp) (by simp),e0.hok.kept hk,?_⟩
 ·exact name_of_addr x.apart (PySem.mem_of_lookup h1) (PySem.mem_of_lookup h2)
 ·have hy:scope.names.lookup y = some .cell \/ scope.names.lookup y = some .free:=hy
  rcases hy with hy | hy
  ·exact Xkr hy
  ·exact absurd rfl (S.nofree _ (PySem.mem_of_lookup hy))
 ·exact Nat.le_of_lt (x.above y c (PySem.mem_of_lookup h))
 ·have hi:i < vs.length:=by
   unfold start at h2
   by_cases hi:i < vs.length
   ·exact hi
   ·rw [List.getElem?_append_right (by simpa using hi)] at h2
    rw [List.getElem?_replicate] at h2
    split at h2 <;> cases h2
  have ha:vs[i]? = some v:=by
   unfold start at h2;rw [List.getElem?_append_left (by simpa using hi),List.getElem?_map] at h2
   cases e:vs[i]? with
   | none=>rw [e] at h2;cases h2
   | some a=>rw [e] at h2;cases h2;rfl
  obtain ⟨u,hu,rv⟩:=r.get ha;have hp:ps[i]? = some y:=by
   rw [<- S.pre,List.getElem?_take_of_lt (by omega)];exact h1
  have ndP:ps.Nodup:=by rw [<- S.pre];exact S.nd.sublist (List.take_sublist _ _)
  refine ⟨u,rv,?_⟩
  rcases S.par y (List.mem_of_getElem? hp) with k | k
  ·exact .inl ⟨k,Xhy ndP hp hu k⟩
  ·obtain ⟨c,e⟩:=Xkr (n:=s.heap.objs.size + 1) k
   refine .inr ⟨.inl k,c,e,?_⟩;have q:=x.cell y c e;rw [Xia ndP hp hu (by show scope.names.lookup y ≠ _;rw [k];decide)] at q;exact q
 ·exact e0.hok.fresh (Nat.le_of_lt (x.above y c (PySem.mem_of_lookup h)))
 ·unfold start
  show _ = N.length
  rw [List.length_append,List.length_map,List.length_replicate];omega
theorem fn_of {CX:CXT} {P:Program} {w:World} {K:PySem.W.Frag} {mg:Str -> Option Value} {base:Heap} {k:Nat} {f:Addr} {name qual:Str} {params:Arguments} {body:List Stmt} {scope:Scope} {dV kV doc pm cdv ct oc:Value} {an od:Option Addr}
{osl:Array (Option Value)} {N ps:List Str} {sp:Sp} (lk:K.lookup f = some ⟨oc,od,.func (PySem.W.fnOf name qual params body scope dV kV doc pm an cdv ct),osl⟩) (hcd:PySem.W.codeIn K cdv qual = true) (S:FnScope N ps scope)
(len:∀ vs H Q E,sp vs H Q E -> vs.length = ps.length)
(hbody:∀ (A:Around) (outer:List Env) (s:Shared) (H:Hp) (vs:List V) (Q:VK) (E:XK),Room k (A.deeper (envOfC qual scope s.heap.objs.size f cdv)) -> sp vs H Q E ->
∃ t,PSs (cxOf CX P w K mg base N qual scope f cdv A outer s H E) body t /\ t { nx:=λ_ H'=>Q .non H',rt:=Q } (start N vs) H) :
FnOk P w K mg base CX (k + 1) f (PySem.W.fnOf name qual params body scope dV kV doc pm an cdv ct) ps sp:=by
 refine ⟨len,λA outer s H args us vs Q E hr e0 hb r hsp=>?_⟩;have hl:=len _ _ _ _ hsp;have KX:K.In s.heap:=e0.mod.kin.keeps λb o e=>(e0.bs b o e).1
 have lim:s.heap.NoLimit:=e0.mod.nolimit.keeps λb o e=>(e0.bs b o e).1
 have hkind:∀ y ∈ ps.zip us,scope.names.lookup y.1 = some .local \/ (scope.names.lookup y.1 = some .cell /\ ((cellsFrom (s.heap.objs.size + 1) scope.names []).lookup y.1).isSome = true):=λ⟨n,v⟩ hy=>by
  rcases S.par n (List.of_mem_zip hy).1 with q | q
  ·exact .inl q
  ·exact .inr ⟨q,PySem.W.cellsFrom_some _ _ _ (.inl q)⟩
 refine codeAny_call_function hr.depth (KX _ _ lk) rfl S.co S.gen rfl (PySem.W.codeRec_of KX hcd) (hb _ _ _ _ ?_);refine wpAny_newFunctionEnv_cells S.kind hkind λenv he s1 x=>?_
 subst he;refine ⟨lim.keeps x.toInCall.keep,codeAny_func ?_⟩;obtain ⟨t,ht,hq⟩:=hbody A outer s H vs Q E (hr.deeper _) hsp;have I:Inv (cxOf CX P w K mg base N qual scope f cdv A outer s H E) [] (start N vs) H s1:=Xnv S hr.hd e0 hl r x;refine wpAny_mono (ht [] s1 (start N vs) H _ I hq) (λfl s' hs=>?_) λe s' hs=>hs
 have fin:∀ {σ':St} {H':Hp} {v:V} {u:Value},Inv (cxOf CX P w K mg base N qual scope f cdv A outer s H E) [] σ' H' s' -> RelV v u -> Q v H' -> CE outer P w H s Q u s' :=
  λ{σ' H' v u} J rv q=>⟨v,H',J.os,J.bare,J.base,J.hok,rv,q⟩
 cases fl with
 | ret u =>
  obtain ⟨v,σ',H',J,rv,q⟩:=hs;exact fin J rv q
 | next =>
  obtain ⟨σ',H',J,q⟩:=hs;exact fin (v:=V.non) (u:=Value.none) J rfl q
 | brk =>
  obtain ⟨_,_,_,q⟩:=hs;exact False.elim q
 | cont =>
  obtain ⟨_,_,_,q⟩:=hs;exact False.elim q
section
variable {X:Cx} {x:Str} {p pos:Pos} {e:Expr} {es:List Expr} {t:TA} {id T:String} {r:List V -> Hp -> VK -> Prop}
def tCB (r:List V -> Hp -> VK -> Prop) (t:TA):TE:=λσ H Q=>t σ H λvs H1=>r vs H1 Q
theorem Xci (hc:CallR X (.builtin id) r) (hg:Gl X x) (hm:X.mg x = none) (hv:bootBuiltins x = some (.builtin id)) (ha:PA X (e :: es) t) (hn:x ≠ "__name__" := by decide) (hdb:(x == ("__debug__" : Str)) = false:=by decide)
(he:starEach (e :: es) X.env = (false,eval e X.env) :: starEach es X.env:=by rfl) (hpl:(backTo pos (starEach es X.env)).any (·.1) = false:=by rfl):PE X (.Call (.Name x p) (e :: es) [] pos) (tCB r t):=by
 intro pins s σ H Q I h;refine wpAny_Call_Name_kw (Xhl I hg hm hv ?_ hn hdb);exact PyProof.Rows.callWith_builtin1 (thn (ha pos pins s σ H _ I h) λus s1 ⟨vs,H1,I1,r1,q1⟩=>hc pins s1 σ H1 vs us Q I1 r1 q1) he hpl
theorem Xch (hc:CallR X (.type T) r) (hg:Gl X x) (hm:X.mg x = none) (hv:bootBuiltins x = some (.type T)) (ha:PA X (e :: es) t) (hn:x ≠ "__name__" := by decide) (hdb:(x == ("__debug__" : Str)) = false:=by decide)
(he:starEach (e :: es) X.env = (false,eval e X.env) :: starEach es X.env:=by rfl) (hpl:(backTo pos (starEach es X.env)).any (·.1) = false:=by rfl):PE X (.Call (.Name x p) (e :: es) [] pos) (tCB r t):=by
 intro pins s σ H Q I h;refine wpAny_Call_Name_kw (Xhl I hg hm hv ?_ hn hdb);exact PyProof.Rows.callWith_type1 (thn (ha pos pins s σ H _ I h) λus s1 ⟨vs,H1,I1,r1,q1⟩=>hc pins s1 σ H1 vs us Q I1 r1 q1) he hpl
end
end L2
namespace HT
open PySem PyProof.Rows
def lexLt:List Int -> List Int -> Bool
 | [],[]=>false
 | [],_ :: _=>true
 | _ :: _,[]=>false
 | x :: xs,y :: ys=>if x = y then lexLt xs ys else decide (x < y)
theorem lexLt_cons (x y:Int) (xs ys:List Int):lexLt (x :: xs) (y :: ys) = if x = y then lexLt xs ys else decide (x < y):=rfl
section
open PySem.SeqAt
open PySem.AutoSeq1 (wpAny_loadPart')
open PySem.MeetsSeq PySem.MeetsSeq2 PySem.MeetsSeq3
end
section
variable {prog:Program} {w:World} {A:Around} {E:Value -> Shared -> Prop} {s:Shared}
def sIx (n d:Nat):Option Int -> Nat
 | none=>d
 | some v=>if v < 0 then (v + (n:Int)).toNat else min v.toNat n
end
end HT
namespace L2
open PySem PySem.Spec PyProof.Rows
abbrev TO:=St -> Hp -> (Option Int -> Hp -> Prop) -> Prop
def PO (X:Cx) (e:Option Expr) (t:TO):Prop :=
 ∀ (pins:List (Addr × Obj)) (s:Shared) (σ:St) (H:Hp) (Q:Option Int -> Hp -> Prop),Inv X pins σ H s -> t σ H Q ->
  wpAny (model X.prog X.w) X.A (evalPart e X.env) (λu s'=>∃ o H',Inv X pins σ H' s' /\ IsPart u o /\ Q o H') X.xe s
def Xrr:TO:=λ_ H Q=>Q none H
def tPart (t:TE):TO:=λσ H Q=>t σ H λx H1=>∃ i,x = .int i /\ Q (some i) H1
section
variable {X:Cx} {e:Expr} {te:TE} {lo hi:Option Expr} {tl th:TO} {pos p2:Pos}
theorem Xsl:PO X none Xrr:=by
 intro pins s σ H Q I h;rw [evalPart_none];exact wpAny_pure ⟨none,H,I,.none,h⟩
theorem Xsk (h:PE X e te):PO X (some e) (tPart te):=by
 intro pins s σ H Q I hw;rw [evalPart_some];refine thn (h pins s σ H _ I hw) λu s1 ⟨x,H1,I1,r1,q1⟩=>?_
 obtain ⟨i,rfl,q⟩:=q1;obtain ⟨t,rfl⟩:=r1;exact ⟨some i,H1,I1,.int i t,q⟩
def SlR (X:Cx) (r:V -> Option Int -> Option Int -> Hp -> VK -> Prop):Prop :=
 ∀ (pins:List (Addr × Obj)) (s:Shared) (σ:St) (H:Hp) (x:V) (v vl vu:Value) (lo hi:Option Int) (sl:Addr) (Q:VK),Inv X pins σ H s -> RelV x v -> s.heap.IsSliceOf sl vl vu .none -> IsPart vl lo -> IsPart vu hi -> r x lo hi H Q ->
  ∃ T id,typeLookup (.type T) "__getitem__" = pure (some (.builtin id)) /\ s.TypeIs v T /\ wpAny (model X.prog X.w) X.A (getItem v (.ref sl)) (EP X pins σ Q) X.xe s
def tSl (r:V -> Option Int -> Option Int -> Hp -> VK -> Prop) (te:TE) (tl th:TO):TE:=λσ H Q=>te σ H λx H1=>tl σ H1 λl H2=>th σ H2 λu H3=>r x l u H3 Q
theorem Xpj {r:V -> Option Int -> Option Int -> Hp -> VK -> Prop} (hr:SlR X r) (he:PE X e te) (hl:PO X lo tl) (hu:PO X hi th):PE X (.Subscript e (.Slice lo hi none p2) pos) (tSl r te tl th):=by
 intro pins s σ H Q I h;refine Subscript_ (thn (he pins s σ H _ I h) λv s1 ⟨x,H1,I1,r1,q1⟩=>?_);refine wpAny_Slice (thn (hl pins s1 σ H1 _ I1 q1) λvl s2 ⟨l,H2,I2,pl,q2⟩=>thn (hu pins s2 σ H2 _ I2 q2) λvu s3 ⟨u,H3,I3,pu,q3⟩=>?_);rw [evalPart_none];refine wpAny_pure ?_
 have I4:Inv X pins σ H3 { s3 with heap:=s3.heap.push { cls:=.type "slice", data:=.fields #[vl,vu,.none] } }:=I3.kept (t':=s3.toks) λb ob q=>Heap.get?_push_of_some _ q
 obtain ⟨T,id,hT,ht,hg⟩:=hr pins { s3 with heap:=s3.heap.push { cls:=.type "slice", data:=.fields #[vl,vu,.none] } } σ H3 x v vl vu l u s3.heap.objs.size Q I4 r1 (Heap.IsSliceOf.new ..) pl pu q3
 show wpAny (model X.prog X.w) X.A (subscriptTail e (.Slice lo hi none p2) v (.ref s3.heap.objs.size)) (EP X pins σ Q) X.xe { s3 with heap:=s3.heap.push { cls:=.type "slice", data:=.fields #[vl,vu,.none] } }
 exact tail_any (ops:=[.ref s3.heap.objs.size,v]) ht hT hg (by with_unfolding_all rfl)
def cutV (xs:List V) (lo hi:Option Int):List V:=(xs.drop (HT.sIx xs.length 0 lo)).take (HT.sIx xs.length xs.length hi - HT.sIx xs.length 0 lo)
theorem Xix (xs:List V) (lo hi:Option Int):(cutV xs lo hi).length <= xs.length:=by
 unfold cutV;rw [List.length_take,List.length_drop];omega
end
def ixN (n:Nat) (i:Int):Option Nat:=if 0 <= i then (if i < n then some i.toNat else none) else if -(n:Int) <= i then some (i + n).toNat else none
def atI {α:Type} (xs:List α) (i:Int):Option α:=(ixN xs.length i).bind λj=>xs[j]?
theorem Xtl {n:Nat} {i:Int} {j:Nat} (h:ixN n i = some j):seqIndex? i n = some j /\ j < n /\ -(n:Int) <= i /\ i < n:=by
 unfold ixN at h
 by_cases h0:0 <= i
 ·rw [if_pos h0] at h
  by_cases h1:i < n
  ·rw [if_pos h1] at h
   have e:i.toNat = j:=Option.some.inj h;exact ⟨by rw [seqIndex_of h0 h1,e],by omega,by omega,h1⟩
  ·rw [if_neg h1] at h;cases h
 ·rw [if_neg h0] at h
  by_cases h1 : -(n:Int) <= i
  ·rw [if_pos h1] at h
   have e:(i + n).toNat = j:=Option.some.inj h;exact ⟨by rw [seqIndex_neg (by omega) h1,e],by omega,h1,by omega⟩
  ·rw [if_neg h1] at h;cases h
theorem Xje {α:Type} {xs:List α} {i:Int} {v:α} (h:atI xs i = some v):∃ j,seqIndex? i xs.length = some j /\ xs[j]? = some v /\ j < xs.length /\ -(xs.length:Int) <= i /\ i < xs.length:=by
 unfold atI at h
 cases e:ixN xs.length i with
 | none=>rw [e] at h;cases h
 | some j =>
  rw [e] at h;obtain ⟨h1,h2,h3,h4⟩:=Xtl e;exact ⟨j,h1,h,h2,h3,h4⟩
theorem Xjd {α:Type} {xs:List α} {j:Nat} {v:α} (h:xs[j]? = some v):atI xs (j:Int) = some v:=by
 have hj:j < xs.length:=(List.getElem?_eq_some_iff.mp h).1;have e:ixN xs.length (j:Int) = some j:=by
  unfold ixN;rw [if_pos (by omega),if_pos (by omega)];simp
 unfold atI;rw [e];exact h
def Xjg (b:Expr):Prop:=∀ o i,subscripted b false o i = operate [o,i] (getItem o i)
def IxR (X:Cx) (r:R2):Prop :=
 ∀ (value slice:Expr) (pins:List (Addr × Obj)) (s:Shared) (σ:St) (H:Hp) (x y:V) (v u:Value) (Q:VK),Inv X pins σ H s -> RelV x v -> RelV y u -> r x y H Q ->
  subscripted slice false v u = operate [v,u] (getItem v u) -> wpAny (model X.prog X.w) X.A (subscriptTail value slice v u) (EP X pins σ Q) X.xe s
def MtR (X:Cx) (id:String) (r:V -> List V -> Hp -> VK -> Prop):Prop :=
 ∀ (pins:List (Addr × Obj)) (s:Shared) (σ:St) (H:Hp) (x:V) (xs:List V) (v:Value) (us:List Value) (Q:VK),Inv X pins σ H s -> RelV x v -> Vals xs us -> r x xs H Q ->
  wpAny (model X.prog X.w) X.A (call (.builtin id) (v :: us)) (EP X pins σ Q) X.xe s
section
variable {X:Cx} {a b:Expr} {ta tb:TE} {pos:Pos}
theorem IxR.or {r r':R2} (h:IxR X r) (h':IxR X r'):IxR X (λx y H Q=>r x y H Q \/ r' x y H Q):=by
 intro value slice pins s σ H x y v u Q I rx ry q hs
 rcases q with q | q
 ·exact h value slice pins s σ H x y v u Q I rx ry q hs
 ·exact h' value slice pins s σ H x y v u Q I rx ry q hs
theorem pe_ix {r:R2} (hr:IxR X r) (ha:PE X a ta) (hb:PE X b tb) (hs:Xjg b):PE X (.Subscript a b pos) (tOp r ta tb):=by
 intro pins s σ H Q I h;exact Subscript_ (binT ha hb I h λv u s2 x y H2 I2 rx ry q=>hr a b pins s2 σ H2 x y v u Q I2 rx ry q (hs _ _))
def rIxL (K:PySem.W.Frag):R2:=λx y H Q=>∃ p xs i v,x = .ref p /\ y = .int i /\ SqL K H p xs /\ atI xs i = some v /\ Q v H
def rIxT (K:PySem.W.Frag):R2:=λx y H Q=>∃ p xs i v,x = .ref p /\ y = .int i /\ SqT K H p xs /\ atI xs i = some v /\ Q v H
def rIxS:R2:=λx y H Q=>∃ z i c,x = .str z /\ y = .int i /\ z.length <= sizeLine /\ atI z.cps.toList i = some c /\ Q (.str ⟨#[c]⟩) H
theorem ix_list:IxR X (rIxL X.K):=by
 intro value slice pins s σ H x y v u Q I rx ry h hs;obtain ⟨p,xs,i,z,rfl,rfl,hq,he,q⟩:=h;cases rx;obtain ⟨t,rfl⟩:=ry;obtain ⟨its,r,pl,hz⟩:=I.list hq;obtain ⟨j,h1,h2,h3,h4,h5⟩:=Xje he;obtain ⟨w,ew,rw'⟩:=r.get h2;have hl:=r.length;have hn:=Xhk;have fin:EP X pins σ Q w s:=⟨z,H,I,rw',q⟩
 by_cases h0:0 <= i
 ·have hj:i.toNat = j:=by
   rw [seqIndex_of h0 h5] at h1;exact Option.some.inj h1
  exact item_listR pl.isList h0 (by omega) (by rw [hj];simpa using ew) fin hs
 ·have hj:(i + (its.toArray.size:Int)).toNat = j:=by
   rw [seqIndex_neg (by omega) h4] at h1;rw [List.size_toArray,<- hl];exact Option.some.inj h1
  exact subscriptTail_builtinR (x:=w) pl.isList.typeIs slot_list_getitem.lookup
   (wpAny_getItem_list_neg (Q:=λr s'=>r = w /\ EP X pins σ Q r s') pl.isList (by omega) (by rw [List.size_toArray] <;> omega) (by omega) (by rw [hj];simpa using ew) ⟨rfl,fin⟩) hs
theorem ix_tup:IxR X (rIxT X.K):=by
 intro value slice pins s σ H x y v u Q I rx ry h hs;obtain ⟨p,xs,i,z,rfl,rfl,hq,he,q⟩:=h;cases rx;obtain ⟨t,rfl⟩:=ry;obtain ⟨its,r,pl,hz⟩:=I.tuple hq;obtain ⟨j,h1,h2,h3,h4,h5⟩:=Xje he;obtain ⟨w,ew,rw'⟩:=r.get h2;have hl:=r.length;have hn:=Xhk;have fin:EP X pins σ Q w s:=⟨z,H,I,rw',q⟩;exact subscriptTail_builtinR (x:=w) pl.typeIs slot_tuple_getitem.lookup
  (getItem_tuple (j:=j) (Q:=λr s'=>r = w /\ EP X pins σ Q r s') pl (by omega) (by omega) (by rw [List.size_toArray,<- hl];exact h1) (by simpa using ew) ⟨rfl,fin⟩) hs
theorem Xwj:IxR X rIxS:=by
 intro value slice pins s σ H x y v u Q I rx ry h hs;obtain ⟨z,i,c,rfl,rfl,hz,he,q⟩:=h;obtain ⟨t,rfl⟩:=rx;obtain ⟨t',rfl⟩:=ry;obtain ⟨j,h1,h2,h3,h4,h5⟩:=Xje he;have hl:z.cps.toList.length = z.length:=by simp [Str.length]
 rw [hl] at h1 h4 h5;have hn:=Xhk
 exact tail_any (typeIs_str s z t) slot_str_getitem.lookup (getItem_str (c:=c) (by
  have e1:decide (i < -(2 ^ 63:Int)) = false:=decide_eq_false (by omega);have e2:decide (i ≥ 2 ^ 63) = false:=decide_eq_false (by omega)
  rw [e1,e2,Bool.or_false]) (by rw [h1];simpa using h2) ⟨.str ⟨#[c]⟩,H,I.tok _,⟨_,rfl⟩,q⟩) hs
def rIx (K:PySem.W.Frag):R2:=λx y H Q=>rIxL K x y H Q \/ rIxT K x y H Q \/ rIxS x y H Q
theorem Xwk:IxR X (rIx X.K):=ix_list.or (ix_tup.or Xwj)
theorem Xgx (lo hi:Option Int) (n:Nat):(sliceBounds lo hi none n).1 = ((HT.sIx n 0 lo:Nat):Int) /\ (sliceBounds lo hi none n).2.1 = ((HT.sIx n n hi:Nat):Int) /\ (sliceBounds lo hi none n).2.2 = 1:=by
 refine ⟨?_,?_,rfl⟩
 ·cases lo with
  | none=>simp [sliceBounds,HT.sIx]
  | some i =>
   simp only [sliceBounds,HT.sIx,Option.getD_none,show (1:Int) > 0 by decide,if_true]
   by_cases h:i < 0
   ·simp only [h,if_true] <;> omega
   ·simp only [h,if_false] <;> omega
 ·cases hi with
  | none=>simp [sliceBounds,HT.sIx]
  | some i =>
   simp only [sliceBounds,HT.sIx,Option.getD_none,show (1:Int) > 0 by decide,if_true]
   by_cases h:i < 0
   ·simp only [h,if_true] <;> omega
   ·simp only [h,if_false] <;> omega
theorem Xfx (its:List Value) (lo hi:Option Int):slicePick its.toArray lo hi none = ((its.drop (HT.sIx its.length 0 lo)).take (HT.sIx its.length its.length hi - HT.sIx its.length 0 lo)).toArray:=by
 obtain ⟨h1,h2,h3⟩:=Xgx lo hi its.toArray.size;unfold slicePick;rw [h1,h2,h3]
 simp only [sliceRange_one,pick_run,List.size_toArray] <;> rfl
def rSlL (K:PySem.W.Frag):V -> Option Int -> Option Int -> Hp -> VK -> Prop:=λx lo hi H Q=>∃ a xs,x = .ref a /\ SqL K H a xs /\ ∀ p,H p = none -> Q (.ref p) (upd H p (.lst (cutV xs lo hi)))
theorem Xru:SlR X (rSlL X.K):=by
 intro pins s σ H x v vl vu lo hi sl Q I rx hs pl pu h;obtain ⟨a,xs,rfl,hx,q⟩:=h;cases rx;obtain ⟨its,r,ht,hz⟩:=I.list hx;have hlen:=r.length;refine ⟨"list", _,slot_list_getitem.lookup,ht.isList.typeIs,?_⟩
 refine wpAny_getItem_list_slice ht.isList hs pl pu .none (by simp) ?_ (by rw [List.size_toArray] <;> omega);rw [Xfx,<- hlen];refine ⟨.ref s.heap.objs.size,_,I.laid (t':=s.toks) (o:=.lst (cutV xs lo hi)) (λb ob q=>Heap.get?_push_of_some _ q) (Nat.le_refl _) ?_,rfl,q _ (I.hok.fresh (Nat.le_refl _))⟩;exact ⟨Nat.le_trans (Xix xs lo hi) hz,_,0,(r.drop (HT.sIx xs.length 0 lo)).take (HT.sIx xs.length xs.length hi - HT.sIx xs.length 0 lo),Heap.get?_push_size _ rfl⟩
theorem Xhw:CallR X (.builtin "len") (λxs H Q=>∃ p ys,xs = [.ref p] /\ (SqL X.K H p ys \/ SqT X.K H p ys) /\ Q (.int ys.length) H):=by
 intro pins s σ H xs us Q I r h;obtain ⟨p,ys,rfl,hq,q⟩:=h;obtain ⟨u,rfl,rx⟩:=vals1 r;cases rx;have hn:=Xhk
 rcases hq with hq | hq
 ·obtain ⟨its,r',pl,hz⟩:=I.list hq
  have hlen:=r'.length
  exact Calls.call_len_list pl.isList (by simp only [List.size_toArray] <;> omega) ⟨.int ys.length,H,I.tok _,⟨s.toks + 1,by rw [List.size_toArray,hlen]⟩,q⟩
 ·obtain ⟨its,r',pl,hz⟩:=I.tuple hq
  have hlen:=r'.length
  exact len_tuple pl (by simp only [List.size_toArray] <;> omega) ⟨.int ys.length,H,I.tok _,⟨s.toks + 1,by rw [List.size_toArray,hlen]⟩,q⟩
theorem Xhv:CallR X (.type "list") (λxs H Q=>∃ p ys,xs = [.ref p] /\ (SqL X.K H p ys \/ SqT X.K H p ys) /\ ∀ l,H l = none -> Q (.ref l) (upd H l (.lst ys))):=by
 intro pins s σ H xs us Q I r h;obtain ⟨p,ys,rfl,hq,q⟩:=h;obtain ⟨u,rfl,rx⟩:=vals1 r;cases rx;have fin:∀ (its:List Value),Vals ys its -> ys.length <= sizeLine -> ∀ (h':Heap) (c':Nat),(∀ b o',s.heap.get? b = some o' -> h'.get? b = some o') ->
   h'.get? s.heap.objs.size = some { cls:=.type "list", dict:=none,data:=.seq its.toArray c',slots:=#[] } -> EP X pins σ Q (.ref s.heap.objs.size) { s with heap:=h' }:=λits r' hz h' c' kp e =>
  ⟨.ref s.heap.objs.size,_,I.laid (t':=s.toks) kp (Nat.le_refl _) (show ObjOk X.prog X.w _ h' _ (.lst ys) from ⟨hz,its,c',r',e⟩),rfl,q _ (I.hok.fresh (Nat.le_refl _))⟩
 rcases hq with hq | hq
 ·obtain ⟨its,r',pl,hz⟩:=I.list hq
  have hlen:=r'.length;obtain ⟨o,ho,hc,n,hd⟩:=pl.isList
  exact call_list_seq p (.inl rfl) ho hc hd (λh' c' kp e=>fin its r' hz h' c' kp e) (by simp only [List.size_toArray] <;> omega)
 ·obtain ⟨its,r',pl,hz⟩:=I.tuple hq
  have hlen:=r'.length;obtain ⟨o,ho,hc,n,hd⟩:=pl
  exact call_list_seq p (.inr rfl) ho hc hd (λh' c' kp e=>fin its r' hz h' c' kp e) (by simp only [List.size_toArray] <;> omega)
def tyV (K:PySem.W.Frag) (T:String) (x:V) (H:Hp):Prop:=match x with
 | .str _=>T = "str"
 | .int _=>T = "int"
 | .ref p=>(T = "list" /\ ∃ xs,SqL K H p xs) \/ (T = "tuple" /\ ∃ o,K.lookup p = some o /\ o.cls = .type "tuple" /\ o.dict = none) \/
   (T = "dict" /\ ((∃ kvs,H p = some (.dK kvs)) \/ ∃ kvs,H p = some (.dT kvs))) \/ (T = "set" /\ ∃ S n,H p = some (.set S n))
 | _=>False
theorem Xuf {pins:List (Addr × Obj)} {σ:St} {H:Hp} {s:Shared} {T:String} {x:V} {v:Value} (I:Inv X pins σ H s) (r:RelV x v) (ty:tyV X.K T x H) :
s.TypeIs v T /\ ∀ a,v = .ref a -> ∃ ob,s.heap.get? a = some ob /\ ob.dict = none:=by
 cases x with
 | str z =>
  obtain ⟨t,rfl⟩:=r;cases (show T = "str" from ty);exact ⟨typeIs_str s z t,λ_ e=>nomatch e⟩
 | int i =>
  obtain ⟨t,rfl⟩:=r;cases (show T = "int" from ty);exact ⟨typeIs_int s i t,λ_ e=>nomatch e⟩
 | ref p =>
  cases r
  rcases ty with ⟨rfl,xs,hq⟩ | ⟨rfl,o,hk,hc,hd⟩ | ⟨rfl,hk⟩ | ⟨rfl,S,n,hk⟩
  ·obtain ⟨its,_,pl,_⟩:=I.list hq
   refine ⟨pl.isList.typeIs,λa e=>?_⟩;cases e;obtain ⟨o,n,e,c,hd,_⟩:=pl;exact ⟨o,e,hd⟩
  ·refine ⟨⟨o,I.kIn p o hk,hc⟩,λa e=>?_⟩
   cases e;exact ⟨o,I.kIn _ o hk,hd⟩
  ·have z:∃ o,s.heap.get? p = some o /\ o.ExactDict:=by
    rcases hk with ⟨kvs,hk⟩ | ⟨kvs,hk⟩
    ·obtain ⟨_,_,_,_,o,_,_,e,ex,_⟩:=I.hok p _ hk
     exact ⟨o,e,ex⟩
    ·obtain ⟨_,_,_,_,o,_,_,e,ex,_⟩:=I.hok p _ hk
     exact ⟨o,e,ex⟩
   obtain ⟨o,e,ex⟩:=z;refine ⟨⟨o,e,ex.1⟩,λa e2=>?_⟩;cases e2;exact ⟨o,e,ex.2.1⟩
  ·obtain ⟨o,_,_,_,e,ex,_⟩:=I.hok p _ hk
   refine ⟨⟨o,e,ex.1⟩,λa e2=>?_⟩;cases e2;exact ⟨o,e,ex.2.1⟩
 | _=>exact False.elim ty
def tBM (K:PySem.W.Frag) (T:String) (r:V -> List V -> Hp -> VK -> Prop) (to:TE) (t:TA):TE:=λσ H Q=>to σ H λx H1=>tyV K T x H1 /\ t σ H1 λxs H2=>r x xs H2 Q
variable {o e:Expr} {es:List Expr} {to:TE} {t:TA} {name:Str} {apos cpos:Pos} {T id:String} {r:V -> List V -> Hp -> VK -> Prop}
theorem pe_bm (pa:PlainAttrs T) (slot:Slot T name id) (hty:typeOf (.builtin id) = pure (.type "method_descriptor")) (hm:MtR X id r) (ho:PE X o to) (ha:PA X (e :: es) t)
(hbase:attributeBase o name X.env (eval o X.env) = eval o X.env:=by rfl)
(hfew:((backTo cpos (starEach (e :: es) X.env)).all (λx=>!x.1) && (backToKw cpos (keywordEach [] X.env)).all (λx=>x.1.isSome)
&& decide ((e :: es).length + ([]:List Keyword).length + (if ([]:List Keyword).isEmpty then 0 else 1) < 30)) = true:=by rfl)
(hline:(apos.endLine == cpos.line) = true:=by rfl) (hs:starEach (e :: es) X.env = (false,eval e X.env) :: starEach es X.env:=by rfl) (hplain:(backTo cpos (starEach es X.env)).any (·.1) = false:=by rfl) :
PE X (.Call (.Attribute o name apos) (e :: es) [] cpos) (tBM X.K T r to t):=by
 intro pins s σ H Q I h;refine wpAny_Call_method_late hbase hfew hline rfl (thn (ho pins s σ H _ I h) λv s1 ⟨x,H1,I1,r1,ty,q1⟩=>?_);obtain ⟨h1,h2⟩:=Xuf I1 r1 ty;refine ⟨T,id,pa,slot,hty,h1,h2,?_⟩;have hA:=ha cpos pins s1 σ H1 _ I1 q1;rw [hs] at hA ⊢
 refine Calls.callWith_builtin (by show (false || (backTo cpos (starEach es X.env)).any (·.1)) = false;rw [hplain] <;> rfl) (Calls.evalArgs_plain ?_);exact thn hA λus s2 ⟨vs,H2,I2,r2,q2⟩=>hm pins s2 σ H2 x vs v us Q I2 r1 r2 q2
end
def MtM (X:Cx) (id:String) (r:V -> List V -> Hp -> VK -> Prop):Prop :=
 ∀ (pins:List (Addr × Obj)) (s:Shared) (σ:St) (H:Hp) (x:V) (xs:List V) (v:Value) (us:List Value) (Q:VK),Inv X pins σ H s -> RelV x v -> Vals xs us -> r x xs H Q ->
  wpAny (model X.prog X.w) X.A (call (.builtin id) (v :: us)) (EP X pins σ Q) X.xe s
theorem Vals.one:∀ {x:V} {us:List Value},Vals [x] us -> ∃ u,us = [u] /\ RelV x u
 | _,_,.cons r .nil=>⟨_,rfl,r⟩
section
variable {X:Cx} {pins:List (Addr × Obj)} {σ:St} {H:Hp} {s:Shared} {l b:Addr} {xs ys zs:List V}
theorem Inv.lset {its its':List Value} {n:Nat} {f:Array Value -> Array Value} {t':Nat} (I:Inv X pins σ H s) (hH:H l = some (.lst xs))
(e:s.heap.get? l = some { cls:=.type "list", data:=.seq its.toArray n }) (hf:f its.toArray = its'.toArray) (hv:Vals ys its') (hz:ys.length <= sizeLine) :
Inv X pins σ (upd H l (.lst ys)) { s with heap:=s.heap.update l (Obj.mapSeq f),toks:=t' }:=by
 have q:=PySem.IsL.update e f;rw [hf] at q;refine I.write (x:=l) (e:=l) (by rw [hH];exact trivial) (.inl rfl) (λb' u hb hu=>(Heap.get?_update_other s.heap (Obj.mapSeq f) (Ne.symm hb)).trans hu) ⟨_,q⟩ ?_;exact ⟨hz,its',_,hv,q⟩
theorem Inv.lnew {its:List Value} {t':Nat} (I:Inv X pins σ H s) (hv:Vals ys its) (hz:ys.length <= sizeLine) :
Inv X pins σ (upd H s.heap.objs.size (.lst ys)) { s with heap:=s.heap.push { cls:=.type "list", data:=.seq its.toArray },toks:=t' } :=
 I.laid (λ_ _ q=>Heap.get?_push_of_some _ q) (Nat.le_refl _) ⟨hz,its,0,hv,Heap.get?_push_size _ rfl⟩
theorem Inv.fresh (I:Inv X pins σ H s):H s.heap.objs.size = none:=I.hok.fresh (Nat.le_refl _)
theorem Inv.lstM (I:Inv X pins σ H s) (hH:H l = some (.lst xs)):xs.length <= sizeLine /\ ∃ (its:List Value) (n:Nat),Vals xs its /\ xs.length = its.length /\ s.heap.get? l = some { cls:=.type "list", data:=.seq its.toArray n }:=by
 obtain ⟨z,its,n,r,e⟩:=I.hok l _ hH;exact ⟨z,its,n,r,r.length,e⟩
end
section
variable {X:Cx}
def Xsc:V -> List V -> Hp -> VK -> Prop:=λx vs H Q=>∃ l xs y,x = .ref l /\ vs = [y] /\ H l = some (.lst xs) /\ xs.length < sizeLine /\ Q .non (upd H l (.lst (xs ++ [y])))
theorem Xeb:MtM X "list.append" Xsc:=by
 intro pins s σ H x vs v us Q I rx rv h;obtain ⟨l,xs,y,rfl,rfl,hH,hz,q⟩:=h;cases rx;obtain ⟨u,rfl,ru⟩:=rv.one;obtain ⟨z,its,n,r,hl,e⟩:=I.lstM hH;refine call_meets F.slot_list_append ⟨_,e,rfl⟩ F.entry_list_append (F.args_list_append_2 _ _) (PySem.list_append l its.toArray n u (by rw [List.size_toArray];omega)) ⟨e,?_⟩;refine ⟨.non,_,I.lset (its':=its ++ [u]) hH e (by simp) (r.append (.cons ru .nil)) ?_,rfl,q⟩;rw [List.length_append,List.length_singleton];omega
end
section
variable {prog:Program} {w:World} {A:Around} {E:Value -> Shared -> Prop} {s:Shared}
set_option maxRecDepth 100000 in
end
section
variable {X:Cx}
end
section
variable {κ:Type} [DecidableEq κ]
def valV (kvs:List (κ × V)) (k:κ):Option V:=(kvs.find? λkv=>decide (kv.1 = k)).map (·.2)
def putK (kvs:List (κ × V)) (k:κ) (v:V):List (κ × V) :=
 if (kvs.any λkv=>decide (kv.1 = k)) = true then kvs.map (λkv=>if kv.1 = k then (kv.1,v) else kv) else kvs ++ [(k,v)]
theorem Xby {p:κ × V} {r:List (κ × V)} {k:κ} (e:p.1 = k):valV (p :: r) k = some p.2:=by simp [valV,List.find?_cons,e]
theorem Xbz {p:κ × V} {r:List (κ × V)} {k:κ} (e:¬ p.1 = k):valV (p :: r) k = valV r k:=by simp [valV,List.find?_cons,e]
theorem Xdq (k:κ):∀ kvs:List (κ × V),(kvs.any λkv=>decide (kv.1 = k)) = (valV kvs k).isSome
 | []=>rfl
 | p :: r=>by
  rw [List.any_cons]
  by_cases e:p.1 = k
  ·simp only [Xby e,decide_eq_true e,Bool.true_or,Option.isSome_some]
  ·rw [Xbz e,decide_eq_false e,Bool.false_or];exact Xdq k r
theorem Xbi (kvs:List (κ × V)) (k:κ) (v:V):(putK kvs k v).length <= kvs.length + 1:=by
 unfold putK
 split
 ·rw [List.length_map];omega
 ·rw [List.length_append,List.length_cons,List.length_nil];omega
theorem RelO.isSome_eq {o:Option V} {u:Option Value} (r:RelO o u):o.isSome = u.isSome:=by
 cases o with
 | none=>cases u with
  | none=>rfl
  | some _=>exact (show False from r).elim
 | some _=>cases u with
  | none=>exact (show False from r).elim
  | some _=>rfl
theorem RelO.getD {o:Option V} {u:Option Value} {d:V} {d':Value} (r:RelO o u) (rd:RelV d d'):RelV (o.getD d) (u.getD d'):=by
 cases o with
 | none=>cases u with
  | none=>exact rd
  | some _=>exact (show False from r).elim
 | some _=>cases u with
  | none=>exact (show False from r).elim
  | some _=>exact r
theorem KV.val {kvs:List (κ × V)} {vs:List (κ × Value)} (r:KV kvs vs) (k:κ):RelO (valV kvs k) (valueAt vs k):=by
 unfold KV at r
 induction r with
 | nil=>exact True.intro
 | @cons p q ps qs h t ih =>
  obtain ⟨h1,h2⟩:=h
  by_cases e:p.1 = k
  ·have e':q.1 = k:=h1.symm.trans e
   have b:valueAt (q :: qs) k = some q.2:=by simp [valueAt,List.find?_cons,e']
   rw [Xby e,b];exact h2
  ·have e':¬ q.1 = k:=λz=>e (h1.trans z)
   have b:valueAt (q :: qs) k = valueAt qs k:=by simp [valueAt,List.find?_cons,e']
   rw [Xbz e,b];exact ih
theorem KV.any {kvs:List (κ × V)} {vs:List (κ × Value)} (r:KV kvs vs) (k:κ):(kvs.any λkv=>decide (kv.1 = k)) = vs.any λkv=>decide (kv.1 = k):=by
 unfold KV at r
 induction r with
 | nil=>rfl
 | cons h t ih=>rw [List.any_cons,List.any_cons,ih,h.1]
theorem KV.repl {kvs:List (κ × V)} {vs:List (κ × Value)} (r:KV kvs vs) (k:κ) {y:V} {u:Value} (ry:RelV y u) :
KV (kvs.map λkv=>if kv.1 = k then (kv.1,y) else kv) (vs.map λkv=>if kv.1 = k then (kv.1,u) else kv):=by
 unfold KV at r ⊢
 induction r with
 | nil=>exact .nil
 | @cons p q ps qs h t ih =>
  rw [List.map_cons,List.map_cons];refine .cons ?_ ih;obtain ⟨h1,h2⟩:=h
  by_cases e:p.1 = k
  ·rw [if_pos e,if_pos (h1.symm.trans e)];exact ⟨h1,ry⟩
  ·rw [if_neg e,if_neg (λz=>e (h1.trans z))];exact ⟨h1,h2⟩
theorem KV.put {kvs:List (κ × V)} {vs:List (κ × Value)} (r:KV kvs vs) (k:κ) {y:V} {u:Value} (ry:RelV y u):KV (putK kvs k y) (stored vs k u):=by
 unfold putK stored;rw [r.any k]
 by_cases e:(vs.any λkv=>decide (kv.1 = k)) = true
 ·rw [if_pos e,if_pos e];exact r.repl k ry
 ·rw [if_neg e,if_neg e];exact Paired.snoc r ⟨rfl,ry⟩
theorem KV.length {kvs:List (κ × V)} {vs:List (κ × Value)} (r:KV kvs vs):kvs.length = vs.length:=Paired.length r
end
theorem kV_is {P:Program} {w:World} {k:Key} {u:Value} (r:RelV (kV k) u):(Xao P w).is k u = true:=by
 cases k with
 | inl i=>obtain ⟨t,e⟩:=(show ∃ t,u = Value.int i t from r);subst e;exact Xiq P w i t
 | inr x=>obtain ⟨t,e⟩:=(show ∃ t,u = Value.str x t from r);subst e;exact Xip P w x t
theorem Xhm {P:Program} {w:World}:∀ {ks:List Key} {us:List Value},Vals (ks.map kV) us -> ItemsAre (Xao P w) ks us
 | [],_,r=>by rw [List.map_nil] at r;cases r;exact .nil
 | k :: ks,_,r=>by
  rw [List.map_cons] at r
  cases r with
  | cons h t=>exact .cons (kV_is h) (Xhm t)
abbrev KT (H:Hp):List (List Key × V) -> List (List Key × Addr × Value) -> Prop:=Paired λp q=>p.1 = q.1 /\ H q.2.1 = some (.tup (p.1.map kV)) /\ RelV p.2 q.2.2
theorem KT.val {H:Hp} {kvs:List (List Key × V)} {xs:List (List Key × Addr × Value)} (r:KT H kvs xs) (k:List Key):RelO (valV kvs k) ((atKey xs k).map (·.2)):=by
 induction r with
 | nil=>exact True.intro
 | @cons p q ps qs h t ih =>
  obtain ⟨h1,_,h2⟩:=h
  by_cases e:p.1 = k
  ·have e':q.1 = k:=h1.symm.trans e
   have b:atKey (q :: qs) k = some q.2:=by simp [atKey,List.find?_cons,e']
   rw [Xby e,b];exact h2
  ·have e':¬ q.1 = k:=λz=>e (h1.trans z)
   have b:atKey (q :: qs) k = atKey qs k:=by simp [atKey,List.find?_cons,e']
   rw [Xbz e,b];exact ih
theorem KT.repl {H:Hp} {kvs:List (List Key × V)} {xs:List (List Key × Addr × Value)} (r:KT H kvs xs) (k:List Key) {y:V} {u:Value} (ry:RelV y u) :
KT H (kvs.map λkv=>if kv.1 = k then (kv.1,y) else kv) (xs.map (putAt k u)):=by
 induction r with
 | nil=>exact .nil
 | @cons p q ps qs h t ih =>
  rw [List.map_cons,List.map_cons];refine .cons ?_ ih;obtain ⟨h1,h2,h3⟩:=h;unfold putAt
  by_cases e:p.1 = k
  ·rw [if_pos e,if_pos (h1.symm.trans e)];exact ⟨h1,h2,ry⟩
  ·rw [if_neg e,if_neg (λz=>e (h1.trans z))];exact ⟨h1,h2,h3⟩
theorem KT.put {H:Hp} {kvs:List (List Key × V)} {xs:List (List Key × Addr × Value)} (r:KT H kvs xs) (k:List Key) {b:Addr} {y:V} {u:Value} (hb:H b = some (.tup (k.map kV))) (ry:RelV y u) :
KT H (putK kvs k y) (storedH xs k b u):=by
 have e:(kvs.any λkv=>decide (kv.1 = k)) = (atKey xs k).isSome:=by
  rw [Xdq,(r.val k).isSome_eq,Option.isSome_map]
 unfold putK storedH;rw [e]
 by_cases q:(atKey xs k).isSome = true
 ·rw [if_pos q,if_pos q];exact r.repl k ry
 ·rw [if_neg q,if_neg q];exact Paired.snoc r ⟨rfl,hb,ry⟩
theorem KT.keeps {H H':Hp} {kvs:List (List Key × V)} {xs:List (List Key × Addr × Value)} (r:KT H kvs xs) (ht:∀ b ys,H b = some (.tup ys) -> H' b = some (.tup ys)):KT H' kvs xs :=
 Paired.mapP r λ_ _ z=>⟨z.1,ht _ _ z.2.1,z.2.2⟩
section
variable {P:Program} {w:World} {H:Hp} {h:Heap} {a:Addr}
theorem rd_of {u:HO} (ok:HOk P w H h) (e:Rd H a u):ObjOk P w H h a u:=e.ok ok
theorem dk_rd {kvs:List (Key × V)} (ok:HOk P w H h) (e:Rd H a (.dK kvs)):kvs.length <= sizeLine /\ (a == sysModules) = false /\ ∃ vs,KV kvs vs /\ h.DictOf (Xao P w) a vs :=
 show ObjOk P w H h a (.dK kvs) from rd_of ok e
theorem dk_of {kvs:List (Key × V)} (ok:HOk P w H h) (e:H a = some (.dK kvs)):kvs.length <= sizeLine /\ (a == sysModules) = false /\ ∃ vs,KV kvs vs /\ h.DictOf (Xao P w) a vs:=dk_rd ok (.inl e)
theorem Xef {ks:List Key} (ok:HOk P w H h) (e:H a = some (.tup (ks.map kV))):(tupleKind (Xao P w)).is h ks a:=by
 obtain ⟨_,its,r,o,h1,h2,n,h3⟩:=(show ObjOk P w H h a (.tup (ks.map kV)) from ok a _ e);exact ⟨o,its.toArray,n,h1,h2,h3,by simpa using Xhm r⟩
theorem dt_rd {kvs:List (List Key × V)} (ok:HOk P w H h) (e:Rd H a (.dT kvs)):kvs.length <= sizeLine /\ (a == sysModules) = false /\
∃ xs,KT H kvs xs /\ h.DictOfH (tupleKind (Xao P w)) a xs:=by
 obtain ⟨z,y,xs,r,o,es,ep,h1,h2,h3,h4,h5⟩:=(show ObjOk P w H h a (.dT kvs) from rd_of ok e);refine ⟨z,y,xs,r,o,es,ep,h1,h2,h3,h4,λx hx=>?_,h5⟩;have all:∀ {l:List (List Key × V)} {m:List (List Key × Addr × Value)},KT H l m -> ∀ x ∈ m,(tupleKind (Xao P w)).is h x.1 x.2.1:=by
  intro l m q
  induction q with
  | nil=>intro x hx;exact nomatch hx
  | @cons p q ps qs hq t ih =>
   intro x hx
   rcases List.mem_cons.mp hx with e | hx
   ·subst e
    exact Xef ok (by rw [<- hq.1];exact hq.2.1)
   ·exact ih x hx
 exact all r x hx
theorem dt_of {kvs:List (List Key × V)} (ok:HOk P w H h) (e:H a = some (.dT kvs)):kvs.length <= sizeLine /\ (a == sysModules) = false /\
 ∃ xs,KT H kvs xs /\ h.DictOfH (tupleKind (Xao P w)) a xs:=dt_rd ok (.inl e)
end
def DGet (H:Hp) (a:Addr) (y:V) (r:Option V):Prop :=
 (∃ kvs k,Rd H a (.dK kvs) /\ y = kV k /\ r = valV kvs k) \/ ∃ kvs k b,Rd H a (.dT kvs) /\ y = .ref b /\ H b = some (.tup (k.map kV)) /\ r = valV kvs k
def DPut (H:Hp) (a:Addr) (y v:V) (H':Hp):Prop :=
 (∃ kvs k,H a = some (.dK kvs) /\ y = kV k /\ kvs.length < sizeLine /\ H' = upd H a (.dK (putK kvs k v))) \/
 ∃ kvs k b,H a = some (.dT kvs) /\ y = .ref b /\ H b = some (.tup (k.map kV)) /\ kvs.length < sizeLine /\ H' = upd H a (.dT (putK kvs k v))
theorem DPut.k {H:Hp} {a:Addr} {kvs:List (Key × V)} {k:Key} {v:V} (e:H a = some (.dK kvs)) (hl:kvs.length < sizeLine):DPut H a (kV k) v (upd H a (.dK (putK kvs k v))):=.inl ⟨kvs,k,e,rfl,hl,rfl⟩
theorem DPut.t {H:Hp} {a b:Addr} {kvs:List (List Key × V)} {k:List Key} {v:V} (e:H a = some (.dT kvs)) (eb:H b = some (.tup (k.map kV))) (hl:kvs.length < sizeLine) :
 DPut H a (.ref b) v (upd H a (.dT (putK kvs k v))):=.inr ⟨kvs,k,b,e,rfl,eb,hl,rfl⟩
section
variable {X:Cx} {pins:List (Addr × Obj)} {σ:St} {H:Hp} {s:Shared} {a:Addr} {y v:V} {u r:Value} {o:Option V} {A:Around} {E:Value -> Shared -> Prop}
theorem Inv.big (I:Inv X pins σ H s):sysModules < s.heap.objs.size:=by
 have h:mainGlobals < s.heap.objs.size:=(I.mod.glob.keeps I.bk).lt;exact Nat.lt_trans (by decide) h
theorem Xog {Q:Value -> Shared -> Prop} (hu:A.units + 1 < cLine) (I:Inv X pins σ H s) (g:DGet H a y (some v)) (ry:RelV y u) (h:∀ w' s',Inv X pins σ H s' -> RelV v w' -> Q w' s') :
wpAny (model X.prog X.w) A (getItem (.ref a) u) Q E s:=by
 rcases g with ⟨kvs,k,e,ey,l⟩ | ⟨kvs,k,b,e,ey,eb,l⟩
 ·subst ey
  obtain ⟨z,hd,vs,rel,dd⟩:=dk_rd I.hok e;obtain ⟨w',hw,rw'⟩:=RelO.some_of (v:=v) (o:=valueAt vs k) (by rw [l];exact rel.val k);exact wpAny_getItem_of (kV_is ry) dd.mapOf hw (h w' _ (I.tok _) rw')
 ·subst ey
  cases (show u = Value.ref b from ry);obtain ⟨z,hd,xs,rel,dd⟩:=dt_rd I.hok e;obtain ⟨w',hw,rw'⟩:=RelO.some_of (v:=v) (o:=(atKey xs k).map (·.2)) (by rw [l];exact rel.val k);obtain ⟨p,hp,hp2⟩:=Option.map_eq_some_iff.mp hw;refine wpAny_getItem_heap (tupleKind_room_in1 hu) (Xef I.hok eb) dd hp ?_;rw [hp2];exact h w' _ (I.tok _) rw'
theorem d_in {Q:Value -> Shared -> Prop} (hu:A.units + 1 < cLine) (I:Inv X pins σ H s) (g:DGet H a y o) (ry:RelV y u) (h:∀ s',Inv X pins σ H s' -> Q (.bool o.isSome) s') :
wpAny (model X.prog X.w) A (compareOp .In u (.ref a)) Q E s:=by
 rcases g with ⟨kvs,k,e,ey,l⟩ | ⟨kvs,k,b,e,ey,eb,l⟩
 ·subst ey
  obtain ⟨z,hd,vs,rel,dd⟩:=dk_rd I.hok e;refine wpAny_in_of (kV_is ry) hd dd.mapOf ?_;rw [<- (rel.val k).isSome_eq,<- l];exact h _ (I.tok _)
 ·subst ey
  cases (show u = Value.ref b from ry);obtain ⟨z,hd,xs,rel,dd⟩:=dt_rd I.hok e;refine wpAny_in_heap (tupleKind_room_in1 hu) (Xef I.hok eb) hd dd ?_;have q:=(rel.val k).isSome_eq;rw [Option.isSome_map] at q;rw [<- q,<- l];exact h _ (I.tok _)
theorem Xtv {Q:Value -> Shared -> Prop} (hu:A.units + 1 < cLine) (I:Inv X pins σ H s) (g:DGet H a y o) (ry:RelV y u) (h:∀ s',Inv X pins σ H s' -> Q (.bool (!o.isSome)) s') :
wpAny (model X.prog X.w) A (compareOp .NotIn u (.ref a)) Q E s:=by
 rcases g with ⟨kvs,k,e,ey,l⟩ | ⟨kvs,k,b,e,ey,eb,l⟩
 ·subst ey
  obtain ⟨z,hd,vs,rel,dd⟩:=dk_rd I.hok e;refine wpAny_notIn_of (kV_is ry) hd dd.mapOf ?_;rw [<- (rel.val k).isSome_eq,<- l];exact h _ (I.tok _)
 ·subst ey
  cases (show u = Value.ref b from ry);obtain ⟨z,hd,xs,rel,dd⟩:=dt_rd I.hok e;refine wpAny_notIn_heap (tupleKind_room_in1 hu) (Xef I.hok eb) hd dd ?_;have q:=(rel.val k).isSome_eq;rw [Option.isSome_map] at q;rw [<- q,<- l];exact h _ (I.tok _)
theorem Xgn {h':Heap} {t':Nat} {ob:HO} (I:Inv X pins σ H s) (mu:Mut (H a)) (hs:Heap.SameBut a s.heap h') (he:∃ q,h'.get? a = some q) (new:ObjOk X.prog X.w (upd H a ob) h' a ob) :
Inv X pins σ (upd H a ob) { s with heap:=h',toks:=t' } :=
 I.write (x:=a) (e:=a) mu (.inl rfl) (λb q hb z=>(hs.2 b hb).trans z) he new
theorem Xrj {P:Program} {w:World} {H':Hp} {h':Heap} {kvs:List (Key × V)} {vs:List (Key × Value)} (z:kvs.length <= sizeLine) (hd:(a == sysModules) = false) (rel:KV kvs vs) (dd:h'.DictOf (Xao P w) a vs) :
 ObjOk P w H' h' a (.dK kvs):=⟨z,hd,vs,rel,dd⟩
theorem Xof {H':Hp} {Q:Unit -> Shared -> Prop} (hu:A.units + 1 < cLine) (I:Inv X pins σ H s) (g:DPut H a y v H') (ry:RelV y u) (rv:RelV v r) (h:∀ s',Inv X pins σ H' s' -> Q () s') :
wpAny (model X.prog X.w) A (setItem (.ref a) u r) Q E s:=by
 rcases g with ⟨kvs,k,e,ey,l,eH⟩ | ⟨kvs,k,b,e,ey,eb,l,eH⟩
 ·subst ey eH
  obtain ⟨z,hd,vs,rel,dd⟩:=dk_of I.hok e;have hz:vs.length <= sizeLine:=by rw [<- rel.length];exact z
  have hl:(putK kvs k v).length <= sizeLine:=by have:=Xbi kvs k v;omega
  refine wpAny_setItem_pairs (hsz:=hz) (kV_is ry) dd λh' dd' hs=>h _ ?_
  have he:∃ q,h'.get? a = some q:=let ⟨q,_,_,hq,_⟩:=dd';⟨q,hq⟩;exact Xgn I (by rw [e];exact True.intro) hs he (Xrj hl hd (rel.put k rv) dd')
 ·subst ey eH
  cases (show u = Value.ref b from ry);obtain ⟨z,hd,xs,rel,dd⟩:=dt_of I.hok e;have hz:xs.length <= sizeLine:=by rw [<- Paired.length rel];exact z
  have hl:(putK kvs k v).length <= sizeLine:=by have:=Xbi kvs k v;omega
  refine wpAny_setItem_heap (hsz:=hz) (tupleKind_room_in1 hu) (Xef I.hok eb) dd λh' dd' hs=>h _ ?_
  obtain ⟨q,es,ep,hq,h2,h3,h4,_,h5⟩:=dd';refine Xgn I (by rw [e];exact True.intro) hs ⟨q,hq⟩ ⟨hl,hd,_,(rel.put k eb rv).keeps λc ys ec=>?_,q,es,ep,hq,h2,h3,h4,h5⟩;rw [Xad (ne_of ec e (λz=>nomatch z))];exact ec
end
section
variable {X:Cx} {pins:List (Addr × Obj)} {σ:St} {H:Hp} {s:Shared} {a:Addr} {kvs:List (Key × V)} {k:Key} {u:Value} {A:Around} {E:Value -> Shared -> Prop}
end
def NoSl (i:Expr):Prop:=∀ ov iv,subscripted i false ov iv = operate [ov,iv] (getItem ov iv)
theorem Xrt {prog:Program} {w:World} {A:Around} {E:Value -> Shared -> Prop} {s:Shared} {env:Env} {value slice:Expr} {pos:Pos} {T id:String} {Q:Value -> Shared -> Prop}
(hl:typeLookup (.type T) "__getitem__" = pure (some (.builtin id))) (hs:NoSl slice)
(h:wpAny (model prog w) A (eval value env) (λo s₁=>wpAny (model prog w) A (eval slice env) (λi s₂=>s₂.TypeIs o T /\ wpAny (model prog w) A (getItem o i) Q E s₂) E s₁) E s) :
wpAny (model prog w) A (eval (.Subscript value slice pos) env) Q E s:=by
 refine Subscript_ (wpAny_mono h (λo s₁ h₁=>wpAny_mono h₁ (λi s₂ h₂=>?_) λ_ _ x=>x) λ_ _ x=>x);obtain ⟨hT,h₂⟩:=h₂;unfold subscriptTail;refine wpAny_bind ?_;rw [getitemInPython_of_ne hT.not_modules];refine wpAny_bind (wpAny_specialOf hT hl ?_);have fin:wpAny (model prog w) A (subscripted slice false o i) (λr s₃=>wpAny (model prog w) A (letTemporaryGo value o r >>= λ_=>pure r) Q E s₃) E s₂:=by
  rw [hs o i];exact wpAny_operating (wpAny_mono h₂ (λr s₃ h₃=>wpAny_bind (wpAny_letTemporaryGo (wpAny_pure h₃))) λ_ _ x=>x)
 first
  | exact wpAny_pure (wpAny_bind fin)
  | exact wpAny_bind (wpAny_pure (wpAny_bind fin))
  | exact wpAny_bind fin
theorem Xiw {X:Cx} {pins:List (Addr × Obj)} {σ:St} {H:Hp} {s:Shared} {a:Addr} {y:V} {o:Option V} (I:Inv X pins σ H s) (g:DGet H a y o):s.TypeIs (.ref a) "dict" := by
 rcases g with ⟨kvs,k,e,_,_⟩ | ⟨kvs,k,b,e,_,_,_⟩
 ·obtain ⟨_,_,vs,_,dd⟩:=dk_rd I.hok e
  exact dd.typeIs
 ·obtain ⟨_,_,xs,_,dd⟩:=dt_rd I.hok e
  exact dd.typeIs
def tDGet (td ty:TE):TE:=λσ H Q=>td σ H λx H1=>ty σ H1 λy H2=>∃ a v,x = .ref a /\ DGet H2 a y (some v) /\ Q v H2
def tDIn (ty td:TE):TE:=λσ H Q=>ty σ H λy H1=>td σ H1 λx H2=>∃ a o,x = .ref a /\ DGet H2 a y o /\ Q (.bl o.isSome) H2
def Xrs (ty td:TE):TE:=λσ H Q=>ty σ H λy H1=>td σ H1 λx H2=>∃ a o,x = .ref a /\ DGet H2 a y o /\ Q (.bl (!o.isSome)) H2
def sDPut (td ty tv:TE):TS:=λD σ H=>tv σ H λv H1=>td σ H1 λx H2=>ty σ H2 λy H3=>∃ a H4,x = .ref a /\ DPut H3 a y v H4 /\ D.nx σ H4
section
variable {X:Cx} {o i e value:Expr} {pos pos' tpos:Pos} {td ty tv:TE}
theorem Xsp (hu:X.A.units + 1 < cLine) (ho:PE X o td) (hi:PE X i ty) (hs:NoSl i):PE X (.Subscript o i pos) (tDGet td ty):=by
 intro pins s σ H Q I h;refine Xrt PySem.F.slot_dict_getitem.lookup hs (thn (ho pins s σ H _ I h) λu s1 ⟨x,H1,I1,rx,q1⟩=>thn (hi pins s1 σ H1 _ I1 q1) λiv s2 ⟨y,H2,I2,ry,a,v,ex,g,q2⟩=>?_);subst ex;obtain rfl:u = Value.ref a:=rx;exact ⟨Xiw I2 g,Xog hu I2 g ry λw' s3 I3 rw'=>⟨v,H2,I3,rw',q2⟩⟩
theorem Xvj (hu:X.A.units + 1 < cLine) (hi:PE X i ty) (ho:PE X o td):PC X .In i o (tDIn ty td):=by
 intro pins s σ H Q I h;refine thn (hi pins s σ H _ I h) λiv s1 ⟨y,H1,I1,ry,q1⟩=>thn (ho pins s1 σ H1 _ I1 q1) λu s2 ⟨x,H2,I2,rx,a,ov,ex,g,q2⟩=>?_
 subst ex;obtain rfl:u = Value.ref a:=rx;exact d_in hu I2 g ry λs3 I3=>⟨.bl ov.isSome,H2,I3,rfl,q2⟩
theorem Xmy (hu:X.A.units + 1 < cLine) (hi:PE X i ty) (ho:PE X o td):PC X .NotIn i o (Xrs ty td):=by
 intro pins s σ H Q I h;refine thn (hi pins s σ H _ I h) λiv s1 ⟨y,H1,I1,ry,q1⟩=>thn (ho pins s1 σ H1 _ I1 q1) λu s2 ⟨x,H2,I2,rx,a,ov,ex,g,q2⟩=>?_
 subst ex;obtain rfl:u = Value.ref a:=rx;exact Xtv hu I2 g ry λs3 I3=>⟨.bl (!ov.isSome),H2,I3,rfl,q2⟩
theorem Xsi (hu:X.A.units + 1 < cLine) (ho:PE X o td) (hi:PE X i ty) (hv:PE X value tv) (hs:swapsWith value (some (.Subscript o i pos')) pos.line X.env = pure false) :
PS X (.Assign [.Subscript o i pos'] value pos) (sDPut td ty tv):=by
 intro pins s σ H D I h;refine wpAny_Assign_Subscript (thn (hv pins s σ H _ I h) λr s1 ⟨v,H1,I1,rv,q1⟩=>thn (ho pins s1 σ H1 _ I1 q1) λu s2 ⟨x,H2,I2,rx,q2⟩=>thn (hi pins s2 σ H2 _ I2 q2) λiv s3 ⟨y,H3,I3,ry,a,H4,ex,g,q3⟩=>?_) hs;subst ex;obtain rfl:u = Value.ref a:=rx;exact Xof hu I3 g ry rv λs4 I4=>⟨σ,H4,I4,q3⟩
end
theorem Xkl {P:Program} {w:World} {H:Hp} (h:Heap) (hb:sysModules < h.objs.size):ObjOk P w H (h.push { cls:=.type "dict", data:=.dict #[] }) h.objs.size (.dK []) :=
 ⟨Nat.zero_le _,beq_eq_false_iff_ne.mpr (Ne.symm (Nat.ne_of_lt hb)),[],.nil,Heap.DictOf.new h⟩
theorem Xkk {P:Program} {w:World} {H:Hp} (h:Heap) (hb:sysModules < h.objs.size):ObjOk P w H (h.push { cls:=.type "dict", data:=.dict #[] }) h.objs.size (.dT []) :=
 ⟨Nat.zero_le _,beq_eq_false_iff_ne.mpr (Ne.symm (Nat.ne_of_lt hb)),[],.nil,_,#[],0,Heap.get?_push_size _ rfl,⟨rfl,rfl,rfl⟩,rfl,rfl,List.nodup_nil⟩
def Xuj:TE:=λ_ H Q=>∀ p,H p = none -> Q (.ref p) (upd H p (.dK []))
def Xui:TE:=λ_ H Q=>∀ p,H p = none -> Q (.ref p) (upd H p (.dT []))
section
variable {X:Cx} {pos:Pos}
theorem Xpl:PE X (.Dict [] [] pos) Xuj:=λpins s σ H Q I h =>
 wpAny_Dict_empty ⟨.ref s.heap.objs.size,_,I.laid (a:=s.heap.objs.size) (o:=.dK []) (t':=s.toks) (λ_ _ q=>Heap.get?_push_of_some _ q) (Nat.le_refl _) (Xkl s.heap I.big),rfl,h _ (I.hok.fresh (Nat.le_refl _))⟩
theorem Xpk:PE X (.Dict [] [] pos) Xui:=λpins s σ H Q I h =>
 wpAny_Dict_empty ⟨.ref s.heap.objs.size,_,I.laid (a:=s.heap.objs.size) (o:=.dT []) (t':=s.toks) (λ_ _ q=>Heap.get?_push_of_some _ q) (Nat.le_refl _) (Xkk s.heap I.big),rfl,h _ (I.hok.fresh (Nat.le_refl _))⟩
end
structure M1 (X:Cx) (o:Expr) (m:Str) (apos:Pos) (e:Expr) (cpos:Pos):Prop where
 base:attributeBase o m X.env (eval o X.env) = eval o X.env
 few:((backTo cpos (starEach [e] X.env)).all (λx=>!x.1) && (backToKw cpos (keywordEach [] X.env)).all (λx=>x.1.isSome)
  && decide (([e]:List Expr).length + ([]:List Keyword).length + (if ([]:List Keyword).isEmpty then 0 else 1) < 30)) = true
 line:(apos.endLine == cpos.line) = true
 trees:backTo cpos (starEach [e] X.env) = [(false,eval e X.env)]
structure M2 (X:Cx) (o:Expr) (m:Str) (apos:Pos) (e f:Expr) (cpos:Pos):Prop where
 base:attributeBase o m X.env (eval o X.env) = eval o X.env
 few:((backTo cpos (starEach [e,f] X.env)).all (λx=>!x.1) && (backToKw cpos (keywordEach [] X.env)).all (λx=>x.1.isSome)
  && decide (([e,f]:List Expr).length + ([]:List Keyword).length + (if ([]:List Keyword).isEmpty then 0 else 1) < 30)) = true
 line:(apos.endLine == cpos.line) = true
 trees:backTo cpos (starEach [e,f] X.env) = [(false,eval e X.env),(false,eval f X.env)]
def IsD (H:Hp) (a:Addr):Prop:=(∃ kvs,Rd H a (.dK kvs)) \/ ∃ kvs,Rd H a (.dT kvs)
theorem Xwn {X:Cx} {pins:List (Addr × Obj)} {σ:St} {H:Hp} {s:Shared} {a:Addr} (I:Inv X pins σ H s) (d:IsD H a) :
s.TypeIs (.ref a) "dict" /\ (∀ b,Value.ref a = .ref b -> ∃ ob,s.heap.get? b = some ob /\ ob.dict = none) /\ (a == sysModules) = false:=by
 rcases d with ⟨kvs,e⟩ | ⟨kvs,e⟩
 ·obtain ⟨_,hd,vs,_,dd⟩:=dk_rd I.hok e
  refine ⟨dd.typeIs,λb q=>?_,hd⟩;cases q;obtain ⟨ob,_,_,h1,h2,_⟩:=dd;exact ⟨ob,h1,h2.2.1⟩
 ·obtain ⟨_,hd,xs,_,dd⟩:=dt_rd I.hok e
  refine ⟨dd.typeIs,λb q=>?_,hd⟩;cases q;obtain ⟨ob,_,_,h1,h2,_⟩:=dd;exact ⟨ob,h1,h2.2.1⟩
section
variable {X:Cx} {pins:List (Addr × Obj)} {σ:St} {H:Hp} {s:Shared} {a:Addr} {y d:V} {u r:Value} {o:Option V} {A:Around} {E:Value -> Shared -> Prop}
theorem Xwu {Q:Value -> Shared -> Prop} (hu:A.units + 1 < cLine) (I:Inv X pins σ H s) (g:DGet H a y o) (ry:RelV y u) (h:∀ w' s',Inv X pins σ H s' -> RelV (o.getD .non) w' -> Q w' s') :
wpAny (model X.prog X.w) A (call (.builtin "dict.get") [.ref a,u]) Q E s:=by
 rcases g with ⟨kvs,k,e,ey,l⟩ | ⟨kvs,k,b,e,ey,eb,l⟩
 ·subst ey
  obtain ⟨z,hd,vs,rel,dd⟩:=dk_rd I.hok e;refine call_meetsIn PySem.F.slot_dict_get dd.typeIs PySem.F.entry_dict_get (PySem.F.args_dict_get_2 _ _) (meets_dict_get (Xao X.prog X.w) a (kV_is ry) hd) ⟨_,dd.mapOf,h _ _ (I.tok _) ?_⟩;rw [l];exact (rel.val k).getD rfl
 ·subst ey
  cases (show u = Value.ref b from ry);obtain ⟨z,hd,xs,rel,dd⟩:=dt_rd I.hok e;refine call_meetsIn PySem.F.slot_dict_get dd.typeIs PySem.F.entry_dict_get (PySem.F.args_dict_get_2 _ _) (meetsH_dict_get (tupleKind (Xao X.prog X.w)) a b hd) ⟨tupleKind_room_in1 hu,k,xs,Xef I.hok eb,dd,h _ _ (I.tok _) ?_⟩;rw [l];exact (rel.val k).getD rfl
end
def Xuk (td ty:TE):TE:=λσ H Q=>td σ H λx H1=>∃ a,x = .ref a /\ IsD H1 a /\ ty σ H1 λy H2=>∃ o,DGet H2 a y o /\ Q (o.getD .non) H2
section
variable {X:Cx} {o e f:Expr} {apos cpos:Pos} {td ty tx:TE}
theorem Xpm (hu:X.A.units + 1 < cLine) (ho:PE X o td) (he:PE X e ty) (m:M1 X o "get" apos e cpos):PE X (.Call (.Attribute o "get" apos) [e] [] cpos) (Xuk td ty):=by
 intro pins s σ H Q I h;refine wpAny_Call_method m.base m.few m.line PySem.F.plainAttrs_dict PySem.F.slot_dict_get PySem.F.type_dict_get (thn (ho pins s σ H _ I h) λu s1 ⟨x,H1,I1,rx,a,ex,d,q1⟩=>?_);subst ex;obtain rfl:u = Value.ref a:=rx;obtain ⟨t1,t2,_⟩:=Xwn I1 d;refine ⟨t1,t2,?_⟩;rw [m.trees];refine Calls.callWith_builtin rfl (Calls.evalArgs_plain (Calls.spliced_cons (thn (he pins s1 σ H1 _ I1 q1) λiv s2 ⟨y,H2,I2,ry,ov,g,q2⟩=>Calls.spliced_nil ?_)));exact Xwu hu I2 g ry λw' s3 I3 rw'=>⟨_,H2,I3,rw',q2⟩
end
section
variable {X:Cx} {pins:List (Addr × Obj)} {σ:St} {H:Hp} {s:Shared} {a:Addr} {kvs:List (Key × V)} {A:Around} {E:Value -> Shared -> Prop}
end
section
variable {X:Cx} {pins:List (Addr × Obj)} {σ:St} {H:Hp} {s:Shared} {a:Addr} {y:V} {u:Value} {A:Around} {E:Value -> Shared -> Prop}
end
end L2
namespace Att
open PySem PySem.W PySem.Calls PyProof.Rows
theorem Xej {P:Params} {h:Heap}:∀ (ns:List Int) (vs:List Value),WellAll P h vs (ns.map WData.int) -> IntsAre vs ns:=by
 intro ns
 induction ns with
 | nil =>
  intro vs w;rw [List.map_nil] at w;cases w;exact .nil
 | cons n ns ih =>
  intro vs w;rw [List.map_cons] at w
  cases w with
  | cons a b =>
   cases a;exact .cons _ _ (ih _ b)
theorem Xmi {l:OpenLaw} {n:Nat} (hn:l.most = some n) {P:Params} {h:Heap} {args:List WData} {vals:List Value}
(hpre:l.row.toRowW.claim.pre args = true) (hwl:WellAll P h vals args) :
∃ a vs ns,vals = [Value.ref a] /\ args = [WData.list (ns.map WData.int)] /\ h.get? a = some { cls:=.type "list", data:=.seq vs.toArray } /\ IntsAre vs ns /\ ns.length <= n:=by
 have hsh:WShape.hasAll [] args [.list .int] = true:=(pre_splitW hpre).1;have hc:l.pre.holds [] { args:=args } = true:=(pre_splitW hpre).2;obtain ⟨d,r,rfl,h1,h2⟩:=hasAllW_cons hsh;obtain rfl:=hasAllW_nil h2;obtain ⟨xs,rfl,h3⟩:=hasW_list h1;obtain ⟨ns,rfl⟩:=items_int h3;have hlen:ns.length <= n:=by
  unfold OpenLaw.pre at hc;have h4:(WTm.not (.lt (.lit (.int (n:Int))) (.len (.arg 0)))).holds [] { args:=[.list (ns.map .int)] } = true:=by
   have h4:=(holds_andW hc).1;rw [hn] at h4;exact h4
  have h5:=condW_of h4 (w_not (w_lt w_lit (w_len_list (w_arg rfl))));rw [List.length_map] at h5;refine Nat.le_of_not_lt λq=>?_
  have q':(n:Int) < ((ns.length:Nat):Int):=by omega
  first
   | (rw [decide_eq_true q'] at h5;exact absurd h5 (by decide))
   | (simp at h5;omega)
 cases hwl with
 | cons w1 w2 =>
  cases w2
  cases w1 with
  | list ho hall=>exact ⟨_,_,ns,rfl,rfl,ho,Xej ns _ hall,hlen⟩
theorem Xms (l:OpenLaw) (args:List WData):l.row.toRowW.claim.post args (.bool true) args = true :=
 postW_of (r:=l.row.toRowW) (X:=(true == true))
  (show WShape.has [] (.bool true) .bool = true by first | rfl | decide | simp [WShape.has,WShape.arms,WShape.armsAll])
  (show (WTm.eq .res (.lit (.bool true))).value [] { args:=args,res:=some (.bool true),after:=args } = some (.bool (true == true)) from w_eq_bool (w_res rfl) w_lit) rfl
theorem attach_call {l:OpenLaw} {n:Nat} {q:Program} {loose:List Str} {XP:(Str -> Option Value) -> Heap -> Prop} {YP:World -> Heap -> Prop} {d:DefRec}
(hn:l.most = some n) (hdf:d.params.defaults = [])
(call:∀ (w:World) (s₀ s₁:Shared) (mg mb:Str -> Option Value) (fa:Addr) (o:Obj) (pm cd doc:Value) (a:Addr) (vs:List Value) (ns:List Int),
Ground q loose [] XP w s₀ mg mb s₁.heap -> YP w s₁.heap ->
s₁.heap.get? fa = some o -> o.data = .func (docDef d.name d.params d.body d.scope pm cd doc) -> s₁.heap.CodeRec cd d.name -> mg d.name = some (.ref fa) ->
s₁.heap.get? a = some { cls:=.type "list", data:=.seq vs.toArray } -> IntsAre vs ns -> ns.length <= n -> s₁.gens = #[] ->
codeAny (model l.prog w) callerA (.call (.ref fa) ⟨[.ref a],[]⟩) (λr s'=>r = .ok (.ret (.bool true)) /\ OldK s₁.heap s'.heap /\ s'.os = s₁.os /\ AllBare s'.gens) s₁) :
WalkO q loose XP YP l.row.toRowW d [] (λf vs=>PySem.call f vs):=by
 intro w s₀ s₁ mg mb G Y fa o pm cd doc dV kV ho hd hcd hD hmg hg args vals as hpre hlay hrd hwl hlo;obtain rfl:dV = .none:=Dflts.none hD hdf;obtain rfl:kV = .none:=Dflts.noKw hD;obtain ⟨a,vs,ns,rfl,rfl,hobj,hints,hlen⟩:=Xmi hn hpre hwl;refine enter_call (codeAny_mono (call w s₀ s₁ mg mb fa o pm cd doc a vs ns G Y ho (fd_plain hd) hcd hmg hobj hints hlen hg) λr s' hq=>?_);obtain ⟨rfl,h2,h3,h4⟩:=hq;exact ⟨.inl ⟨.bool true,.bool true,[],rfl,λ_=>rfl,.bool true,Xms l _,λ_=>⟨List.Pairwise.nil,λ_ hm=>(nomatch hm)⟩⟩,h2,h3,h4⟩
section
variable {prog:Program} {w:World} {A:Around} {E:Value -> Shared -> Prop} {s:Shared} {K:Frag}
def Xwz (h:Heap) (L d:Addr):List (Addr × Obj):=(List.range h.objs.size).filterMap λa=>if a = L \/ a = d then none else (h.get? a).map λo=>(a,o)
end
end Att
namespace L2
open PySem PySem.Spec PyProof.Rows
theorem vals_ints:∀ {vs:List Value} {ns:List Int},IntsAre vs ns -> Vals (ns.map V.int) vs
 | _,_,.nil=>.nil
 | _,_,.cons n t h=>.cons ⟨t,rfl⟩ (vals_ints h)
def Only (H:Hp):Prop:=∀ b,H b = none \/ ∃ o xs,H b = some (.frz o (.lst xs))
theorem Xpt {P:Program} {w:World} {K:PySem.W.Frag} {mg mb:Str -> Option Value} {CX:CXT} {k:Nat} {fa a:Addr} {fd:FuncData} {x:Str} {sp:Sp} {s₁:Shared} {vs:List Value} {ns:List Int}
(KX:K.In s₁.heap) (hns:s₁.heap.Ns mainGlobals mg) (hb:s₁.heap.Ns builtinsNs mb) (hbb:∀ x:Str,x ≠ "__name__" -> mb x = bootBuiltins x) (hlim:s₁.heap.NoLimit) (hg:s₁.gens = #[])
(ha:s₁.heap.get? a = some { cls:=.type "list", data:=.seq vs.toArray }) (hi:IntsAre vs ns) (hl:ns.length <= sizeLine) (hr:Room k callerA)
(F:∀ base:Heap,K.In base -> base.Ns mainGlobals mg -> FnOk P w K mg base CX k fa fd [x] sp) (hbind:∀ (s:Shared) (u:Value),BindsTo s fd ⟨[u],[]⟩ [(x,u)])
(hsp:∀ H:Hp,Only H -> SqL K H a (ns.map V.int) -> sp [.ref a] H (λv _=>v = .bl true) λ_ _ _=>False)
(hCX:∀ H e s',CX [] H s₁ (λ_ _ _=>False) e s' -> False) :
codeAny (model P w) callerA (.call (.ref fa) ⟨[.ref a],[]⟩) (λr s'=>r = .ok (.ret (.bool true)) /\ OldK s₁.heap s'.heap /\ s'.os = s₁.os /\ AllBare s'.gens) s₁:=by
 have rv:=vals_ints hi;have lenV:=hi.length;have core:∀ H:Hp,Only H -> SqL K H a (ns.map V.int) -> HOk P w H s₁.heap -> (∀ b,H b ≠ none -> b = a) -> (H a ≠ none -> K.lookup a = none) ->
   codeAny (model P w) callerA (.call (.ref fa) ⟨[.ref a],[]⟩) (λr s'=>r = .ok (.ret (.bool true)) /\ OldK s₁.heap s'.heap /\ s'.os = s₁.os /\ AllBare s'.gens) s₁:=by
  intro H hO hS hok hA hK;have base_of:∀ {b:Addr} {o:Obj},s₁.heap.get? b = some o -> H b = none -> (hidT s₁.heap H).get? b = some o:=λe n=>Xqa e n
  have noA:∀ {b:Addr} {o:Obj} {es:Array DictEntry} {ep:Nat},s₁.heap.get? b = some o -> o.data = .dict es ep -> H b = none:=λ{b o es ep} e d=>by
   cases q:H b with
   | none=>rfl
   | some u =>
    have e':b = a:=hA b (by rw [q];simp);subst e';rw [ha] at e;cases e;have d':Data.seq vs.toArray _ = Data.dict es ep:=d;cases d'
  have nsK:∀ {b:Addr} {m:Str -> Option Value},s₁.heap.Ns b m -> (hidT s₁.heap H).Ns b m:=λ{b m} ⟨o,es,ep,e,d,r⟩=>⟨o,es,ep,base_of e (noA e d),d,r⟩
  have hKb:K.In (hidT s₁.heap H):=λb o e=>base_of (KX b o e) (by
   cases q:H b with
   | none=>rfl
   | some u =>
    have e':b = a:=hA b (by rw [q];simp);subst e'
    rw [hK (by rw [q];simp)] at e;cases e)
  have hM:Mod K mg (hidT s₁.heap H):=⟨hKb,nsK hns,⟨mb,nsK hb,hbb⟩,let ⟨mc,h1,h2⟩:=hlim;⟨mc,nsK h1,h2⟩⟩;have e0:Env0 P w K mg (hidT s₁.heap H) callerA [] s₁ H:=⟨rfl,hM,λb o e=>Xsv e,Nat.le_of_eq (Xnx _ _),trivial,λb hb=>absurd (show b ∈ ([]:List Addr) from hb) (by simp),hok,.of_eq hg⟩;refine codeAny_mono ((F _ hKb (nsK hns)).run callerA [] s₁ H ⟨[.ref a],[]⟩ [.ref a] [.ref a] _ _ hr e0 (hbind s₁ (.ref a)) (.cons rfl .nil) (hsp H hO hS)) λr s' h=>?_
  cases r with
  | error e=>exact (hCX H e s' h).elim
  | ok fl =>
   cases fl with
   | next=>exact False.elim h
   | brk=>exact False.elim h
   | cont=>exact False.elim h
   | ret u =>
    obtain ⟨v,H',os,bare,un,hok',r',q⟩:=h;have q':v = .bl true:=q;subst q';obtain rfl:u = Value.bool true:=r';refine ⟨rfl,OldK.of_keep λb o e=>?_,os,bare⟩
    cases q:H b with
    | none=>exact un.keep b o e q (by intro z;exact absurd (show b ∈ ([]:List Addr) from z) (by simp)) (by simp)
    | some u =>
     rcases hO b with z | ⟨ob,xs,z⟩
     ·rw [q] at z;cases z
     ·have z2:=un.frzs b ob _ z
      obtain ⟨e1,_⟩:=hok b _ z;obtain ⟨e2,_⟩:=hok' b _ z2;rw [e] at e1;cases e1;exact e2
 cases hk:K.lookup a with
 | some o =>
  have e:=KX a o hk;rw [ha] at e;cases e;refine core (λ_=>none) (λ_=>.inl rfl) (.inr ⟨_,vs.toArray,_,hk,rfl,rfl,rfl,by rw [List.size_toArray,lenV];exact hl,by simpa using rv⟩) (λb u z=>by have z':(none:Option HO) = some u:=z;cases z') (λb z=>absurd rfl z) λz=>absurd rfl z
 | none =>
  refine core (λb=>if b = a then some (.frz { cls:=.type "list", data:=.seq vs.toArray } (.lst (ns.map V.int))) else none) (λb=>?_) (.inl (.inr ⟨{ cls:=.type "list", data:=.seq vs.toArray },if_pos rfl⟩)) (λb u z=>?_) (λb z=>?_) λ_=>hk
  ·by_cases hb:b = a
   ·exact .inr ⟨_,_,if_pos hb⟩
   ·exact .inl (if_neg hb)
  ·by_cases hb:b = a
   ·have z':=(if_pos hb).symm.trans z
    cases z';subst hb;exact ⟨ha,by rw [List.length_map];exact hl,vs,_,rv,ha⟩
   ·have z':=(if_neg hb).symm.trans z
    cases z'
  ·by_cases hb:b = a
   ·exact hb
   ·exact absurd (if_neg hb) z
theorem walk_of {l:PySem.W.OpenLaw} {n k:Nat} {q:Program} {loose:List Str} {XP:(Str -> Option Value) -> Heap -> Prop} {YP:World -> Heap -> Prop} {d:DefRec} {K:Params -> PySem.W.Frag} {CX:World -> CXT} {sp:World -> Sp} {x:Str}
(hn:l.most = some n) (hn2:n <= sizeLine) (hdf:d.params.defaults = []) (hr:Room k callerA)
(hY:∀ (w:World) (h:Heap),YP w h -> (K w.params).In h)
(F:∀ (w:World) (mg:Str -> Option Value) (fa:Addr) (h:Heap),(K w.params).In h -> h.Ns mainGlobals mg -> mg d.name = some (.ref fa) ->
∃ fd:FuncData,(∀ (s:Shared) (u:Value),BindsTo s fd ⟨[u],[]⟩ [(x,u)]) /\
∀ base:Heap,(K w.params).In base -> base.Ns mainGlobals mg -> FnOk l.prog w (K w.params) mg base (CX w) k fa fd [x] (sp w))
(hsp:∀ (w:World) (H:Hp) (a:Addr) (ns:List Int),ns.length <= n -> Only H -> SqL (K w.params) H a (ns.map V.int) -> sp w [.ref a] H (λv _=>v = .bl true) λ_ _ _=>False)
(hCX:∀ (w:World) (H:Hp) (s:Shared) (e:Value) (s':Shared),CX w [] H s (λ_ _ _=>False) e s' -> False) :
PySem.W.WalkO q loose XP YP l.row.toRowW d [] (λf vs=>PySem.call f vs):=by
 refine Att.attach_call hn hdf λw s₀ s₁ mg mb fa o pm cd doc a vs ns G Y ho hd hcd hmg hobj hints hlen hg=>?_
 have KX:=hY w _ Y;obtain ⟨fd,hb,hF⟩:=F w mg fa _ KX G.T.g hmg;exact Xpt KX G.T.g G.T.b G.T.builtins G.T.nolimit hg hobj hints (Nat.le_trans hlen hn2) hr hF hb (λH hO hS=>hsp w H a ns hlen hO hS) λH e s'=>hCX w H s₁ e s'
def Xdb (s:Stmt):Arguments:=match s with
 | .FunctionDef _ a _ _ _ _ _ _ _ _=>a
 | _=>{ posonlyargs:=[],args:=[],vararg:=none,kwonlyargs:=[],kw_defaults:=[],kwarg:=none,defaults:=[] }
def Xax (s:Stmt):List Stmt:=match s with
 | .FunctionDef _ _ b _ _ _ _ _ _ _=>b
 | _=>[]
def Xab (s:Stmt):Scope:=match s with
 | .FunctionDef _ _ _ _ _ _ sc _ _ _=>sc
 | _=>{ kind:=.function,names:=[],isGenerator:=false,isCoroutine:=false }
abbrev CX0:CXT:=λ_ _ _ _ _ _=>False
abbrev E0:XK:=λ_ _ _=>False
structure Fun (K:PySem.W.Frag) (x qual:Str) (st:Stmt) (f:Addr) (fd:FuncData):Prop where
 ex:∃ (oc:Value) (od:Option Addr) (kV doc pm:Value) (an:Option Addr) (cdv ct:Value) (osl:Array (Option Value)),
  fd = PySem.W.fnOf x qual (Xdb st) (Xax st) (Xab st) .none kV doc pm an cdv ct /\ K.lookup f = some ⟨oc,od,.func fd,osl⟩ /\ PySem.W.codeIn K cdv qual = true
 kp:PySem.W.keepIn K (.ref f) = true
section
variable {P:Program} {w:World} {K:PySem.W.Frag} {mg:Str -> Option Value} {base:Heap}
theorem Fun.ok {x qual:Str} {st:Stmt} {f:Addr} {fd:FuncData} {N ps:List Str} {k:Nat} {sp:Sp} (F:Fun K x qual st f fd) (S:FnScope N ps (Xab st)) (len:∀ vs H Q E,sp vs H Q E -> vs.length = ps.length)
(hbody:∀ (cdv:Value) (A:Around) (outer:List Env) (s:Shared) (H:Hp) (vs:List V) (Q:VK) (E:XK),Room k (A.deeper (envOfC qual (Xab st) s.heap.objs.size f cdv)) -> sp vs H Q E ->
∃ t,PSs (cxOf CX0 P w K mg base N qual (Xab st) f cdv A outer s H E).nox (Xax st) t /\ t { nx:=λ_ H'=>Q .non H',rt:=Q } (start N vs) H):FnOk P w K mg base CX0 (k + 1) f fd ps sp:=by
 obtain ⟨oc,od,kV,doc,pm,an,cdv,ct,osl,rfl,lk,hcd⟩:=F.ex;refine fn_of lk hcd S len λA outer s H vs Q E hr hsp=>?_
 obtain ⟨t,h,q⟩:=hbody cdv A outer s H vs Q E hr hsp;exact ⟨t,h.nox,q⟩
theorem Fun.binds {x qual:Str} {st:Stmt} {f:Addr} {fd:FuncData} {ps:List Str} (F:Fun K x qual st f fd)
(h:∀ (kV doc pm:Value) (an:Option Addr) (cdv ct:Value) (us:List Value),us.length = ps.length -> bindArgs (PySem.W.fnOf x qual (Xdb st) (Xax st) (Xab st) .none kV doc pm an cdv ct) ⟨us,[]⟩ = pure (ps.zip us)):Binds K fd ps []:=by
 obtain ⟨oc,od,kV,doc,pm,an,cdv,ct,osl,rfl,lk,hcd⟩:=F.ex;exact .all (h kV doc pm an cdv ct)
theorem Xas {x qual:Str} {st:Stmt} {f:Addr} {oc:Value} {od an:Option Addr} {osl:Array (Option Value)} {kV doc pm cdv ct:Value} (l:K.lookup f = some ⟨oc,od,.func (PySem.W.fnOf x qual (Xdb st) (Xax st) (Xab st) .none kV doc pm an cdv ct),osl⟩)
 (c:PySem.W.codeIn K cdv qual = true) (k:PySem.W.keepIn K (.ref f) = true):Fun K x qual st f (PySem.W.fnOf x qual (Xdb st) (Xax st) (Xab st) .none kV doc pm an cdv ct):=⟨⟨oc,od,kV,doc,pm,an,cdv,ct,osl,rfl,l,c⟩,k⟩
end
theorem hu_of {A:Around} {k:Nat} (hr:Room k A):A.units + 1 < cLine:=Nat.lt_of_le_of_lt (Nat.add_le_add_left (by decide:1 <= 64) _) hr.units
theorem Xai {n:Nat} (h:n <= 1000):n < sizeLine:=Nat.lt_of_le_of_lt h (by decide)
section
variable {X:Cx}
end
def Same (H H':Hp):Prop:=∀ b o,H b = some o -> H' b = some o
theorem Same.refl (H:Hp):Same H H:=λ_ _ h=>h
theorem Same.trans {H H1 H2:Hp} (a:Same H H1) (b:Same H1 H2):Same H H2:=λc o h=>b c o (a c o h)
theorem Same.seq {K:PySem.W.Frag} {H H':Hp} {a:Addr} {xs:List V} (e:Same H H') (h:SqL K H a xs):SqL K H' a xs:=by
 rcases h with (h | ⟨o,h⟩) | h
 ·exact .inl (.inl (e _ _ h))
 ·exact .inl (.inr ⟨o,e _ _ h⟩)
 ·exact .inr h
end L2
set_option maxHeartbeats 4000000
namespace T
open PySem PyProof.Rows
def gallop':Bool -> Keyed -> Array Keyed -> Nat -> Nat -> Nat -> StateT SortSt Sem (Option Nat):=sortPriv% PySem.Builtin.gallop
structure Ord (prog:Program) (w:World) (A:Around) (s:Shared) (κ:SortKind) (S:Keyed -> Prop) (lt:Keyed -> Keyed -> Bool):Prop where
 run:∀ x y,S x -> S y -> ∀ (E:Value -> Shared -> Prop) (Q:Bool -> Shared -> Prop),Q (lt x y) s -> wpAny (model prog w) A (keyLt' κ x.1 y.1) Q E s
 asym:∀ x y,S x -> S y -> lt x y = true -> lt y x = false
 le:∀ x y z,S x -> S y -> S z -> lt y x = false -> lt z y = false -> lt z x = false
section
variable {prog:Program} {w:World} {A:Around} {E:Value -> Shared -> Prop} {s:Shared} {κ:SortKind} {S:Keyed -> Prop} {lt:Keyed -> Keyed -> Bool}
theorem Xgs (O:Ord prog w A s κ S lt) {st:SortSt} {x y:Keyed} {Q:Option Bool -> SortSt -> Prop} (hk:kindOf st = κ) (hx:S x) (hy:S y) (h:Q (some (lt x y)) st):wpS (model prog w) A E s (lt' x y) Q st:=by
 rw [lt'_eq];refine wpS_bind (wpS_get ?_);refine wpS_bind (wpS_lift (wpAny_attempt ?_));rw [hk];exact O.run x y hx hy _ _ ⟨rfl,wpS_pure h⟩
theorem Xae {st:SortSt} {xs:Array Keyed} {i:Nat} {Q:Keyed -> SortSt -> Prop} (hi:i < xs.size) (h:Q xs[i] st):wpS (model prog w) A E s (elem' xs i) Q st:=by
 rw [elem'_eq,Array.getElem?_eq_getElem hi];exact wpS_pure h
def bey (lt:Keyed -> Keyed -> Bool) (left:Bool) (key x:Keyed):Bool:=if left = true then lt x key else !lt key x
theorem Xku (O:Ord prog w A s κ S lt) {st:SortSt} {left:Bool} {key:Keyed} {arr:Array Keyed} {i:Nat} {Q:Option Bool -> SortSt -> Prop} (hk:kindOf st = κ) (hkey:S key) (hi:i < arr.size) (hS:S arr[i]) (h:Q (some (bey lt left key arr[i])) st) :
wpS (model prog w) A E s (elem' arr i >>= λx=>if left = true then lt' x key else (lt' key x >>= λr=>pure (r.map (!·)))) Q st:=by
 refine wpS_bind (Xae hi ?_);unfold bey at h
 cases left with
 | true=>rw [if_pos rfl] at h ⊢;exact Xgs O hk hS hkey h
 | false =>
  rw [if_neg Bool.false_ne_true] at h ⊢;exact wpS_bind (Xgs O hk hkey hS (wpS_pure h))
def bs (byd:Nat -> StateT SortSt Sem (Option Bool)) (n lo₀ hi₀:Nat):StateT SortSt Sem (Option Nat):=do
 let mut lo:=lo₀
 let mut hi:=hi₀
 for _ in [0:n] do
  if lo ≥ hi then break
  let m:=lo + (hi - lo) / 2
  let some up <- byd m | return none
  if up then lo:=m + 1 else hi:=m
 return some hi
theorem Xue {st:SortSt} {byd:Nat -> StateT SortSt Sem (Option Bool)} {n lo hi:Nat} {Q:Option Nat -> SortSt -> Prop} (B:Nat -> Bool) (mono:∀ i j,i <= j -> j < n -> B j = true -> B i = true) (monoF:∀ i j,i <= j -> j < n -> B i = false -> B j = false)
(hbyd:∀ (i:Nat) (Q':Option Bool -> SortSt -> Prop),i < n -> Q' (some (B i)) st -> wpS (model prog w) A E s (byd i) Q' st) (hl:lo <= hi) (hn:hi <= n) (h1:∀ i,i < lo -> B i = true) (h2:∀ i,hi <= i -> i < n -> B i = false)
(h:∀ r,r <= n -> (∀ i,i < r -> B i = true) -> (∀ i,r <= i -> i < n -> B i = false) -> Q (some r) st):wpS (model prog w) A E s (bs byd n lo hi) Q st:=by
 unfold bs;dsimp only
 refine wpS_bind (wpS_forRange (I:=λt c st'=>st' = st /\ ∃ a b,c = (none,a,b) /\ a <= b /\ b <= n /\ b - a + t <= n /\ (∀ i,i < a -> B i = true) /\ ∀ i,b <= i -> i < n -> B i = false)
  (Q:=λc st'=>wpS (model prog w) A E s _ Q st') ?step ?fin ⟨rfl,lo,hi,rfl,hl,hn,by omega,h1,h2⟩)
 case fin =>
  rintro c st' ⟨rfl,a,b,rfl,a1,a2,a3,a4,a5⟩;have e:a = b:=by omega
  subst e;exact wpS_pure (h a a2 a4 a5)
 case step =>
  rintro t c st' t0 t1 ⟨rfl,a,b,rfl,a1,a2,a3,a4,a5⟩;dsimp only
  by_cases hc:a ≥ b
  ·rw [if_pos hc]
   have e:a = b:=by omega
   subst e;exact wpS_pure (wpS_pure (h a a2 a4 a5))
  ·rw [if_neg hc]
   have hm:a + (b - a) / 2 < b:=by omega
   refine wpS_bind (hbyd _ _ (by omega) ?_);dsimp only
   cases hb:B (a + (b - a) / 2) with
   | true =>
    rw [if_pos rfl];refine wpS_pure ⟨rfl,a + (b - a) / 2 + 1,b,rfl,by omega,a2,by omega,λi hi=>mono i _ (by omega) (by omega) hb,a5⟩
   | false =>
    rw [if_neg Bool.false_ne_true];refine wpS_pure ⟨rfl,a,a + (b - a) / 2,rfl,by omega,by omega,by omega,a4,λi hi hn'=>monoF _ i hi hn' hb⟩
theorem Xew (O:Ord prog w A s κ S lt) {st:SortSt} {left:Bool} {key:Keyed} {arr:Array Keyed} {base n hint:Nat} {Q:Option Nat -> SortSt -> Prop} (hk:kindOf st = κ) (hkey:S key) (hS:∀ i (h:i < arr.size),S arr[i]) (hsz:base + n <= arr.size) (hh:hint < n)
(B:Nat -> Bool) (hB:∀ i (h:base + i < arr.size),i < n -> B i = bey lt left key arr[base + i]) (mono:∀ i j,i <= j -> j < n -> B j = true -> B i = true)
(h:∀ r,r <= n -> (∀ i,i < r -> B i = true) -> (∀ i,r <= i -> i < n -> B i = false) -> Q (some r) st):wpS (model prog w) A E s (gallop' left key arr base n hint) Q st:=by
 have byd:∀ (i:Nat) (Q':Option Bool -> SortSt -> Prop),i < n -> Q' (some (B i)) st -> wpS (model prog w) A E s (elem' arr (base + i) >>= λx=>if left = true then lt' x key else (lt' key x >>= λr=>pure (r.map (!·)))) Q' st:=λi Q' hi hq =>
  Xku O hk hkey (by omega) (hS _ _) (by rw [<- hB i (by omega) hi];exact hq)
 have monoF:∀ i j,i <= j -> j < n -> B i = false -> B j = false:=λi j hij hj hb=>by
  cases q:B j with
  | false=>rfl
  | true=>rw [mono i j hij hj q] at hb;cases hb
 have fin:∀ lo hi,lo <= hi -> hi <= n -> (∀ i,i < lo -> B i = true) -> (∀ i,hi <= i -> i < n -> B i = false) -> wpS (model prog w) A E s (bs (λi=>elem' arr (base + i) >>= λx=>if left = true then lt' x key else (lt' key x >>= λr=>pure (r.map (!·)))) n lo hi) Q st :=
  λlo hi a1 a2 a3 a4=>Xue B mono monoF byd a1 a2 a3 a4 h
 unfold gallop';refine wpS_bind (byd hint _ hh ?_);dsimp only
 cases hb:B hint with
 | true =>
  simp only [if_true];have last:∀ lastofs ofs,lastofs < ofs -> hint + lastofs < n -> B (hint + lastofs) = true -> (n - hint <= ofs \/ (hint + ofs < n /\ B (hint + ofs) = false)) -> wpS (model prog w) A E s (bs (λi=>elem' arr (base + i) >>= λx=>if left = true then lt' x key else (lt' key x >>= λr=>pure (r.map (!·)))) n (hint + lastofs + 1) (hint + min ofs (n - hint))) Q st:=λlastofs ofs a1 a2 a3 a4 =>
   fin _ _ (by omega) (by omega) (λi hi=>mono i _ (by omega) a2 a3) (λi h1 h2=>by
    rcases a4 with z | ⟨z1,z2⟩
    ·omega
    ·exact monoF _ i (by omega) h2 z2)
  refine wpS_bind (wpS_forRange (I:=λt c st'=>st' = st /\ ∃ lastofs ofs,c = (none,lastofs,ofs) /\ lastofs < ofs /\ t + 1 <= ofs /\ hint + lastofs < n /\ B (hint + lastofs) = true)
   (Q:=λc st'=>wpS (model prog w) A E s _ Q st') ?step ?fin ⟨rfl,0,1,rfl,by omega,by omega,by omega,hb⟩)
  case fin =>
   rintro c st' ⟨rfl,lastofs,ofs,rfl,h1,h2,h3,h4⟩;exact last lastofs ofs h1 h3 h4 (.inl (by omega))
  case step =>
   rintro t c st' h0 h1 ⟨rfl,lastofs,ofs,rfl,h2,h3,h4,h5⟩;dsimp only
   by_cases hm:ofs ≥ n - hint
   ·rw [if_pos hm]
    exact wpS_pure (last lastofs ofs h2 h4 h5 (.inl hm))
   ·rw [if_neg hm]
    refine wpS_bind (byd (hint + ofs) _ (by omega) ?_);dsimp only
    cases hb2:B (hint + ofs) with
    | false =>
     simp only [Bool.not_false,if_true];exact wpS_pure (last lastofs ofs h2 h4 h5 (.inr ⟨by omega,hb2⟩))
    | true =>
     simp only [Bool.not_true,Bool.false_eq_true,if_false];exact wpS_pure ⟨rfl,ofs,2 * ofs + 1,rfl,by omega,by omega,by omega,hb2⟩
 | false =>
  simp only [Bool.false_eq_true,if_false];have last:∀ lastofs ofs,lastofs < ofs -> lastofs <= hint -> B (hint - lastofs) = false -> (hint + 1 <= ofs \/ (ofs <= hint /\ B (hint - ofs) = true)) -> wpS (model prog w) A E s (bs (λi=>elem' arr (base + i) >>= λx=>if left = true then lt' x key else (lt' key x >>= λr=>pure (r.map (!·)))) n (hint + 1 - min ofs (hint + 1)) (hint - lastofs)) Q st:=λlastofs ofs a1 a2 a3 a4 =>
   fin _ _ (by omega) (by omega) (λi hi=>by
    rcases a4 with z | ⟨z1,z2⟩
    ·omega
    ·exact mono i _ (by omega) (by omega) z2) (λi h1 h2=>monoF _ i h1 h2 a3)
  refine wpS_bind (wpS_forRange (I:=λt c st'=>st' = st /\ ∃ lastofs ofs,c = (none,lastofs,ofs) /\ lastofs < ofs /\ t + 1 <= ofs /\ lastofs <= hint /\ B (hint - lastofs) = false)
   (Q:=λc st'=>wpS (model prog w) A E s _ Q st') ?step2 ?fin2 ⟨rfl,0,1,rfl,by omega,by omega,by omega,hb⟩)
  case fin2 =>
   rintro c st' ⟨rfl,lastofs,ofs,rfl,h1,h2,h3,h4⟩;exact last lastofs ofs h1 h3 h4 (.inl (by omega))
  case step2 =>
   rintro t c st' h0 h1 ⟨rfl,lastofs,ofs,rfl,h2,h3,h4,h5⟩;dsimp only
   by_cases hm:ofs ≥ hint + 1
   ·rw [if_pos hm]
    exact wpS_pure (last lastofs ofs h2 h4 h5 (.inl hm))
   ·rw [if_neg hm]
    refine wpS_bind (byd (hint - ofs) _ (by omega) ?_);dsimp only
    cases hb2:B (hint - ofs) with
    | true =>
     rw [if_pos rfl];exact wpS_pure (last lastofs ofs h2 h4 h5 (.inr ⟨by omega,hb2⟩))
    | false =>
     rw [if_neg Bool.false_ne_true];exact wpS_pure ⟨rfl,ofs,2 * ofs + 1,rfl,by omega,by omega,by omega,hb2⟩
end
structure Mc (lt:Keyed -> Keyed -> Bool) (a b out:List Keyed) (ia ib:Nat):Prop where
 perm:(out ++ (a.drop ia ++ b.drop ib)).Perm (a ++ b)
 srt:out.Pairwise λx y=>lt y x = false
 low:∀ x ∈ out,∀ y ∈ a.drop ia ++ b.drop ib,lt y x = false
structure Ends (lt:Keyed -> Keyed -> Bool) (a b r:List Keyed):Prop where
 perm:r.Perm (a ++ b)
 srt:r.Pairwise λx y=>lt y x = false
section
variable {lt:Keyed -> Keyed -> Bool} {a b out:List Keyed} {ia ib:Nat}
theorem drop_take (l:List Keyed) (i k:Nat):l.drop i = (l.drop i).take k ++ l.drop (i + k):=by
 rw [<- List.drop_drop];exact (List.take_append_drop k _).symm
theorem Mc.moveA (h:Mc lt a b out ia ib) (sa:a.Pairwise λx y=>lt y x = false) (k:Nat) (hk:∀ x ∈ (a.drop ia).take k,∀ y ∈ b.drop ib,lt y x = false):Mc lt a b (out ++ (a.drop ia).take k) (ia + k) ib:=by
 have e:=drop_take a ia k;have sd:(a.drop ia).Pairwise λx y=>lt y x = false:=sa.sublist (List.drop_sublist _ _)
 rw [e,List.pairwise_append] at sd;refine ⟨?_,?_,?_⟩
 ·refine List.Perm.trans ?_ h.perm
  conv=>rhs;rw [e]
  rw [List.append_assoc,List.append_assoc]
 ·rw [List.pairwise_append]
  exact ⟨h.srt,sd.1,λx hx y hy=>h.low x hx y (List.mem_append_left _ (by rw [e];exact List.mem_append_left _ hy))⟩
 ·intro x hx y hy
  rcases List.mem_append.mp hx with hx | hx
  ·refine h.low x hx y ?_
   rcases List.mem_append.mp hy with hy | hy
   ·exact List.mem_append_left _ (by rw [e];exact List.mem_append_right _ hy)
   ·exact List.mem_append_right _ hy
  ·rcases List.mem_append.mp hy with hy | hy
   ·exact sd.2.2 x hx y hy
   ·exact hk x hx y hy
theorem Mc.moveB (h:Mc lt a b out ia ib) (sb:b.Pairwise λx y=>lt y x = false) (k:Nat) (hk:∀ x ∈ (b.drop ib).take k,∀ y ∈ a.drop ia,lt y x = false):Mc lt a b (out ++ (b.drop ib).take k) ia (ib + k):=by
 have e:=drop_take b ib k;have sd:(b.drop ib).Pairwise λx y=>lt y x = false:=sb.sublist (List.drop_sublist _ _)
 rw [e,List.pairwise_append] at sd;refine ⟨?_,?_,?_⟩
 ·refine List.Perm.trans ?_ h.perm
  conv=>rhs;rw [e]
  rw [List.append_assoc];refine List.Perm.append_left out ?_;rw [<- List.append_assoc,<- List.append_assoc];exact List.Perm.append_right _ List.perm_append_comm
 ·rw [List.pairwise_append]
  exact ⟨h.srt,sd.1,λx hx y hy=>h.low x hx y (List.mem_append_right _ (by rw [e];exact List.mem_append_left _ hy))⟩
 ·intro x hx y hy
  rcases List.mem_append.mp hx with hx | hx
  ·refine h.low x hx y ?_
   rcases List.mem_append.mp hy with hy | hy
   ·exact List.mem_append_left _ hy
   ·exact List.mem_append_right _ (by rw [e];exact List.mem_append_right _ hy)
  ·rcases List.mem_append.mp hy with hy | hy
   ·exact hk x hx y hy
   ·exact sd.2.2 x hx y hy
theorem Mc.endB (h:Mc lt a b out ia ib) (sa:a.Pairwise λx y=>lt y x = false) (e:b.length <= ib):Ends lt a b (out ++ a.drop ia ++ b.drop ib):=by
 have e0:b.drop ib = []:=List.drop_of_length_le e;have p:=h.perm;have lo:=h.low;rw [e0,List.append_nil] at p lo;rw [e0,List.append_nil];refine ⟨p,?_⟩;rw [List.pairwise_append];exact ⟨h.srt,sa.sublist (List.drop_sublist _ _),lo⟩
theorem Mc.endA (h:Mc lt a b out ia ib) (sa:a.Pairwise λx y=>lt y x = false) (sb:b.Pairwise λx y=>lt y x = false) (hl:∀ x ∈ b.drop ib,∀ y ∈ a.drop ia,lt y x = false):Ends lt a b (out ++ b.drop ib ++ a.drop ia):=by
 refine ⟨?_,?_⟩
 ·refine List.Perm.trans ?_ h.perm
  rw [List.append_assoc];exact List.Perm.append_left out List.perm_append_comm
 ·rw [List.append_assoc,List.pairwise_append]
  refine ⟨h.srt,?_,λx hx y hy=>h.low x hx y ?_⟩
  ·rw [List.pairwise_append]
   exact ⟨sb.sublist (List.drop_sublist _ _),sa.sublist (List.drop_sublist _ _),hl⟩
  ·rcases List.mem_append.mp hy with hy | hy
   ·exact List.mem_append_right _ hy
   ·exact List.mem_append_left _ hy
theorem Mc.start:Mc lt a b [] 0 0:=⟨by simp,.nil,λ_ z=>nomatch z⟩
end
def mergeLo':Array Keyed -> Array Keyed -> StateT SortSt Sem (Array Keyed):=sortPriv% PySem.Builtin.mergeLo
def mergeHi':Array Keyed -> Array Keyed -> StateT SortSt Sem (Array Keyed):=sortPriv% PySem.Builtin.mergeHi
structure KeepSt (st st':SortSt):Prop where
 k:kindOf st' = kindOf st
 a:arrOf st' = arrOf st
 p:pendingOf st' = pendingOf st
 f:failedOf st' = failedOf st
theorem KeepSt.refl (st:SortSt):KeepSt st st:=⟨rfl,rfl,rfl,rfl⟩
section
variable {prog:Program} {w:World} {A:Around} {E:Value -> Shared -> Prop} {s:Shared} {κ:SortKind} {S:Keyed -> Prop} {lt:Keyed -> Keyed -> Bool}
theorem Xbn {st:SortSt} {r:String} {Q:Unit -> SortSt -> Prop} (h:Q () st):wpS (model prog w) A E s (liftM (rule r):StateT SortSt Sem Unit) Q st:=wpS_lift (wpAny_rule ⟨rfl,h⟩)
theorem Xfu (O:Ord prog w A s κ S lt) {st:SortSt} {key:Keyed} {arr:Array Keyed} {base n hint:Nat} {Q:Option Nat -> SortSt -> Prop} (hk:kindOf st = κ) (hkey:S key) (hS:∀ i (h:i < arr.size),S arr[i]) (hsz:base + n <= arr.size) (hh:hint < n)
(so:∀ i j (hi:base + i < arr.size) (hj:base + j < arr.size),i <= j -> j < n -> lt arr[base + j] arr[base + i] = false)
(h:∀ k,k <= n -> (∀ i (hi:base + i < arr.size),i < k -> lt key arr[base + i] = false) -> (∀ i (hi:base + i < arr.size),k <= i -> i < n -> lt key arr[base + i] = true) -> Q (some k) st):wpS (model prog w) A E s (gallop' false key arr base n hint) Q st:=by
 refine Xew O hk hkey hS hsz hh (λi=>if hi:base + i < arr.size then !lt key arr[base + i] else false) (λi hi hn=>by rw [dif_pos hi];rfl) (λi j hij hj hb=>?_) λr hr h1 h2=>h r hr (λi hi hir=>?_) (λi hi hir hin=>?_)
 ·have e1:base + j < arr.size:=by omega
  have e2:base + i < arr.size:=by omega
  rw [dif_pos e1] at hb;rw [dif_pos e2];have hb':lt key arr[base + j] = false:=by simpa using hb
  simpa using O.le _ _ _ (hS _ e2) (hS _ e1) hkey (so i j e2 e1 hij hj) hb'
 ·have:=h1 i hir
  rw [dif_pos hi] at this
  simpa using this
 ·have:=h2 i hir hin
  rw [dif_pos hi] at this
  simpa using this
theorem Xbx (O:Ord prog w A s κ S lt) {st:SortSt} {key:Keyed} {arr:Array Keyed} {base n hint:Nat} {Q:Option Nat -> SortSt -> Prop} (hk:kindOf st = κ) (hkey:S key) (hS:∀ i (h:i < arr.size),S arr[i]) (hsz:base + n <= arr.size) (hh:hint < n)
(so:∀ i j (hi:base + i < arr.size) (hj:base + j < arr.size),i <= j -> j < n -> lt arr[base + j] arr[base + i] = false)
(h:∀ k,k <= n -> (∀ i (hi:base + i < arr.size),i < k -> lt arr[base + i] key = true) -> (∀ i (hi:base + i < arr.size),k <= i -> i < n -> lt arr[base + i] key = false) -> Q (some k) st):wpS (model prog w) A E s (gallop' true key arr base n hint) Q st:=by
 refine Xew O hk hkey hS hsz hh (λi=>if hi:base + i < arr.size then lt arr[base + i] key else false) (λi hi hn=>by rw [dif_pos hi];rfl) (λi j hij hj hb=>?_) λr hr h1 h2=>h r hr (λi hi hir=>?_) (λi hi hir hin=>?_)
 ·have e1:base + j < arr.size:=by omega
  have e2:base + i < arr.size:=by omega
  rw [dif_pos e1] at hb;rw [dif_pos e2]
  cases q:lt arr[base + i] key with
  | true=>rfl
  | false =>
   have:=O.le _ _ _ hkey (hS _ e2) (hS _ e1) q (so i j e2 e1 hij hj);rw [this] at hb;cases hb
 ·have:=h1 i hir
  rw [dif_pos hi] at this;exact this
 ·have:=h2 i hir hin
  rw [dif_pos hi] at this;exact this
structure Mf (S:Keyed -> Prop) (lt:Keyed -> Keyed -> Bool) (a b:Array Keyed):Prop where
 Sa:∀ i (h:i < a.size),S a[i]
 Sb:∀ i (h:i < b.size),S b[i]
 sa:∀ i j (hi:i < a.size) (hj:j < a.size),i <= j -> lt a[j] a[i] = false
 sb:∀ i j (hi:i < b.size) (hj:j < b.size),i <= j -> lt b[j] b[i] = false
theorem pw_of {l:Array Keyed} (h:∀ i j (hi:i < l.size) (hj:j < l.size),i <= j -> lt l[j] l[i] = false):l.toList.Pairwise λx y=>lt y x = false:=by
 rw [List.pairwise_iff_getElem];intro i j hi hj hij;have hi':i < l.size:=by simpa using hi
 have hj':j < l.size:=by simpa using hj
 simpa using h i j hi' hj' (Nat.le_of_lt hij)
theorem Xgi {l:Array Keyed} {i:Nat} {y:Keyed} (h:y ∈ l.toList.drop i):∃ j,∃ hj:j < l.size,i <= j /\ y = l[j]:=by
 obtain ⟨k,hk,e⟩:=List.mem_iff_getElem.mp h;rw [List.length_drop] at hk;have hk':i + k < l.size:=by simp at hk;omega
 exact ⟨i + k,hk',by omega,by rw [<- e];simp⟩
theorem Xgh {l:Array Keyed} {i k:Nat} {y:Keyed} (h:y ∈ (l.toList.drop i).take k):∃ j,∃ hj:i + j < l.size,j < k /\ y = l[i + j]:=by
 obtain ⟨j,hj,e⟩:=List.mem_iff_getElem.mp h;rw [List.length_take,List.length_drop] at hj;have hk':i + j < l.size:=by simp at hj;omega
 exact ⟨j,hk',by omega,by rw [<- e];simp⟩
theorem take1 {l:Array Keyed} {i:Nat} (h:i < l.size):(l.toList.drop i).take 1 = [l[i]]:=by
 rw [List.drop_eq_getElem_cons (by simpa using h)];simp
theorem Xob (out l:Array Keyed) (i k:Nat):(out ++ l.extract i (i + k)).toList = out.toList ++ (l.toList.drop i).take k:=by
 simp [Array.toList_append,Array.toList_extract,List.extract_eq_drop_take]
theorem Xgk (l:Array Keyed) (i:Nat):(l.extract i l.size).toList = l.toList.drop i:=by
 simp [Array.toList_extract,List.extract_eq_drop_take]
 first | done | (apply List.take_of_length_le;simp)
variable {a b out:Array Keyed} {ia ib:Nat}
theorem Mf.chunkA (F:Mf S lt a b) (O:Ord prog w A s κ S lt) (h:Mc lt a.toList b.toList out.toList ia ib) (hb:ib < b.size) (k:Nat) (hk:∀ i (hi:ia + i < a.size),i < k -> lt b[ib] a[ia + i] = false):Mc lt a.toList b.toList (out ++ a.extract ia (ia + k)).toList (ia + k) ib:=by
 rw [Xob];refine h.moveA (pw_of F.sa) k λx hx y hy=>?_
 obtain ⟨i,hi,hik,rfl⟩:=Xgh hx;obtain ⟨j,hj,hij,rfl⟩:=Xgi hy;exact O.le _ _ _ (F.Sa _ hi) (F.Sb _ hb) (F.Sb _ hj) (hk i hi hik) (F.sb ib j hb hj hij)
theorem Mf.chunkB (F:Mf S lt a b) (O:Ord prog w A s κ S lt) (h:Mc lt a.toList b.toList out.toList ia ib) (ha:ia < a.size) (k:Nat) (hk:∀ i (hi:ib + i < b.size),i < k -> lt b[ib + i] a[ia] = true):Mc lt a.toList b.toList (out ++ b.extract ib (ib + k)).toList ia (ib + k):=by
 rw [Xob];refine h.moveB (pw_of F.sb) k λx hx y hy=>?_
 obtain ⟨i,hi,hik,rfl⟩:=Xgh hx;obtain ⟨j,hj,hij,rfl⟩:=Xgi hy;exact O.le _ _ _ (F.Sb _ hi) (F.Sa _ ha) (F.Sa _ hj) (O.asym _ _ (F.Sb _ hi) (F.Sa _ ha) (hk i hi hik)) (F.sa ia j ha hj hij)
theorem Xjn {l:Array Keyed} {i:Nat} (h:i < l.size):(out.push l[i]).toList = (out ++ l.extract i (i + 1)).toList:=by
 rw [Xob,take1 h,Array.toList_push]
theorem Mf.pushA (F:Mf S lt a b) (O:Ord prog w A s κ S lt) (h:Mc lt a.toList b.toList out.toList ia ib) (ha:ia < a.size) (hb:ib < b.size) (hk:lt b[ib] a[ia] = false):Mc lt a.toList b.toList (out.push a[ia]).toList (ia + 1) ib:=by
 rw [Xjn ha];exact F.chunkA O h hb 1 λi hi hi1=>by
  have : i = 0:=by omega
  subst this;exact hk
theorem Mf.pushB (F:Mf S lt a b) (O:Ord prog w A s κ S lt) (h:Mc lt a.toList b.toList out.toList ia ib) (ha:ia < a.size) (hb:ib < b.size) (hk:lt b[ib] a[ia] = true):Mc lt a.toList b.toList (out.push b[ib]).toList ia (ib + 1):=by
 rw [Xjn hb];exact F.chunkB O h ha 1 λi hi hi1=>by
  have : i = 0:=by omega
  subst this;exact hk
theorem Mf.endB (F:Mf S lt a b) (h:Mc lt a.toList b.toList out.toList ia ib) (e:b.size <= ib):Ends lt a.toList b.toList (out ++ a.extract ia a.size ++ b.extract ib b.size).toList:=by
 rw [Array.toList_append,Array.toList_append,Xgk,Xgk];exact h.endB (pw_of F.sa) (by simpa using e)
theorem Mf.endA (F:Mf S lt a b) (O:Ord prog w A s κ S lt) (h:Mc lt a.toList b.toList out.toList ia ib) (e:ia + 1 = a.size) (hl:∀ i (hi:i < b.size) (ha:ia < a.size),lt b[i] a[ia] = true):Ends lt a.toList b.toList (out ++ b.extract ib b.size ++ a.extract ia a.size).toList:=by
 rw [Array.toList_append,Array.toList_append,Xgk,Xgk];refine h.endA (pw_of F.sa) (pw_of F.sb) λx hx y hy=>?_
 obtain ⟨i,hi,_,rfl⟩:=Xgi hx;obtain ⟨j,hj,hij,rfl⟩:=Xgi hy;have : j = ia:=by omega
 subst this;exact O.asym _ _ (F.Sb _ hi) (F.Sa _ hj) (hl i hi hj)
end
section
variable {prog:Program} {w:World} {A:Around} {E:Value -> Shared -> Prop} {s:Shared} {κ:SortKind} {S:Keyed -> Prop} {lt:Keyed -> Keyed -> Bool}
theorem Xid (O:Ord prog w A s κ S lt) {st:SortSt} {a b:Array Keyed} {Q:Array Keyed -> SortSt -> Prop} (hk:kindOf st = κ) (F:Mf S lt a b) (ha:0 < a.size) (hb:0 < b.size) (h0:lt b[0] a[0] = true)
(hl:∀ i (hi:i < b.size) j (hj:j < a.size),j + 1 = a.size -> lt b[i] a[j] = true) (h:∀ r st',KeepSt st st' -> Ends lt a.toList b.toList r.toList -> Q r st'):wpS (model prog w) A E s (mergeLo' a b) Q st:=by
 unfold mergeLo';refine wpS_bind (Xbn ?_);dsimp only;refine wpS_bind (Xae hb ?_);have m0:Mc lt a.toList b.toList (#[b[0]]:Array Keyed).toList 0 1:=F.pushB (out:=#[]) O Mc.start ha hb h0
 by_cases e1:1 = b.size
 ·rw [if_pos (by simpa using e1)]
  exact wpS_pure (h _ _ (KeepSt.refl _) (F.endB m0 (by omega)))
 rw [if_neg (by simpa using e1)]
 by_cases e2:0 + 1 = a.size
 ·rw [if_pos (by simpa using e2)]
  exact wpS_pure (h _ _ (KeepSt.refl _) (F.endA O m0 e2 λi hi hj=>hl i hi 0 hj e2))
 rw [if_neg (by simpa using e2)];refine wpS_bind (wpS_get ?_)
 refine wpS_bind (wpS_mono (wpS_forRange (I:=λt c st'=>KeepSt st st' /\ ∃ (out:Array Keyed) (ia ib mg:Nat),c = (none,out,ia,ib,mg) /\ Mc lt a.toList b.toList out.toList ia ib /\ ia + 1 < a.size /\ ib < b.size /\ t + 1 <= ia + ib)
  (Q:=λc st'=>KeepSt st st' /\ ∃ (r out:Array Keyed) (ia ib mg:Nat),c = (some r,out,ia,ib,mg) /\ Ends lt a.toList b.toList r.toList) ?step ?fin ⟨KeepSt.refl _,_,0,1,_,rfl,m0,by omega,by omega,by omega⟩) λc st' hc=>?_)
 case fin =>
  rintro c st' ⟨_,out,ia,ib,mg,rfl,_,h1,h2,h3⟩;omega
 case step =>
  rintro t c st' _ ht ⟨ks,out,ia,ib,mg,rfl,mc,hia,hib,htt⟩;have hk':kindOf st' = κ:=ks.k.trans hk;dsimp only
  refine wpS_bind (wpS_mono (wpS_forRange (I:=λu c st2=>st2 = st' /\ ∃ (out2:Array Keyed) (i2 j2 ac bc:Nat),c = (none,out2,i2,j2,ac,bc) /\ Mc lt a.toList b.toList out2.toList i2 j2 /\ i2 + 1 < a.size /\ j2 < b.size /\ ia + ib + u <= i2 + j2)
   (Q:=λc st2=>st2 = st' /\ ((∃ (r out2:Array Keyed) (i2 j2 ac bc:Nat),c = (some r,out2,i2,j2,ac,bc) /\ Ends lt a.toList b.toList r.toList) \/ ∃ (out2:Array Keyed) (i2 j2 ac bc:Nat),c = (none,out2,i2,j2,ac,bc) /\ Mc lt a.toList b.toList out2.toList i2 j2 /\ i2 + 1 < a.size /\ j2 < b.size /\ ia + ib + 1 <= i2 + j2)) ?s1 ?f1
   ⟨rfl,out,ia,ib,0,0,rfl,mc,hia,hib,by omega⟩) λc1 st2 hc1=>?_)
  case f1 =>
   rintro c st2 ⟨rfl,out2,i2,j2,ac,bc,rfl,h1,h2,h3,h4⟩;exact ⟨rfl,.inr ⟨out2,i2,j2,ac,bc,rfl,h1,h2,h3,by omega⟩⟩
  case s1 =>
   rintro u c st2 _ hu ⟨rfl,out1,i1,j1,ac,bc,rfl,m1,b1,b2,pr⟩;dsimp only;refine wpS_bind (Xae b2 (wpS_bind (Xae (by omega) (wpS_bind (Xgs O hk' (F.Sb _ _) (F.Sa _ _) ?_)))));dsimp only
   cases hlt:lt b[j1] a[i1] with
   | true =>
    rw [if_pos rfl];have m2:=F.pushB O m1 (by omega) b2 hlt;refine wpS_bind (Xae b2 ?_)
    by_cases e:j1 + 1 = b.size
    ·rw [if_pos (by simpa using e)]
     exact wpS_pure ⟨rfl,.inl ⟨_,_,_,_,_,_,rfl,F.endB m2 (by omega)⟩⟩
    ·rw [if_neg (by simpa using e)]
     by_cases g:bc + 1 ≥ mg
     ·rw [if_pos g];exact wpS_pure ⟨rfl,.inr ⟨_,_,_,_,_,rfl,m2,b1,by omega,by omega⟩⟩
     ·rw [if_neg g];exact wpS_pure ⟨rfl,_,_,_,_,_,rfl,m2,b1,by omega,by omega⟩
   | false =>
    rw [if_neg Bool.false_ne_true];have m2:=F.pushA O m1 (by omega) b2 hlt;refine wpS_bind (Xae (by omega) ?_)
    by_cases e:i1 + 1 + 1 = a.size
    ·rw [if_pos (by simpa using e)]
     exact wpS_pure ⟨rfl,.inl ⟨_,_,_,_,_,_,rfl,F.endA O m2 e λi hi hj=>hl i hi _ hj e⟩⟩
    ·rw [if_neg (by simpa using e)]
     by_cases g:ac + 1 ≥ mg
     ·rw [if_pos g];exact wpS_pure ⟨rfl,.inr ⟨_,_,_,_,_,rfl,m2,by omega,b2,by omega⟩⟩
     ·rw [if_neg g];exact wpS_pure ⟨rfl,_,_,_,_,_,rfl,m2,by omega,b2,by omega⟩
  obtain ⟨rfl,⟨r,out2,i2,j2,ac,bc,rfl,he⟩ | ⟨out2,i2,j2,ac,bc,rfl,m2,hi2,hj2,pr⟩⟩:=hc1
  ·exact wpS_pure ⟨ks,r,_,_,_,_,rfl,he⟩
  dsimp only;refine wpS_bind (Xbn ?_)
  refine wpS_bind (wpS_mono (wpS_forRange (I:=λu c st2=>KeepSt st st2 /\ ∃ (out3:Array Keyed) (i3 j3 mg ac bc:Nat),c = (none,out3,i3,j3,mg,ac,bc) /\ Mc lt a.toList b.toList out3.toList i3 j3 /\ i3 + 1 < a.size /\ j3 < b.size /\ i2 + j2 <= i3 + j3)
   (Q:=λc st2=>KeepSt st st2 /\ ((∃ (r out3:Array Keyed) (i3 j3 mg ac bc:Nat),c = (some r,out3,i3,j3,mg,ac,bc) /\ Ends lt a.toList b.toList r.toList) \/ ∃ (out3:Array Keyed) (i3 j3 mg ac bc:Nat),c = (none,out3,i3,j3,mg,ac,bc) /\ Mc lt a.toList b.toList out3.toList i3 j3 /\ i3 + 1 < a.size /\ j3 < b.size /\ i2 + j2 <= i3 + j3)) ?s2 ?f2
   ⟨ks,out2,i2,j2,_,ac,bc,rfl,m2,hi2,hj2,Nat.le_refl _⟩) λc2 st3 hc2=>?_)
  case f2 =>
   rintro c st3 ⟨k3,out3,i3,j3,mg3,ac3,bc3,rfl,h1,h2,h3,h4⟩;exact ⟨k3,.inr ⟨out3,i3,j3,mg3,ac3,bc3,rfl,h1,h2,h3,h4⟩⟩
  case s2 =>
   rintro u c st3 _ hu ⟨k3,out3,i3,j3,mg3,ac3,bc3,rfl,m3,hi3,hj3,pr3⟩;dsimp only;have tail:∀ (mgx:Nat),KeepSt st (SortSt.mk' (kindOf st3) (arrOf st3) (pendingOf st3) mgx (failedOf st3)):=λmgx=>⟨k3.k,k3.a,k3.p,k3.f⟩
   have hk3:kindOf st3 = κ:=k3.k.trans hk;refine (λ(both:∀ mgx:Nat,(?P:Nat -> Prop) mgx)=>?use) ?both
   case use =>
    by_cases hg:mg3 > 1
    ·rw [if_pos hg]
     refine wpS_bind (wpS_modify ?_);generalize mg3 - 1 = mgx;exact both mgx
    ·rw [if_neg hg]
     refine wpS_bind (wpS_modify ?_);exact both mg3
   case both =>
    intro mgx;have kx:=tail mgx;have kxk:=kx.k.trans hk;refine wpS_bind (Xae hj3 (wpS_bind (Xfu O kxk (F.Sb _ _) F.Sa (by omega) (by omega) (λi j hi hj hij _=>F.sa _ _ hi hj (by omega)) λk hkn p1 p2=>?_)));dsimp only;have hkl:i3 + k + 1 <= a.size:=by
     rcases Nat.lt_or_ge (i3 + k) a.size with z | z
     ·omega
     ·have q:=p1 (a.size - 1 - i3) (by omega) (by omega)
      have q2:=hl j3 hj3 (i3 + (a.size - 1 - i3)) (by omega) (by omega);rw [q2] at q;cases q
    by_cases hk0:k > 0
    ·rw [if_pos hk0]
     have mA:=F.chunkA O m3 hj3 k p1
     by_cases e3:i3 + k + 1 = a.size
     ·rw [if_pos (by simpa using e3)]
      exact wpS_pure ⟨kx,.inl ⟨_,_,_,_,_,_,_,rfl,F.endA O mA e3 λi hi hj=>hl i hi _ hj e3⟩⟩
     ·rw [if_neg (by simpa using e3),if_neg (by simp;omega)]
      refine wpS_bind (Xae hj3 ?_);have mB:=F.pushB O mA (by omega) hj3 (p2 k (by omega) (Nat.le_refl _) (by omega))
      by_cases e4:j3 + 1 = b.size
      ·rw [if_pos (by simpa using e4)]
       exact wpS_pure ⟨kx,.inl ⟨_,_,_,_,_,_,_,rfl,F.endB mB (by omega)⟩⟩
      ·rw [if_neg (by simpa using e4)]
       refine wpS_bind (Xae (by omega) (wpS_bind (Xbx O kxk (F.Sa _ _) F.Sb (by omega) (by omega) (λi j hi hj hij _=>F.sb _ _ hi hj (by omega)) λk' hkn' q1 q2=>?_)));dsimp only
       by_cases hk0':k' > 0
       ·rw [if_pos hk0']
        have mC:=F.chunkB O mB (by omega) k' q1
        by_cases e5:j3 + 1 + k' = b.size
        ·rw [if_pos (by simpa using e5)]
         exact wpS_pure ⟨kx,.inl ⟨_,_,_,_,_,_,_,rfl,F.endB mC (by omega)⟩⟩
        ·rw [if_neg (by simpa using e5)]
         refine wpS_bind (Xae (by omega) ?_);have mD:=F.pushA O mC (by omega) (by omega) (q2 k' (by omega) (Nat.le_refl _) (by omega))
         by_cases e6:i3 + k + 1 + 1 = a.size
         ·rw [if_pos (by simpa using e6)]
          exact wpS_pure ⟨kx,.inl ⟨_,_,_,_,_,_,_,rfl,F.endA O mD e6 λi hi hj=>hl i hi _ hj e6⟩⟩
         ·rw [if_neg (by simpa using e6)]
          split
          ·exact wpS_pure ⟨kx,.inr ⟨_,_,_,_,_,_,rfl,mD,by omega,by omega,by omega⟩⟩
          ·exact wpS_pure ⟨kx,_,_,_,_,_,_,rfl,mD,by omega,by omega,by omega⟩
       ·rw [if_neg hk0']
        refine wpS_bind (Xae (by omega) ?_);have mD:=F.pushA O mB (by omega) (by omega) (q2 0 (by omega) (by omega) (by omega))
        by_cases e6:i3 + k + 1 + 1 = a.size
        ·rw [if_pos (by simpa using e6)]
         exact wpS_pure ⟨kx,.inl ⟨_,_,_,_,_,_,_,rfl,F.endA O mD e6 λi hi hj=>hl i hi _ hj e6⟩⟩
        ·rw [if_neg (by simpa using e6)]
         split
         ·exact wpS_pure ⟨kx,.inr ⟨_,_,_,_,_,_,rfl,mD,by omega,by omega,by omega⟩⟩
         ·exact wpS_pure ⟨kx,_,_,_,_,_,_,rfl,mD,by omega,by omega,by omega⟩
    ·rw [if_neg hk0]
     refine wpS_bind (Xae hj3 ?_);have mB:=F.pushB O m3 (by omega) hj3 (p2 0 (by omega) (by omega) (by omega))
     by_cases e4:j3 + 1 = b.size
     ·rw [if_pos (by simpa using e4)]
      exact wpS_pure ⟨kx,.inl ⟨_,_,_,_,_,_,_,rfl,F.endB mB (by omega)⟩⟩
     ·rw [if_neg (by simpa using e4)]
      refine wpS_bind (Xae (by omega) (wpS_bind (Xbx O kxk (F.Sa _ _) F.Sb (by omega) (by omega) (λi j hi hj hij _=>F.sb _ _ hi hj (by omega)) λk' hkn' q1 q2=>?_)));dsimp only
      by_cases hk0':k' > 0
      ·rw [if_pos hk0']
       have mC:=F.chunkB O mB (by omega) k' q1
       by_cases e5:j3 + 1 + k' = b.size
       ·rw [if_pos (by simpa using e5)]
        exact wpS_pure ⟨kx,.inl ⟨_,_,_,_,_,_,_,rfl,F.endB mC (by omega)⟩⟩
       ·rw [if_neg (by simpa using e5)]
        refine wpS_bind (Xae (by omega) ?_);have mD:=F.pushA O mC (by omega) (by omega) (q2 k' (by omega) (Nat.le_refl _) (by omega))
        by_cases e6:i3 + 1 + 1 = a.size
        ·rw [if_pos (by simpa using e6)]
         exact wpS_pure ⟨kx,.inl ⟨_,_,_,_,_,_,_,rfl,F.endA O mD e6 λi hi hj=>hl i hi _ hj e6⟩⟩
        ·rw [if_neg (by simpa using e6)]
         split
         ·exact wpS_pure ⟨kx,.inr ⟨_,_,_,_,_,_,rfl,mD,by omega,by omega,by omega⟩⟩
         ·exact wpS_pure ⟨kx,_,_,_,_,_,_,rfl,mD,by omega,by omega,by omega⟩
      ·rw [if_neg hk0']
       refine wpS_bind (Xae (by omega) ?_);have mD:=F.pushA O mB (by omega) (by omega) (q2 0 (by omega) (by omega) (by omega))
       by_cases e6:i3 + 1 + 1 = a.size
       ·rw [if_pos (by simpa using e6)]
        exact wpS_pure ⟨kx,.inl ⟨_,_,_,_,_,_,_,rfl,F.endA O mD e6 λi hi hj=>hl i hi _ hj e6⟩⟩
       ·rw [if_neg (by simpa using e6)]
        split
        ·exact wpS_pure ⟨kx,.inr ⟨_,_,_,_,_,_,rfl,mD,by omega,by omega,by omega⟩⟩
        ·exact wpS_pure ⟨kx,_,_,_,_,_,_,rfl,mD,by omega,by omega,by omega⟩
  obtain ⟨k3,⟨r,out3,i3,j3,mg3,ac3,bc3,rfl,he⟩ | ⟨out3,i3,j3,mg3,ac3,bc3,rfl,m3,hi3,hj3,pr3⟩⟩:=hc2
  ·exact wpS_pure ⟨k3,r,_,_,_,_,rfl,he⟩
  dsimp only;refine wpS_bind (wpS_modify ?_);exact wpS_pure ⟨⟨k3.k,k3.a,k3.p,k3.f⟩,out3,i3,j3,_,rfl,m3,hi3,hj3,by omega⟩
 obtain ⟨ks,r,out,ia,ib,mg,rfl,he⟩:=hc;exact wpS_pure (h r st' ks he)
end
section
variable {prog:Program} {w:World} {A:Around} {E:Value -> Shared -> Prop} {s:Shared} {κ:SortKind} {S:Keyed -> Prop} {lt:Keyed -> Keyed -> Bool} {a b out:Array Keyed} {na nb:Nat}
def Mh (lt:Keyed -> Keyed -> Bool) (a b out:Array Keyed) (na nb:Nat):Prop:=Mc (λx y=>lt y x) b.toList.reverse a.toList.reverse out.toList (b.size - nb) (a.size - na)
theorem Xcc {l:Array Keyed} {n:Nat} (h:n <= l.size):l.toList.reverse.drop (l.size - n) = (l.toList.take n).reverse:=by
 rw [List.drop_reverse];have : l.toList.length - (l.size - n) = n:=by simp;omega
 rw [this]
theorem Xcd {l:Array Keyed} {n at':Nat} (h:n <= l.size) (h2:at' <= n):(l.toList.reverse.drop (l.size - n)).take (n - at') = ((l.extract at' n).reverse).toList:=by
 rw [Xcc h,List.take_reverse,Array.toList_reverse,Array.toList_extract,List.extract_eq_drop_take];have e:(l.toList.take n).length - (n - at') = at':=by simp;omega
 rw [e,List.drop_take]
theorem Xek {l:Array Keyed} {n at':Nat} {y:Keyed} (h:n <= l.size) (hy:y ∈ ((l.extract at' n).reverse).toList):∃ j,∃ hj:j < l.size,at' <= j /\ j < n /\ y = l[j]:=by
 rw [Array.toList_reverse,List.mem_reverse,Array.toList_extract,List.extract_eq_drop_take] at hy;obtain ⟨j,hj,hjk,rfl⟩:=Xgh hy;exact ⟨at' + j,hj,by omega,by omega,rfl⟩
theorem Xbr {l:Array Keyed} {n:Nat} {y:Keyed} (h:n <= l.size) (hy:y ∈ l.toList.reverse.drop (l.size - n)):∃ j,∃ hj:j < l.size,j < n /\ y = l[j]:=by
 rw [Xcc h,List.mem_reverse] at hy;have : y ∈ (l.toList.drop 0).take n:=by simpa using hy
 obtain ⟨j,hj,hjk,rfl⟩:=Xgh this;exact ⟨0 + j,hj,by omega,rfl⟩
theorem Xhc {l:Array Keyed} (h:∀ i j (hi:i < l.size) (hj:j < l.size),i <= j -> lt l[j] l[i] = false):l.toList.reverse.Pairwise λx y=>(λx y=>lt y x) y x = false:=by
 rw [List.pairwise_reverse];exact pw_of h
theorem Mf.hiA (F:Mf S lt a b) (O:Ord prog w A s κ S lt) (h:Mh lt a b out na nb) (ha:na <= a.size) (hb:nb <= b.size) (hb1:0 < nb) {at':Nat} (h2:at' <= na) (hk:∀ i (hi:i < a.size),at' <= i -> i < na -> lt b[nb - 1] a[i] = true):Mh lt a b (out ++ (a.extract at' na).reverse) at' nb:=by
 have m:=Mc.moveB h (Xhc F.sa) (na - at') λx hx y hy=>?_
 ·unfold Mh
  rw [Xcd ha h2] at m;rw [Array.toList_append];have e:a.size - na + (na - at') = a.size - at':=by omega
  rw [e] at m;exact m
 ·rw [Xcd ha h2] at hx
  obtain ⟨i,hi,h3,h4,rfl⟩:=Xek ha hx;obtain ⟨j,hj,h5,rfl⟩:=Xbr hb hy;exact O.le _ _ _ (F.Sb _ hj) (F.Sb _ (by omega)) (F.Sa _ hi) (F.sb j (nb - 1) hj (by omega) (by omega)) (O.asym _ _ (F.Sb _ (by omega)) (F.Sa _ hi) (hk i hi h3 h4))
theorem Mf.hiB (F:Mf S lt a b) (O:Ord prog w A s κ S lt) (h:Mh lt a b out na nb) (ha:na <= a.size) (hb:nb <= b.size) (ha1:0 < na) {at':Nat} (h2:at' <= nb) (hk:∀ i (hi:i < b.size),at' <= i -> i < nb -> lt b[i] a[na - 1] = false):Mh lt a b (out ++ (b.extract at' nb).reverse) na at':=by
 have m:=Mc.moveA h (Xhc F.sb) (nb - at') λx hx y hy=>?_
 ·unfold Mh
  rw [Xcd hb h2] at m;rw [Array.toList_append];have e:b.size - nb + (nb - at') = b.size - at':=by omega
  rw [e] at m;exact m
 ·rw [Xcd hb h2] at hx
  obtain ⟨i,hi,h3,h4,rfl⟩:=Xek hb hx;obtain ⟨j,hj,h5,rfl⟩:=Xbr ha hy;exact O.le _ _ _ (F.Sa _ hj) (F.Sa _ (by omega)) (F.Sb _ hi) (F.sa j (na - 1) hj (by omega) (by omega)) (hk i hi h3 h4)
theorem Xna {l:Array Keyed} {n:Nat} (h:n < l.size):(out.push l[n]) = out ++ (l.extract n (n + 1)).reverse:=by
 have e:l.extract n (n + 1) = #[l[n]]:=by
  apply Array.toList_inj.mp;rw [Array.toList_extract,List.extract_eq_drop_take,Nat.add_sub_cancel_left,take1 h]
 rw [e];simp
theorem Mf.hiPushA (F:Mf S lt a b) (O:Ord prog w A s κ S lt) (h:Mh lt a b out na nb) (ha:na <= a.size) (hb:nb <= b.size) (hb1:0 < nb) (ha1:0 < na) (hk:lt b[nb - 1] a[na - 1] = true):Mh lt a b (out.push a[na - 1]) (na - 1) nb:=by
 rw [Xna];have e:na - 1 + 1 = na:=by omega
 rw [e];exact F.hiA O h ha hb hb1 (by omega) λi hi h1 h2=>by
  have : i = na - 1:=by omega
  subst this;exact hk
theorem Mf.hiPushB (F:Mf S lt a b) (O:Ord prog w A s κ S lt) (h:Mh lt a b out na nb) (ha:na <= a.size) (hb:nb <= b.size) (hb1:0 < nb) (ha1:0 < na) (hk:lt b[nb - 1] a[na - 1] = false):Mh lt a b (out.push b[nb - 1]) na (nb - 1):=by
 rw [Xna];have e:nb - 1 + 1 = nb:=by omega
 rw [e];exact F.hiB O h ha hb ha1 (by omega) λi hi h1 h2=>by
  have : i = nb - 1:=by omega
  subst this;exact hk
theorem Xkj {r:List Keyed} (h:Ends (λx y=>lt y x) b.toList.reverse a.toList.reverse r):Ends lt a.toList b.toList r.reverse:=by
 refine ⟨?_,?_⟩
 ·refine (List.reverse_perm r).trans (h.perm.trans ?_)
  refine List.Perm.trans (List.Perm.append (List.reverse_perm _) (List.reverse_perm _)) List.perm_append_comm
 ·rw [List.pairwise_reverse];exact h.srt
theorem ext0 {l:Array Keyed} {n:Nat} (h:n <= l.size):(l.extract 0 n).toList = l.toList.take n:=by
 simp [Array.toList_extract,List.extract_eq_drop_take]
theorem Mf.hiEndA (F:Mf S lt a b) (h:Mh lt a b out 0 nb) (hb:nb <= b.size):Ends lt a.toList b.toList (a.extract 0 0 ++ b.extract 0 nb ++ out.reverse).toList:=by
 have m:=Xkj (Mc.endB h (Xhc F.sb) (by simp));have e1:a.toList.reverse.drop (a.size - 0) = []:=List.drop_of_length_le (by simp);rw [e1,List.append_nil,Xcc hb,List.reverse_append,List.reverse_reverse] at m;have e:(a.extract 0 0 ++ b.extract 0 nb ++ out.reverse).toList = b.toList.take nb ++ out.toList.reverse:=by
  rw [Array.toList_append,Array.toList_append,ext0 hb,ext0 (Nat.zero_le _),Array.toList_reverse];simp
 rw [e];exact m
theorem Mf.hiEndB (F:Mf S lt a b) (O:Ord prog w A s κ S lt) (h:Mh lt a b out na 1) (ha:na <= a.size) (hb:1 <= b.size) (hl:∀ i (hi:i < a.size),lt b[0] a[i] = true):Ends lt a.toList b.toList (b.extract 0 1 ++ a.extract 0 na ++ out.reverse).toList:=by
 have m:=Xkj (Mc.endA h (Xhc F.sb) (Xhc F.sa) λx hx y hy=>?_)
 ·rw [Xcc ha,Xcc hb,List.reverse_append,List.reverse_append,List.reverse_reverse,List.reverse_reverse] at m
  have e:(b.extract 0 1 ++ a.extract 0 na ++ out.reverse).toList = b.toList.take 1 ++ (a.toList.take na ++ out.toList.reverse):=by
   rw [Array.toList_append,Array.toList_append,ext0 ha,ext0 hb,Array.toList_reverse,List.append_assoc]
  rw [e];exact m
 ·obtain ⟨i,hi,h4,rfl⟩:=Xbr ha hx
  obtain ⟨j,hj,h5,rfl⟩:=Xbr hb hy;have : j = 0:=by omega
  subst this;exact O.asym _ _ (F.Sb _ hj) (F.Sa _ hi) (hl i hi)
theorem Mf.hiEndA' (F:Mf S lt a b) (h:Mh lt a b out na nb) (e:na = 0) (hb:nb <= b.size):Ends lt a.toList b.toList (a.extract 0 na ++ b.extract 0 nb ++ out.reverse).toList:=by
 subst e;exact F.hiEndA h hb
theorem Mf.hiEndB' (F:Mf S lt a b) (O:Ord prog w A s κ S lt) (h:Mh lt a b out na nb) (e:nb = 1) (ha:na <= a.size) (hb:1 <= b.size) (hl:∀ i (hi:i < a.size),lt b[0] a[i] = true):Ends lt a.toList b.toList (b.extract 0 nb ++ a.extract 0 na ++ out.reverse).toList:=by
 subst e;exact F.hiEndB O h ha hb hl
end
section
variable {prog:Program} {w:World} {A:Around} {E:Value -> Shared -> Prop} {s:Shared} {κ:SortKind} {S:Keyed -> Prop} {lt:Keyed -> Keyed -> Bool}
theorem Xie (O:Ord prog w A s κ S lt) {st:SortSt} {a b:Array Keyed} {Q:Array Keyed -> SortSt -> Prop} (hk:kindOf st = κ) (F:Mf S lt a b) (ha:0 < a.size) (hb:0 < b.size) (h0:∀ i (hi:i < a.size),lt b[0] a[i] = true)
(hl:lt b[b.size - 1] a[a.size - 1] = true) (h:∀ r st',KeepSt st st' -> Ends lt a.toList b.toList r.toList -> Q r st'):wpS (model prog w) A E s (mergeHi' a b) Q st:=by
 unfold mergeHi';refine wpS_bind (Xbn ?_);dsimp only;refine wpS_bind (Xae (by omega) ?_);have m00:Mh lt a b #[] a.size b.size:=by
  unfold Mh;rw [Nat.sub_self,Nat.sub_self];exact Mc.start
 have m0:Mh lt a b (#[a[a.size - 1]]:Array Keyed) (a.size - 1) b.size:=F.hiPushA (out:=#[]) O m00 (Nat.le_refl _) (Nat.le_refl _) hb ha hl
 by_cases e1:a.size - 1 = 0
 ·rw [if_pos (by simpa using e1)]
  refine wpS_pure (h _ _ (KeepSt.refl _) ?_);exact F.hiEndA' m0 e1 (Nat.le_refl _)
 rw [if_neg (by simpa using e1)]
 by_cases e2:b.size = 1
 ·rw [if_pos (by simpa using e2)]
  refine wpS_pure (h _ _ (KeepSt.refl _) ?_);exact F.hiEndB' O m0 e2 (by omega) (by omega) h0
 rw [if_neg (by simpa using e2)];refine wpS_bind (wpS_get ?_)
 refine wpS_bind (wpS_mono (wpS_forRange (I:=λt c st'=>KeepSt st st' /\ ∃ (na nb:Nat) (out:Array Keyed) (mg:Nat),c = (none,na,nb,out,mg) /\ Mh lt a b out na nb /\ 1 <= na /\ na <= a.size /\ 2 <= nb /\ nb <= b.size /\ t + 1 + na + nb <= a.size + b.size)
  (Q:=λc st'=>KeepSt st st' /\ ∃ (r:Array Keyed) (na nb:Nat) (out:Array Keyed) (mg:Nat),c = (some r,na,nb,out,mg) /\ Ends lt a.toList b.toList r.toList) ?step ?fin ⟨KeepSt.refl _,_,_,_,_,rfl,m0,by omega,by omega,by omega,by omega,by omega⟩) λc st' hc=>?_)
 case fin =>
  rintro c st' ⟨_,na,nb,out,mg,rfl,_,h1,h2,h3,h4,h5⟩;omega
 case step =>
  rintro t c st' _ ht ⟨ks,na,nb,out,mg,rfl,mc,hna,hna2,hnb,hnb2,htt⟩;have hk':kindOf st' = κ:=ks.k.trans hk;dsimp only
  refine wpS_bind (wpS_mono (wpS_forRange (I:=λu c st2=>st2 = st' /\ ∃ (n2 j2:Nat) (out2:Array Keyed) (ac bc:Nat),c = (none,n2,j2,out2,ac,bc) /\ Mh lt a b out2 n2 j2 /\ 1 <= n2 /\ n2 <= a.size /\ 2 <= j2 /\ j2 <= b.size /\ n2 + j2 + u <= na + nb)
   (Q:=λc st2=>st2 = st' /\ ((∃ (r:Array Keyed) (n2 j2:Nat) (out2:Array Keyed) (ac bc:Nat),c = (some r,n2,j2,out2,ac,bc) /\ Ends lt a.toList b.toList r.toList) \/ ∃ (n2 j2:Nat) (out2:Array Keyed) (ac bc:Nat),c = (none,n2,j2,out2,ac,bc) /\ Mh lt a b out2 n2 j2 /\ 1 <= n2 /\ n2 <= a.size /\ 2 <= j2 /\ j2 <= b.size /\ n2 + j2 + 1 <= na + nb)) ?s1 ?f1
   ⟨rfl,na,nb,out,0,0,rfl,mc,hna,hna2,hnb,hnb2,by omega⟩) λc1 st2 hc1=>?_)
  case f1 =>
   rintro c st2 ⟨rfl,n2,j2,out2,ac,bc,rfl,h1,h2,h3,h4,h5,h6⟩;exact ⟨rfl,.inr ⟨n2,j2,out2,ac,bc,rfl,h1,h2,h3,h4,h5,by omega⟩⟩
  case s1 =>
   rintro u c st2 _ hu ⟨rfl,i1,j1,out1,ac,bc,rfl,m1,b1,b1',b2,b2',pr⟩;dsimp only;refine wpS_bind (Xae (by omega) (wpS_bind (Xae (by omega) (wpS_bind (Xgs O hk' (F.Sb _ _) (F.Sa _ _) ?_)))));dsimp only
   cases hlt:lt b[j1 - 1] a[i1 - 1] with
   | true =>
    rw [if_pos rfl];have m2:=F.hiPushA O m1 b1' b2' (by omega) b1 hlt;refine wpS_bind (Xae (by omega) ?_)
    by_cases e:i1 - 1 = 0
    ·rw [if_pos (by simpa using e)]
     refine wpS_pure ⟨rfl,.inl ⟨_,_,_,_,_,_,rfl,?_⟩⟩;exact F.hiEndA' m2 e b2'
    ·rw [if_neg (by simpa using e)]
     by_cases g:ac + 1 ≥ mg
     ·rw [if_pos g];exact wpS_pure ⟨rfl,.inr ⟨_,_,_,_,_,rfl,m2,by omega,by omega,b2,b2',by omega⟩⟩
     ·rw [if_neg g];exact wpS_pure ⟨rfl,_,_,_,_,_,rfl,m2,by omega,by omega,b2,b2',by omega⟩
   | false =>
    rw [if_neg Bool.false_ne_true];have m2:=F.hiPushB O m1 b1' b2' (by omega) b1 hlt;refine wpS_bind (Xae (by omega) ?_)
    by_cases e:j1 - 1 = 1
    ·rw [if_pos (by simpa using e)]
     refine wpS_pure ⟨rfl,.inl ⟨_,_,_,_,_,_,rfl,?_⟩⟩;exact F.hiEndB' O m2 e b1' (by omega) h0
    ·rw [if_neg (by simpa using e)]
     by_cases g:bc + 1 ≥ mg
     ·rw [if_pos g];exact wpS_pure ⟨rfl,.inr ⟨_,_,_,_,_,rfl,m2,b1,b1',by omega,by omega,by omega⟩⟩
     ·rw [if_neg g];exact wpS_pure ⟨rfl,_,_,_,_,_,rfl,m2,b1,b1',by omega,by omega,by omega⟩
  obtain ⟨rfl,⟨r,n2,j2,out2,ac,bc,rfl,he⟩ | ⟨n2,j2,out2,ac,bc,rfl,m2,hi2,hi2',hj2,hj2',pr⟩⟩:=hc1
  ·exact wpS_pure ⟨ks,r,_,_,_,_,rfl,he⟩
  dsimp only;refine wpS_bind (Xbn ?_)
  refine wpS_bind (wpS_mono (wpS_forRange (I:=λu c st2=>KeepSt st st2 /\ ∃ (m3n n3:Nat) (out3:Array Keyed) (mg ac bc:Nat),c = (none,m3n,n3,out3,mg,ac,bc) /\ Mh lt a b out3 m3n n3 /\ 1 <= m3n /\ m3n <= a.size /\ 2 <= n3 /\ n3 <= b.size /\ m3n + n3 <= n2 + j2)
   (Q:=λc st2=>KeepSt st st2 /\ ((∃ (r:Array Keyed) (m3n n3:Nat) (out3:Array Keyed) (mg ac bc:Nat),c = (some r,m3n,n3,out3,mg,ac,bc) /\ Ends lt a.toList b.toList r.toList) \/ ∃ (m3n n3:Nat) (out3:Array Keyed) (mg ac bc:Nat),c = (none,m3n,n3,out3,mg,ac,bc) /\ Mh lt a b out3 m3n n3 /\ 1 <= m3n /\ m3n <= a.size /\ 2 <= n3 /\ n3 <= b.size /\ m3n + n3 <= n2 + j2)) ?s2 ?f2
   ⟨ks,n2,j2,out2,_,ac,bc,rfl,m2,hi2,hi2',hj2,hj2',Nat.le_refl _⟩) λc2 st3 hc2=>?_)
  case f2 =>
   rintro c st3 ⟨k3,m3n,n3,out3,mg3,ac3,bc3,rfl,h1,h2,h3,h4,h5,h6⟩;exact ⟨k3,.inr ⟨m3n,n3,out3,mg3,ac3,bc3,rfl,h1,h2,h3,h4,h5,h6⟩⟩
  case s2 =>
   rintro u c st3 _ hu ⟨k3,m3n,n3,out3,mg3,ac3,bc3,rfl,m3,hi3,hi3',hj3,hj3',pr3⟩;dsimp only;have tail:∀ (mgx:Nat),KeepSt st (SortSt.mk' (kindOf st3) (arrOf st3) (pendingOf st3) mgx (failedOf st3)):=λmgx=>⟨k3.k,k3.a,k3.p,k3.f⟩
   refine (λ(both:∀ mgx:Nat,(?P:Nat -> Prop) mgx)=>?use) ?both
   case use =>
    by_cases hg:mg3 > 1
    ·rw [if_pos hg]
     refine wpS_bind (wpS_modify ?_);generalize mg3 - 1 = mgx;exact both mgx
    ·rw [if_neg hg]
     refine wpS_bind (wpS_modify ?_);exact both mg3
   case both =>
    intro mgx;have kx:=tail mgx;have kxk:=kx.k.trans hk;refine wpS_bind (Xae (by omega) (wpS_bind (Xfu O kxk (F.Sb _ _) F.Sa (by omega) (by omega) (λi j hi hj hij _=>F.sa _ _ hi hj (by omega)) λk hkn p1 p2=>?_)));dsimp only
    by_cases hk0:m3n - k > 0
    ·rw [if_pos hk0]
     have mA:=F.hiA O m3 (by omega) (by omega) (by omega) (at':=k) (by omega) (λi hi z1 z2=>by simpa using p2 i (by omega) z1 z2)
     by_cases e3:k = 0
     ·rw [if_pos (by simpa using e3)]
      refine wpS_pure ⟨kx,.inl ⟨_,_,_,_,_,_,_,rfl,?_⟩⟩;exact F.hiEndA' mA e3 (by omega)
     ·rw [if_neg (by simpa using e3)]
      refine wpS_bind (Xae (by omega) ?_);have mB:=F.hiPushB O mA (by omega) (by omega) (by omega) (by omega) (by simpa using p1 (k - 1) (by omega) (by omega))
      by_cases e4:n3 - 1 = 1
      ·rw [if_pos (by simpa using e4)]
       refine wpS_pure ⟨kx,.inl ⟨_,_,_,_,_,_,_,rfl,?_⟩⟩;exact F.hiEndB' O mB e4 (by omega) (by omega) h0
      ·rw [if_neg (by simpa using e4)]
       refine wpS_bind (Xae (by omega) (wpS_bind (Xbx O kxk (F.Sa _ _) F.Sb (by omega) (by omega) (λi j hi hj hij _=>F.sb _ _ hi hj (by omega)) λq hqn q1 q2=>?_)));dsimp only;have hq1:1 <= q:=by
        rcases Nat.lt_or_ge 0 q with z | z
        ·exact z
        ·have z1:=q2 0 (by omega) (by omega) (by omega)
         have z2:=h0 (k - 1) (by omega);exact absurd (z1.symm.trans z2) (by decide)
       by_cases hk0':n3 - 1 - q > 0
       ·rw [if_pos hk0']
        have mC:=F.hiB O mB (by omega) (by omega) (by omega) (at':=q) (by omega) (λi hi z1 z2=>by simpa using q2 i (by omega) z1 z2)
        by_cases e5:q = 1
        ·rw [if_pos (by simpa using e5)]
         refine wpS_pure ⟨kx,.inl ⟨_,_,_,_,_,_,_,rfl,?_⟩⟩;exact F.hiEndB' O mC e5 (by omega) (by omega) h0
        ·rw [if_neg (by simpa using e5),if_neg (by simp;omega)]
         refine wpS_bind (Xae (by omega) ?_);have mD:=F.hiPushA O mC (by omega) (by omega) (by omega) (by omega) (by simpa using q1 (q - 1) (by omega) (by omega))
         by_cases e6:k - 1 = 0
         ·rw [if_pos (by simpa using e6)]
          refine wpS_pure ⟨kx,.inl ⟨_,_,_,_,_,_,_,rfl,?_⟩⟩;exact F.hiEndA' mD e6 (by omega)
         ·rw [if_neg (by simpa using e6)]
          split
          ·exact wpS_pure ⟨kx,.inr ⟨_,_,_,_,_,_,rfl,mD,by omega,by omega,by omega,by omega,by omega⟩⟩
          ·exact wpS_pure ⟨kx,_,_,_,_,_,_,rfl,mD,by omega,by omega,by omega,by omega,by omega⟩
       ·rw [if_neg hk0']
        have eq:q = n3 - 1:=by omega
        refine wpS_bind (Xae (by omega) ?_);have mD:=F.hiPushA O mB (by omega) (by omega) (by omega) (by omega) (by simpa using q1 (n3 - 1 - 1) (by omega) (by omega))
        by_cases e6:k - 1 = 0
        ·rw [if_pos (by simpa using e6)]
         refine wpS_pure ⟨kx,.inl ⟨_,_,_,_,_,_,_,rfl,?_⟩⟩;exact F.hiEndA' mD e6 (by omega)
        ·rw [if_neg (by simpa using e6)]
         split
         ·exact wpS_pure ⟨kx,.inr ⟨_,_,_,_,_,_,rfl,mD,by omega,by omega,by omega,by omega,by omega⟩⟩
         ·exact wpS_pure ⟨kx,_,_,_,_,_,_,rfl,mD,by omega,by omega,by omega,by omega,by omega⟩
    ·rw [if_neg hk0]
     have ek:k = m3n:=by omega
     refine wpS_bind (Xae (by omega) ?_);have mB:=F.hiPushB O m3 (by omega) (by omega) (by omega) (by omega) (by simpa using p1 (m3n - 1) (by omega) (by omega))
     by_cases e4:n3 - 1 = 1
     ·rw [if_pos (by simpa using e4)]
      refine wpS_pure ⟨kx,.inl ⟨_,_,_,_,_,_,_,rfl,?_⟩⟩;exact F.hiEndB' O mB e4 (by omega) (by omega) h0
     ·rw [if_neg (by simpa using e4)]
      refine wpS_bind (Xae (by omega) (wpS_bind (Xbx O kxk (F.Sa _ _) F.Sb (by omega) (by omega) (λi j hi hj hij _=>F.sb _ _ hi hj (by omega)) λq hqn q1 q2=>?_)));dsimp only;have hq1:1 <= q:=by
       rcases Nat.lt_or_ge 0 q with z | z
       ·exact z
       ·have z1:=q2 0 (by omega) (by omega) (by omega)
        have z2:=h0 (m3n - 1) (by omega);exact absurd (z1.symm.trans z2) (by decide)
      by_cases hk0':n3 - 1 - q > 0
      ·rw [if_pos hk0']
       have mC:=F.hiB O mB (by omega) (by omega) (by omega) (at':=q) (by omega) (λi hi z1 z2=>by simpa using q2 i (by omega) z1 z2)
       by_cases e5:q = 1
       ·rw [if_pos (by simpa using e5)]
        refine wpS_pure ⟨kx,.inl ⟨_,_,_,_,_,_,_,rfl,?_⟩⟩;exact F.hiEndB' O mC e5 (by omega) (by omega) h0
       ·rw [if_neg (by simpa using e5),if_neg (by simp;omega)]
        refine wpS_bind (Xae (by omega) ?_);have mD:=F.hiPushA O mC (by omega) (by omega) (by omega) (by omega) (by simpa using q1 (q - 1) (by omega) (by omega))
        by_cases e6:m3n - 1 = 0
        ·rw [if_pos (by simpa using e6)]
         refine wpS_pure ⟨kx,.inl ⟨_,_,_,_,_,_,_,rfl,?_⟩⟩;exact F.hiEndA' mD e6 (by omega)
        ·rw [if_neg (by simpa using e6)]
         split
         ·exact wpS_pure ⟨kx,.inr ⟨_,_,_,_,_,_,rfl,mD,by omega,by omega,by omega,by omega,by omega⟩⟩
         ·exact wpS_pure ⟨kx,_,_,_,_,_,_,rfl,mD,by omega,by omega,by omega,by omega,by omega⟩
      ·rw [if_neg hk0']
       have eq:q = n3 - 1:=by omega
       refine wpS_bind (Xae (by omega) ?_);have mD:=F.hiPushA O mB (by omega) (by omega) (by omega) (by omega) (by simpa using q1 (n3 - 1 - 1) (by omega) (by omega))
       by_cases e6:m3n - 1 = 0
       ·rw [if_pos (by simpa using e6)]
        refine wpS_pure ⟨kx,.inl ⟨_,_,_,_,_,_,_,rfl,?_⟩⟩;exact F.hiEndA' mD e6 (by omega)
       ·rw [if_neg (by simpa using e6)]
        split
        ·exact wpS_pure ⟨kx,.inr ⟨_,_,_,_,_,_,rfl,mD,by omega,by omega,by omega,by omega,by omega⟩⟩
        ·exact wpS_pure ⟨kx,_,_,_,_,_,_,rfl,mD,by omega,by omega,by omega,by omega,by omega⟩
  obtain ⟨k3,⟨r,m3n,n3,out3,mg3,ac3,bc3,rfl,he⟩ | ⟨m3n,n3,out3,mg3,ac3,bc3,rfl,m3,hi3,hi3',hj3,hj3',pr3⟩⟩:=hc2
  ·exact wpS_pure ⟨k3,r,_,_,_,_,rfl,he⟩
  dsimp only;refine wpS_bind (wpS_modify ?_);exact wpS_pure ⟨⟨k3.k,k3.a,k3.p,k3.f⟩,m3n,n3,out3,_,rfl,m3,hi3,hi3',hj3,hj3',by omega⟩
 obtain ⟨ks,r,na,nb,out,mg,rfl,he⟩:=hc;exact wpS_pure (h r st' ks he)
end
structure Bs (κ:SortKind) (S:Keyed -> Prop) (st:SortSt):Prop where
 k:kindOf st = κ
 f:failedOf st = none
 S:∀ x ∈ (arrOf st).toList,S x
def Seg (lt:Keyed -> Keyed -> Bool) (xs:Array Keyed) (l r:Nat):Prop:=∀ i j (hi:i < xs.size) (hj:j < xs.size),l <= i -> i <= j -> j < r -> lt xs[j] xs[i] = false
section
variable {prog:Program} {w:World} {A:Around} {E:Value -> Shared -> Prop} {s:Shared} {κ:SortKind} {S:Keyed -> Prop} {lt:Keyed -> Keyed -> Bool}
theorem Bs.at {st:SortSt} (B:Bs κ S st) {i:Nat} (hi:i < (arrOf st).size):S (arrOf st)[i]:=B.S _ (by simp)
theorem Bs.set {st:SortSt} (B:Bs κ S st) {xs:Array Keyed} (hp:xs.Perm (arrOf st)):Bs κ S (setArr st xs):=by
 have hp':=Array.perm_iff_toList_perm.mp hp;exact ⟨B.k,B.f,λx hx=>B.S x (hp'.mem_iff.mp hx)⟩
theorem Xcu (O:Ord prog w A s κ S lt) {st:SortSt} (B:Bs κ S st) {i j:Nat} {Q:Option Bool -> SortSt -> Prop} (hi:i < (arrOf st).size) (hj:j < (arrOf st).size) (h:Q (some (lt (arrOf st)[i] (arrOf st)[j])) st):wpS (model prog w) A E s (ltAt' i j) Q st:=by
 rw [ltAt'_eq];refine wpS_bind (wpS_get ?_);exact wpS_bind (Xae hi (wpS_bind (Xae hj (Xgs O B.k (B.at hi) (B.at hj) h))))
theorem Seg.more {xs:Array Keyed} {l r:Nat} (O:Ord prog w A s κ S lt) (hS:∀ i (h:i < xs.size),S xs[i]) (h:Seg lt xs l r) (hr:l < r) (hn:r < xs.size) (hlt:lt xs[r] xs[r - 1] = false):Seg lt xs l (r + 1):=by
 intro i j hi hj h1 h2 h3
 by_cases e:j = r
 ·subst e
  by_cases e2:i = j
  ·subst e2
   cases q:lt xs[i] xs[i] with
   | false=>rfl
   | true=>have:=O.asym _ _ (hS _ hi) (hS _ hi) q;rw [q] at this;cases this
  ·exact O.le _ _ _ (hS _ hi) (hS _ (by omega)) (hS _ hj) (h i (j - 1) hi (by omega) h1 (by omega) (by omega)) hlt
 ·exact h i j hi hj h1 h2 (by omega)
theorem Seg.one {xs:Array Keyed} {l:Nat} (O:Ord prog w A s κ S lt) (hS:∀ i (h:i < xs.size),S xs[i]):Seg lt xs l (l + 1):=by
 intro i j hi hj h1 h2 h3;have : i = j:=by omega
 subst this
 cases q:lt xs[i] xs[i] with
 | false=>rfl
 | true=>have:=O.asym _ _ (hS _ hi) (hS _ hi) q;rw [q] at this;cases this
def Dsc (lt:Keyed -> Keyed -> Bool) (xs:Array Keyed) (l r:Nat):Prop:=∀ i j (hi:i < xs.size) (hj:j < xs.size),l <= i -> i <= j -> j < r -> lt xs[i] xs[j] = false
def Eqv (lt:Keyed -> Keyed -> Bool) (xs:Array Keyed) (p q:Nat):Prop:=∀ i j (hi:i < xs.size) (hj:j < xs.size),p <= i -> i < q -> p <= j -> j < q -> lt xs[i] xs[j] = false
theorem Xjw {xs:Array Keyed} {p q:Nat} (hpq:p <= q) (hq:q <= xs.size) {i:Nat} (hi:i < (mirror xs p q ((q - p) / 2)).size) :
∃ k,∃ hk:k < xs.size,(mirror xs p q ((q - p) / 2))[i] = xs[k] /\ ((p <= i /\ i < q /\ k = p + q - 1 - i) \/ (¬ (p <= i /\ i < q) /\ k = i)):=by
 have mg:=getElem?_mirror_all (xs:=xs) (i:=p) (j:=q) (by omega) i;have hs:(mirror xs p q ((q - p) / 2)).size = xs.size:=(mirror_perm xs p q ((q - p) / 2)).size_eq;rw [Array.getElem?_eq_getElem hi] at mg
 by_cases h:p <= i /\ i < q
 ·rw [if_pos h,Array.getElem?_eq_getElem (by omega)] at mg
  exact ⟨p + q - 1 - i,by omega,Option.some.inj mg,.inl ⟨h.1,h.2,rfl⟩⟩
 ·rw [if_neg h,Array.getElem?_eq_getElem (by omega)] at mg
  exact ⟨i,by omega,Option.some.inj mg,.inr ⟨h,rfl⟩⟩
theorem Xil {xs:Array Keyed} {l r p q:Nat} (hpq:p <= q) (hq:q <= xs.size) (hl:l <= p) (hr:q <= r) (d:Dsc lt xs l r) (e:Eqv lt xs p q):Dsc lt (mirror xs p q ((q - p) / 2)) l r:=by
 intro i j hi hj h1 h2 h3;obtain ⟨a,ha,ea,ca⟩:=Xjw hpq hq hi;obtain ⟨b,hb,eb,cb⟩:=Xjw hpq hq hj;rw [ea,eb]
 by_cases z:p <= a /\ a < q /\ p <= b /\ b < q
 ·exact e a b ha hb z.1 z.2.1 z.2.2.1 z.2.2.2
 ·exact d a b ha hb (by omega) (by omega) (by omega)
theorem Xrz {xs:Array Keyed} {l r:Nat} (hlr:l <= r) (hr:r <= xs.size) (d:Dsc lt xs l r):Seg lt (mirror xs l r ((r - l) / 2)) l r:=by
 intro i j hi hj h1 h2 h3;obtain ⟨a,ha,ea,ca⟩:=Xjw hlr hr hi;obtain ⟨b,hb,eb,cb⟩:=Xjw hlr hr hj;rw [ea,eb];exact d b a hb ha (by omega) (by omega) (by omega)
theorem Xga {xs:Array Keyed} {p q:Nat} (hpq:p <= q) (hq:q <= xs.size) {i:Nat} (hi:i < p):(mirror xs p q ((q - p) / 2))[i]? = xs[i]? := by
 have mg:=getElem?_mirror_all (xs:=xs) (i:=p) (j:=q) (by omega) i;rw [mg,if_neg (by omega)]
theorem Dsc.more {xs:Array Keyed} {l r:Nat} (O:Ord prog w A s κ S lt) (hS:∀ i (h:i < xs.size),S xs[i]) (h:Dsc lt xs l r) (hr:l < r) (hn:r < xs.size) (hlt:lt xs[r - 1] xs[r] = false):Dsc lt xs l (r + 1):=by
 intro i j hi hj h1 h2 h3
 by_cases e:j = r
 ·subst e
  by_cases e2:i = j
  ·subst e2
   cases q:lt xs[i] xs[i] with
   | false=>rfl
   | true=>have:=O.asym _ _ (hS _ hi) (hS _ hi) q;rw [q] at this;cases this
  ·exact O.le _ _ _ (hS _ hj) (hS _ (by omega)) (hS _ hi) hlt (h i (j - 1) hi (by omega) h1 (by omega) (by omega))
 ·exact h i j hi hj h1 h2 (by omega)
theorem Xgt (O:Ord prog w A s κ S lt) {st:SortSt} {lo nrem:Nat} {Q:Option Nat -> SortSt -> Prop} (B:Bs κ S st) (hsz:lo + nrem <= (arrOf st).size) (h1:1 <= nrem)
(h:∀ n xs,1 <= n -> n <= nrem -> xs.Perm (arrOf st) -> (∀ i,i < lo -> xs[i]? = (arrOf st)[i]?) -> Seg lt xs lo (lo + n) -> Q (some n) (setArr st xs)):wpS (model prog w) A E s (countRun' lo nrem) Q st:=by
 have est:setArr st (arrOf st) = st:=rfl;have irr:∀ x,S x -> lt x x = false:=λx hx=>by
  cases q:lt x x with
  | false=>rfl
  | true=>have:=O.asym _ _ hx hx q;rw [q] at this;cases this
 unfold countRun'
 refine wpS_bind (wpS_mono (wpS_forRange (I:=λt c st'=>st' = st /\ c = ((none:Option (Option Nat)),t) /\ t <= nrem /\ Seg lt (arrOf st) lo (lo + t))
  (Q:=λc st'=>st' = st /\ ∃ n,c = ((none:Option (Option Nat)),n) /\ 1 <= n /\ n <= nrem /\ Seg lt (arrOf st) lo (lo + n) /\ (n = nrem \/ ∃ (h1:lo + n < (arrOf st).size) (h2:lo + n - 1 < (arrOf st).size),lt (arrOf st)[lo + n] (arrOf st)[lo + n - 1] = true)) ?s1 ?f1 ⟨rfl,rfl,h1,Seg.one O λi hi=>B.at hi⟩) λc st' hc=>?_)
 case f1 =>
  rintro c st' ⟨rfl,rfl,h2,h3⟩;have e:max 1 nrem = nrem:=by omega
  rw [e] at h3 ⊢;exact ⟨rfl,nrem,rfl,h1,Nat.le_refl _,h3,.inl rfl⟩
 case s1 =>
  rintro t c st' t0 t1 ⟨rfl,rfl,h2,h3⟩;dsimp only;refine wpS_bind (Xcu O B (by omega) (by omega) ?_);dsimp only
  cases hlt:lt (arrOf st')[lo + t] (arrOf st')[lo + t - 1] with
  | true =>
   rw [if_pos rfl];exact wpS_pure ⟨rfl,t,rfl,t0,by omega,h3,.inr ⟨by omega,by omega,hlt⟩⟩
  | false =>
   rw [if_neg Bool.false_ne_true];exact wpS_pure ⟨rfl,rfl,by omega,Seg.more (r:=lo + t) O (λi hi=>B.at hi) h3 (by omega) (by omega) hlt⟩
 obtain ⟨rfl,n,rfl,n1,n2,sg,hend⟩:=hc;dsimp only
 by_cases en:n = nrem
 ·rw [if_pos (by simpa using en)]
  exact wpS_pure (by have:=h n _ n1 n2 (Array.Perm.refl _) (λ_ _=>rfl) sg;rw [est] at this;exact this)
 rw [if_neg (by simpa using en)];obtain ⟨hx1,hx2,hdown⟩:∃ (h1:lo + n < (arrOf st').size) (h2:lo + n - 1 < (arrOf st').size),lt (arrOf st')[lo + n] (arrOf st')[lo + n - 1] = true:=by
  rcases hend with z | z
  ·exact absurd z en
  ·exact z
 refine (λ(rest:∀ xs:Array Keyed,xs.Perm (arrOf st') -> (∀ i,i < lo -> xs[i]? = (arrOf st')[i]?) -> Dsc lt xs lo (lo + (n + 1)) -> wpS (model prog w) A E s (?code:StateT SortSt Sem (Option Nat)) Q (setArr st' xs))=>?use) ?rest
 case use =>
  by_cases en1:n > 1
  ·rw [if_pos en1]
   refine wpS_bind (Xcu O B (by omega) (by omega) ?_);dsimp only
   cases hr:lt (arrOf st')[lo] (arrOf st')[lo + n - 1] with
   | true =>
    rw [if_pos rfl];exact wpS_pure (by have:=h n _ n1 n2 (Array.Perm.refl _) (λ_ _=>rfl) sg;rw [est] at this;exact this)
   | false =>
    rw [if_neg Bool.false_ne_true];refine wpS_bind (wpS_reverse ?_);have eqv:Eqv lt (arrOf st') lo (lo + n):=λi j hi hj a1 a2 a3 a4=>by
     have e1:lt (arrOf st')[i] (arrOf st')[lo] = false:=sg lo i (by omega) hi (Nat.le_refl _) a1 a2;have e2:lt (arrOf st')[lo + n - 1] (arrOf st')[j] = false:=sg j (lo + n - 1) hj (by omega) a3 (by omega) (by omega);exact O.le _ _ _ (B.at _) (B.at _) (B.at _) (O.le _ _ _ (B.at _) (B.at _) (B.at _) e2 hr) e1
    have d0:Dsc lt (arrOf st') lo (lo + n):=λi j hi hj a1 a2 a3=>eqv i j hi hj a1 (by omega) (by omega) a3
    have d1:Dsc lt (arrOf st') lo (lo + n + 1):=Dsc.more (r:=lo + n) O (λi hi=>B.at hi) d0 (by omega) hx1 (O.asym _ _ (B.at _) (B.at _) hdown);exact rest _ (mirror_perm _ _ _ _) (λi hi=>Xga (by omega) (by omega) hi) (Xil (by omega) (by omega) (Nat.le_refl _) (by omega) d1 eqv)
  ·rw [if_neg en1]
   have e1:n = 1:=by omega
   subst e1
   have:=rest (arrOf st') (Array.Perm.refl _) (λ_ _=>rfl) (λi j hi hj a1 a2 a3=>by
    by_cases e:i = j
    ·subst e;exact irr _ (B.at hi)
    ·have : i = lo:=by omega
     have : j = lo + 1:=by omega
     subst i j
     exact O.asym _ _ (B.at _) (B.at _) hdown)
   rw [est] at this;exact this
 case rest =>
  intro xs xp xpre xd;refine wpS_bind (Xbn ?_);have xsz:xs.size = (arrOf st').size:=xp.size_eq
  refine wpS_bind (wpS_mono (wpS_forRange (I:=λt c st2=>∃ ys neq,st2 = setArr st' ys /\ c = ((none:Option (Option Nat)),t,neq) /\ ys.Perm (arrOf st') /\ (∀ i,i < lo -> ys[i]? = (arrOf st')[i]?) /\ n + 1 <= t /\ t <= nrem /\ Dsc lt ys lo (lo + t) /\ neq + 1 <= t /\ Eqv lt ys (lo + t - (neq + 1)) (lo + t))
   (Q:=λc st2=>∃ ys t neq,st2 = setArr st' ys /\ c = ((none:Option (Option Nat)),t,neq) /\ ys.Perm (arrOf st') /\ (∀ i,i < lo -> ys[i]? = (arrOf st')[i]?) /\ n + 1 <= t /\ t <= nrem /\ Dsc lt ys lo (lo + t) /\ neq + 1 <= t /\ Eqv lt ys (lo + t - (neq + 1)) (lo + t)) ?s2 ?f2 ⟨xs,0,rfl,rfl,xp,xpre,Nat.le_refl _,by omega,xd,by omega,?i2⟩) λc2 st2 hc2=>?_)
  case i2 =>
   intro i j hi hj a1 a2 a3 a4;have : i = j:=by omega
   subst this;exact irr _ ((B.set xp).at (show i < (arrOf (setArr st' xs)).size from hi))
  case f2 =>
   rintro c st2 ⟨ys,neq,rfl,rfl,a1,a2,a3,a4,a5,a6,a7⟩;have e:max (n + 1) nrem = nrem:=by omega
   rw [e] at a5 a6 a7 ⊢;exact ⟨ys,nrem,neq,rfl,rfl,a1,a2,by omega,Nat.le_refl _,a5,a6,a7⟩
  case s2 =>
   rintro t c st2 t0 t1 ⟨ys,neq,rfl,rfl,yp,ypre,b1,b2,yd,b3,ye⟩;have ysz:ys.size = (arrOf st').size:=yp.size_eq;have By:Bs κ S (setArr st' ys):=B.set yp;have SA:∀ i (hi:i < ys.size),S ys[i]:=λi hi=>By.at (show i < (arrOf (setArr st' ys)).size from hi)
   have q1:lo + t < ys.size:=by omega
   have q2:lo + t - 1 < ys.size:=by omega
   have one:∀ (zs:Array Keyed) (hz:zs.Perm (arrOf st')),Eqv lt zs (lo + (t + 1) - (0 + 1)) (lo + (t + 1)):=λzs hz i j hi hj a1 a2 a3 a4=>by
    have : i = j:=by omega
    subst this;exact irr _ ((B.set hz).at (show i < (arrOf (setArr st' zs)).size from hi))
   dsimp only;refine wpS_bind (Xcu O By q1 q2 ?_);dsimp only
   show wpS _ _ _ _ (if lt ys[lo + t] ys[lo + t - 1] = true then _ else _) _ _
   cases hlt:lt ys[lo + t] ys[lo + t - 1] with
   | true =>
    rw [if_pos rfl];have d1:Dsc lt ys lo (lo + t + 1):=Dsc.more (r:=lo + t) O SA yd (by omega) q1 (O.asym _ _ (SA _ _) (SA _ _) hlt)
    by_cases hn:neq > 0
    ·rw [if_pos hn]
     refine wpS_bind (wpS_reverse ?_);have mp:=mirror_perm ys (lo + t - (neq + 1)) (lo + t) ((lo + t - (lo + t - (neq + 1))) / 2);exact wpS_pure ⟨mirror ys (lo + t - (neq + 1)) (lo + t) ((lo + t - (lo + t - (neq + 1))) / 2),0,rfl,rfl,mp.trans yp,λi hi=>(Xga (by omega) (by omega) (by omega)).trans (ypre i hi),by omega,by omega,Xil (by omega) (by omega) (by omega) (by omega) d1 ye,by omega,one _ (mp.trans yp)⟩
    ·rw [if_neg hn]
     exact wpS_pure ⟨ys,0,rfl,rfl,yp,ypre,by omega,by omega,d1,by omega,one _ yp⟩
   | false =>
    rw [if_neg Bool.false_ne_true];refine wpS_bind (Xcu O By q2 q1 ?_);dsimp only
    show wpS _ _ _ _ (if lt ys[lo + t - 1] ys[lo + t] = true then _ else _) _ _
    cases hl:lt ys[lo + t - 1] ys[lo + t] with
    | true =>
     rw [if_pos rfl];exact wpS_pure ⟨ys,t,neq,rfl,rfl,yp,ypre,b1,b2,yd,b3,ye⟩
    | false =>
     rw [if_neg Bool.false_ne_true];refine wpS_pure ⟨ys,neq + 1,rfl,rfl,yp,ypre,by omega,by omega,Dsc.more (r:=lo + t) O SA yd (by omega) q1 hl,by omega,λi j hi hj a1 a2 a3 a4=>?_⟩
     by_cases ei:i = lo + t
     ·by_cases ej:j = lo + t
      ·subst ei;subst ej;exact irr _ (SA _ _)
      ·subst ei
       exact O.le _ _ _ (SA _ _) (SA _ q2) (SA _ _) (ye (lo + t - 1) j q2 hj (by omega) (by omega) (by omega) (by omega)) hlt
     ·by_cases ej:j = lo + t
      ·subst ej
       exact O.le _ _ _ (SA _ _) (SA _ q2) (SA _ _) hl (ye i (lo + t - 1) hi q2 (by omega) (by omega) (by omega) (by omega))
      ·exact ye i j hi hj (by omega) (by omega) (by omega) (by omega)
  obtain ⟨ys,t,neq,rfl,rfl,yp,ypre,b1,b2,yd,b3,ye⟩:=hc2;have ysz:ys.size = (arrOf st').size:=yp.size_eq;dsimp only;refine (λ(last:∀ zs:Array Keyed,zs.Perm (arrOf st') -> (∀ i,i < lo -> zs[i]? = (arrOf st')[i]?) -> Dsc lt zs lo (lo + t) -> wpS (model prog w) A E s (?code2:StateT SortSt Sem (Option Nat)) Q (setArr st' zs))=>?use2) ?last
  case use2 =>
   by_cases hn:neq > 0
   ·rw [if_pos hn]
    refine wpS_bind (wpS_reverse ?_);have mp:=mirror_perm ys (lo + t - (neq + 1)) (lo + t) ((lo + t - (lo + t - (neq + 1))) / 2);exact last _ (mp.trans yp) (λi hi=>(Xga (by omega) (by omega) (by omega)).trans (ypre i hi)) (Xil (by omega) (by omega) (by omega) (by omega) yd ye)
   ·rw [if_neg hn]
    exact last ys yp ypre yd
  case last =>
   intro zs zp zpre zd;have zsz:zs.size = (arrOf st').size:=zp.size_eq;refine wpS_bind (wpS_reverse ?_);have mp:=mirror_perm zs lo (lo + t) ((lo + t - lo) / 2);have up:(mirror zs lo (lo + t) ((lo + t - lo) / 2)).Perm (arrOf st'):=mp.trans zp;have upre:∀ i,i < lo -> (mirror zs lo (lo + t) ((lo + t - lo) / 2))[i]? = (arrOf st')[i]? := λi hi=>(Xga (by omega) (by omega) hi).trans (zpre i hi)
   have usg:Seg lt (mirror zs lo (lo + t) ((lo + t - lo) / 2)) lo (lo + t):=Xrz (by omega) (by omega) zd
   show wpS _ _ _ _ _ _ (setArr st' (mirror zs lo (lo + t) ((lo + t - lo) / 2)))
   generalize mirror zs lo (lo + t) ((lo + t - lo) / 2) = us at up upre usg;have usz:us.size = (arrOf st').size:=up.size_eq;have B2:Bs κ S (setArr st' us):=B.set up
   refine wpS_bind (wpS_mono (wpS_forRange (I:=λm c st3=>st3 = setArr st' us /\ c = ((none:Option (Option Nat)),m) /\ t <= m /\ m <= nrem /\ Seg lt us lo (lo + m))
    (Q:=λc st3=>st3 = setArr st' us /\ ∃ m,c = ((none:Option (Option Nat)),m) /\ t <= m /\ m <= nrem /\ Seg lt us lo (lo + m)) ?s3 ?f3 ⟨rfl,rfl,Nat.le_refl _,b2,usg⟩) λc3 st3 hc3=>?_)
   case f3 =>
    rintro c st3 ⟨rfl,rfl,a1,a2,a3⟩;exact ⟨rfl,_,rfl,a1,a2,a3⟩
   case s3 =>
    rintro m c st3 t0 t1 ⟨rfl,rfl,a1,a2,a3⟩;dsimp only;have q1:lo + m < us.size:=by omega
    have q2:lo + m - 1 < us.size:=by omega
    refine wpS_bind (Xcu O B2 q1 q2 ?_);dsimp only
    show wpS _ _ _ _ (if lt us[lo + m] us[lo + m - 1] = true then _ else _) _ _
    cases hlt:lt us[lo + m] us[lo + m - 1] with
    | true =>
     rw [if_pos rfl];exact wpS_pure ⟨rfl,m,rfl,a1,a2,a3⟩
    | false =>
     rw [if_neg Bool.false_ne_true];exact wpS_pure ⟨rfl,rfl,by omega,by omega,Seg.more (r:=lo + m) O (λi hi=>B2.at hi) a3 (by omega) (by omega) hlt⟩
   obtain ⟨rfl,m,rfl,a1,a2,a3⟩:=hc3;exact wpS_pure (h m us (by omega) a2 up upre a3)
end
section
variable {prog:Program} {w:World} {A:Around} {E:Value -> Shared -> Prop} {s:Shared} {κ:SortKind} {S:Keyed -> Prop} {lt:Keyed -> Keyed -> Bool}
theorem Xot {st:SortSt} {i j:Nat} {Q:Unit -> SortSt -> Prop} (h:Q () (setArr st (bubble (arrOf st) i (i - j)))):wpS (model prog w) A E s (moveDown' i j) Q st:=by
 rw [moveDown'_eq];exact wpS_modify h
theorem Xet (O:Ord prog w A s κ S lt) {st:SortSt} {lo n ok:Nat} {Q:Bool -> SortSt -> Prop} (B:Bs κ S st) (hsz:lo + n <= (arrOf st).size) (h1:1 <= ok) (h2:ok <= n) (sg:Seg lt (arrOf st) lo (lo + ok))
(h:∀ xs,xs.Perm (arrOf st) -> (∀ i,i < lo -> xs[i]? = (arrOf st)[i]?) -> Seg lt xs lo (lo + n) -> Q true (setArr st xs)):wpS (model prog w) A E s (binarySort' lo n ok) Q st:=by
 have est:setArr st (arrOf st) = st:=rfl;unfold binarySort';have em:max ok 1 = ok:=by omega
 refine wpS_bind (wpS_mono (wpS_forRange (I:=λt c st'=>c = ((none:Option Bool),()) /\ ∃ xs,st' = setArr st xs /\ xs.Perm (arrOf st) /\ (∀ i,i < lo -> xs[i]? = (arrOf st)[i]?) /\ ok <= t /\ t <= n /\ Seg lt xs lo (lo + t))
  (Q:=λc st'=>c = ((none:Option Bool),()) /\ ∃ xs,st' = setArr st xs /\ xs.Perm (arrOf st) /\ (∀ i,i < lo -> xs[i]? = (arrOf st)[i]?) /\ Seg lt xs lo (lo + n)) ?step ?fin ⟨rfl,arrOf st,est.symm,Array.Perm.refl _,λ_ _=>rfl,by omega,by omega,by rw [em];exact sg⟩) λc st' hc=>?_)
 case fin =>
  rintro c st' ⟨rfl,xs,rfl,p,pre,a1,a2,a3⟩;have e:max (max ok 1) n = n:=by omega
  rw [e] at a3;exact ⟨rfl,xs,rfl,p,pre,a3⟩
 case step =>
  rintro k c st' k0 k1 ⟨rfl,xs,rfl,p,pre,a1,a2,a3⟩;have B2:Bs κ S (setArr st xs):=B.set p;have xsz:xs.size = (arrOf st).size:=p.size_eq;have hkx:lo + k < xs.size:=by omega
  dsimp only
  refine wpS_bind (wpS_mono (wpS_forRange (I:=λt c st2=>st2 = setArr st xs /\ ∃ l r,c = ((none:Option Bool),l,r) /\ l <= r /\ r <= k /\ r - l + t <= k /\ (∀ i (hi:lo + i < xs.size),i < l -> lt xs[lo + k] xs[lo + i] = false) /\ (∀ i (hi:lo + i < xs.size),r <= i -> i < k -> lt xs[lo + k] xs[lo + i] = true))
   (Q:=λc st2=>st2 = setArr st xs /\ ∃ l r,c = ((none:Option Bool),l,r) /\ l <= k /\ (∀ i (hi:lo + i < xs.size),i < l -> lt xs[lo + k] xs[lo + i] = false) /\ (∀ i (hi:lo + i < xs.size),l <= i -> i < k -> lt xs[lo + k] xs[lo + i] = true)) ?s1 ?f1
   ⟨rfl,0,k,rfl,by omega,by omega,by omega,λi hi z=>by omega,λi hi z1 z2=>by omega⟩) λc2 st2 hc2=>?_)
  case f1 =>
   rintro c st2 ⟨rfl,l,r,rfl,b1,b2,b3,b4,b5⟩;have e:max 0 k = k:=by omega
   exact ⟨rfl,l,r,rfl,by omega,b4,λi hi z1 z2=>b5 i hi (by omega) z2⟩
  case s1 =>
   rintro t c st2 t0 t1 ⟨rfl,l,r,rfl,b1,b2,b3,b4,b5⟩;dsimp only
   by_cases hc:l ≥ r
   ·rw [if_pos hc]
    exact wpS_pure ⟨rfl,l,r,rfl,by omega,b4,λi hi z1 z2=>b5 i hi (by omega) z2⟩
   ·rw [if_neg hc]
    have hm:lo + (l + r) / 2 < xs.size:=by omega
    refine wpS_bind (Xcu O B2 hkx hm ?_);dsimp only
    show wpS _ _ _ _ (if lt xs[lo + k] xs[lo + (l + r) / 2] = true then _ else _) _ _
    cases hlt:lt xs[lo + k] xs[lo + (l + r) / 2] with
    | true =>
     rw [if_pos rfl];refine wpS_pure ⟨rfl,l,(l + r) / 2,rfl,by omega,by omega,by omega,b4,λi hi z1 z2=>?_⟩
     cases q:lt xs[lo + k] xs[lo + i] with
     | true=>rfl
     | false =>
      have:=O.le _ _ _ (B2.at hm) (B2.at hi) (B2.at hkx) (a3 (lo + (l + r) / 2) (lo + i) hm hi (by omega) (by omega) (by omega)) q;exact absurd (this.symm.trans hlt) (by decide)
    | false =>
     rw [if_neg Bool.false_ne_true];refine wpS_pure ⟨rfl,(l + r) / 2 + 1,r,rfl,by omega,b2,by omega,λi hi z=>?_,b5⟩;exact O.le _ _ _ (B2.at hi) (B2.at hm) (B2.at hkx) (a3 (lo + i) (lo + (l + r) / 2) hi hm (by omega) (by omega) (by omega)) hlt
  obtain ⟨rfl,l,r,rfl,b2,b4,b5⟩:=hc2;dsimp only;refine wpS_bind (Xot ?_);have bg:∀ q,(bubble xs (lo + k) (lo + k - (lo + l)))[q]? = if q = lo + k - (lo + k - (lo + l)) then xs[lo + k]? else if lo + k - (lo + k - (lo + l)) < q /\ q <= lo + k then xs[q - 1]? else xs[q]? := λq=>getElem?_bubble hkx _ (by omega) q
  have bp:=bubble_perm xs (lo + k) (lo + k - (lo + l))
  show wpS _ _ _ _ _ _ (setArr st (bubble xs (lo + k) (lo + k - (lo + l))))
  generalize bubble xs (lo + k) (lo + k - (lo + l)) = ys at bg bp;have ysz:ys.size = xs.size:=bp.size_eq;have e0:lo + k - (lo + k - (lo + l)) = lo + l:=by omega
  rw [e0] at bg;refine wpS_pure ⟨rfl,ys,rfl,bp.trans p,λi hi=>?_,by omega,by omega,?_⟩
  ·rw [bg i,if_neg (by omega),if_neg (by omega)];exact pre i hi
  ·-- the segment is sorted,with the new one in it
   have val:∀ i (hi:i < ys.size),lo <= i -> i < lo + (k + 1) -> (i < lo + l /\ ∃ h:i < xs.size,ys[i] = xs[i]) \/ (i = lo + l /\ ys[i] = xs[lo + k]) \/ (lo + l < i /\ ∃ h:i - 1 < xs.size,ys[i] = xs[i - 1]):=by
    intro i hi c1 c2;have g:=bg i;rw [Array.getElem?_eq_getElem hi] at g
    by_cases c3:i = lo + l
    ·rw [if_pos c3,Array.getElem?_eq_getElem hkx] at g
     exact .inr (.inl ⟨c3,Option.some.inj g⟩)
    ·rw [if_neg c3] at g
     by_cases c4:lo + l < i
     ·rw [if_pos ⟨c4,by omega⟩,Array.getElem?_eq_getElem (by omega)] at g
      exact .inr (.inr ⟨c4,by omega,Option.some.inj g⟩)
     ·rw [if_neg (by omega),Array.getElem?_eq_getElem (by omega)] at g
      exact .inl ⟨by omega,by omega,Option.some.inj g⟩
   intro i j hi hj c1 c2 c3;have iA:∀ q (hq:lo + q < xs.size),l <= q -> q < k -> lt xs[lo + q] xs[lo + k] = false:=λq hq z1 z2=>O.asym _ _ (B2.at _) (B2.at hq) (b5 q hq z1 z2)
   rcases val i hi c1 (by omega) with ⟨d1,x1,e1⟩ | ⟨d1,e1⟩ | ⟨d1,x1,e1⟩ <;> rcases val j hj (by omega) c3 with ⟨f1,y1,g1⟩ | ⟨f1,g1⟩ | ⟨f1,y1,g1⟩ <;> rw [e1,g1]
   ·exact a3 i j x1 y1 c1 c2 (by omega)
   ·obtain ⟨q,rfl⟩:∃ q,i = lo + q:=⟨i - lo,by omega⟩
    exact b4 q x1 (by omega)
   ·exact a3 i (j - 1) x1 y1 c1 (by omega) (by omega)
   ·omega
   ·exact (Seg.one (l:=lo + k) O (λi hi=>B2.at hi)) (lo + k) (lo + k) hkx hkx (Nat.le_refl _) (Nat.le_refl _) (by omega)
   ·obtain ⟨q,hq⟩:∃ q,j - 1 = lo + q:=⟨j - 1 - lo,by omega⟩
    have:=iA q (by omega) (by omega) (by omega)
    simpa [hq] using this
   ·omega
   ·omega
   ·exact a3 (i - 1) (j - 1) x1 y1 (by omega) (by omega) (by omega)
 obtain ⟨rfl,xs,rfl,p,pre,a3⟩:=hc;exact wpS_pure (h xs p pre a3)
end
theorem Xev:∀ (l:List Keyed) (n o:Nat) (xs:Array Keyed),o + n + l.length <= xs.size -> ((l.zipIdx n).foldl (λa (p:Keyed × Nat)=>a.setIfInBounds (o + p.2) p.1) xs).toList = xs.toList.take (o + n) ++ (l ++ xs.toList.drop (o + n + l.length))
 | [],n,o,xs,h=>by simp
 | x :: l,n,o,xs,h=>by
  rw [List.zipIdx_cons,List.foldl_cons];have h':o + (n + 1) + l.length <= (xs.setIfInBounds (o + n) x).size:=by simp at h ⊢;omega
  rw [Xev l (n + 1) o _ h'];have hlt:o + n < xs.toList.length:=by simp at h ⊢;omega
  rw [Array.toList_setIfInBounds];have e1:o + (n + 1) = (o + n) + 1:=by omega
  rw [e1];have e2:(xs.toList.set (o + n) x).take (o + n + 1) = xs.toList.take (o + n) ++ [x]:=by
   rw [List.take_add_one,List.take_set_of_le (Nat.le_refl _),List.getElem?_set_self hlt];rfl
  have e3:(xs.toList.set (o + n) x).drop (o + n + 1 + l.length) = xs.toList.drop (o + n + (x :: l).length):=by
   rw [List.drop_set_of_lt (by omega)]
   congr 1
   simp;omega
  rw [e2,e3,List.append_assoc];rfl
section
variable {prog:Program} {w:World} {A:Around} {E:Value -> Shared -> Prop} {s:Shared} {κ:SortKind} {S:Keyed -> Prop} {lt:Keyed -> Keyed -> Bool}
theorem Xro {σ:Type} {M:Model} {st st1:σ} {Q:PUnit -> σ -> Prop} (h:Q ⟨⟩ st1):wpS M A E s (set st1:StateT σ Sem PUnit) Q st:=by
 unfold wpS
 show wpAny M A (pure (PUnit.unit,st1)) _ _ _
 exact wpAny_pure ⟨rfl,h⟩
theorem Xmz {xs:Array Keyed} {pre l suf:List Keyed} (hx:xs.toList = pre ++ (l ++ suf)) {i:Nat} (h:i < l.length):∃ hi:pre.length + i < xs.size,xs[pre.length + i] = l[i]:=by
 have hs:xs.size = pre.length + (l.length + suf.length):=by
  have:=congrArg List.length hx
  simpa using this
 refine ⟨by omega,?_⟩;have e:xs.toList[pre.length + i]? = l[i]? := by
  rw [hx,List.getElem?_append_right (by omega),Nat.add_sub_cancel_left,List.getElem?_append_left h]
 rw [List.getElem?_eq_getElem (by simp;omega),List.getElem?_eq_getElem h] at e
 simpa using e
theorem Xdg {l:List Keyed} (h:l.Pairwise λx y=>lt y x = false) (irr:∀ x ∈ l,lt x x = false) {i j:Nat} (hi:i < l.length) (hj:j < l.length) (hij:i <= j):lt l[j] l[i] = false:=by
 by_cases e:i = j
 ·subst e;exact irr _ (List.getElem_mem hi)
 ·exact List.pairwise_iff_getElem.mp h i j hi hj (by omega)
theorem Xif (O:Ord prog w A s κ S lt) {st:SortSt} {i:Nat} {Q:Bool -> SortSt -> Prop} (B:Bs κ S st) {pre ra rb suf:List Keyed} {pw pw2:Nat} (hx:(arrOf st).toList = pre ++ (ra ++ (rb ++ suf))) (sra:ra.Pairwise λx y=>lt y x = false) (srb:rb.Pairwise λx y=>lt y x = false)
(na:0 < ra.length) (nb:0 < rb.length) (hp1:(pendingOf st)[i]? = some (pre.length,ra.length,pw)) (hp2:(pendingOf st)[i + 1]? = some (pre.length + ra.length,rb.length,pw2))
(h:∀ xs rm g,xs.toList = pre ++ (rm ++ suf) -> rm.Perm (ra ++ rb) -> rm.Pairwise (λx y=>lt y x = false) -> Q true (SortSt.mk' (kindOf st) xs (((pendingOf st).setIfInBounds i (pre.length,ra.length + rb.length,pw)).eraseIdxIfInBounds (i + 1)) g (failedOf st))):wpS (model prog w) A E s (mergeAt' i) Q st:=by
 have hS:∀ q (hq:q < (arrOf st).size),S (arrOf st)[q]:=λq hq=>B.at hq
 have hSm:∀ x ∈ (arrOf st).toList,S x:=B.S;have Sra:∀ x ∈ ra,S x:=λx hx'=>hSm x (by rw [hx];simp [hx'])
 have Srb:∀ x ∈ rb,S x:=λx hx'=>hSm x (by rw [hx];simp [hx'])
 have irr:∀ x,S x -> lt x x = false:=λx hx'=>by
  cases q:lt x x with
  | false=>rfl
  | true=>have:=O.asym _ _ hx' hx' q;rw [q] at this;cases this
 have pA:∀ {q:Nat} (hq:q < ra.length),∃ hi:pre.length + q < (arrOf st).size,(arrOf st)[pre.length + q] = ra[q]:=λhq=>Xmz hx hq
 have pB:∀ {q:Nat} (hq:q < rb.length),∃ hi:pre.length + ra.length + q < (arrOf st).size,(arrOf st)[pre.length + ra.length + q] = rb[q]:=λ{q} hq=>by
  have hx2:(arrOf st).toList = (pre ++ ra) ++ (rb ++ suf):=by rw [hx];simp
  obtain ⟨h1,h2⟩:=Xmz hx2 hq;have e:(pre ++ ra).length = pre.length + ra.length:=by simp
  exact ⟨by rw [<- e];exact h1,by simpa [e] using h2⟩
 have hsz:(arrOf st).size = pre.length + (ra.length + (rb.length + suf.length)):=by
  have:=congrArg List.length hx
  simpa using this
 unfold mergeAt';refine wpS_bind (wpS_get ?_);dsimp only;rw [hp1,hp2];dsimp only;refine wpS_bind (Xro ?_);obtain ⟨q0,hq0⟩:=pB nb;refine wpS_bind (Xae q0 ?_);refine wpS_bind (Xfu (arr:=arrOf st) (base:=pre.length) (n:=ra.length) O B.k (hS _ q0) hS (by omega) na (λi j hi hj hij hjn=>?_) λk hk k1 k2=>?_)
 ·obtain ⟨_,e1⟩:=pA (q:=i) (by omega)
  obtain ⟨_,e2⟩:=pA (q:=j) hjn;rw [e1,e2];exact Xdg sra (λx hx'=>irr x (Sra x hx')) _ _ hij
 have k1':∀ q (hq:q < ra.length),q < k -> lt rb[0] ra[q] = false:=λq hq hqk=>by
  obtain ⟨h1,e1⟩:=pA hq;have:=k1 q h1 hqk;rw [e1] at this;rw [<- hq0];exact this
 have k2':∀ q (hq:q < ra.length),k <= q -> lt rb[0] ra[q] = true:=λq hq hqk=>by
  obtain ⟨h1,e1⟩:=pA hq;have:=k2 q h1 hqk hq;rw [e1] at this;rw [<- hq0];exact this
 dsimp only
 by_cases e0:ra.length - k = 0
 ·rw [if_pos (by simpa using e0)]
  refine wpS_pure (h (arrOf st) (ra ++ rb) _ (by rw [hx];simp) (List.Perm.refl _) ?_);rw [List.pairwise_append];refine ⟨sra,srb,λx hx' y hy=>?_⟩;obtain ⟨p,hp,rfl⟩:=List.mem_iff_getElem.mp hx';obtain ⟨r,hr,rfl⟩:=List.mem_iff_getElem.mp hy;exact O.le _ _ _ (Sra _ hx') (Srb _ (List.getElem_mem nb)) (Srb _ hy) (k1' p hp (by omega)) (Xdg srb (λx hx'=>irr x (Srb x hx')) nb hr (Nat.zero_le _))
 rw [if_neg (by simpa using e0)];obtain ⟨l0,hl0⟩:=pA (q:=ra.length - 1) (by omega);have l0':pre.length + k + (ra.length - k) - 1 < (arrOf st).size:=by omega
 have hl0':(arrOf st)[pre.length + k + (ra.length - k) - 1] = ra[ra.length - 1]:=by
  rw [<- hl0];congr 1;omega
 refine wpS_bind (Xae l0' ?_);refine wpS_bind (Xbx (arr:=arrOf st) (base:=pre.length + ra.length) (n:=rb.length) O B.k (hS _ l0') hS (by omega) (by omega) (λi j hi hj hij hjn=>?_) λm hm m1 m2=>?_)
 ·obtain ⟨_,e1⟩:=pB (q:=i) (by omega)
  obtain ⟨_,e2⟩:=pB (q:=j) hjn;rw [e1,e2];exact Xdg srb (λx hx'=>irr x (Srb x hx')) _ _ hij
 have m1':∀ q (hq:q < rb.length),q < m -> lt rb[q] ra[ra.length - 1] = true:=λq hq hqk=>by
  obtain ⟨h1,e1⟩:=pB hq;have:=m1 q h1 hqk;rw [e1,hl0'] at this;exact this
 have m2':∀ q (hq:q < rb.length),m <= q -> lt rb[q] ra[ra.length - 1] = false:=λq hq hqk=>by
  obtain ⟨h1,e1⟩:=pB hq;have:=m2 q h1 hqk hq;rw [e1,hl0'] at this;exact this
 have lastA:∀ q (hq:q < ra.length),lt ra[ra.length - 1] ra[q] = false:=λq hq=>Xdg sra (λx hx'=>irr x (Sra x hx')) hq (by omega) (by omega)
 dsimp only
 by_cases e1:m = 0
 ·rw [if_pos (by simpa using e1)]
  refine wpS_pure (h (arrOf st) (ra ++ rb) _ (by rw [hx];simp) (List.Perm.refl _) ?_);rw [List.pairwise_append];refine ⟨sra,srb,λx hx' y hy=>?_⟩;obtain ⟨p,hp,rfl⟩:=List.mem_iff_getElem.mp hx';obtain ⟨r,hr,rfl⟩:=List.mem_iff_getElem.mp hy;exact O.le _ _ _ (Sra _ hx') (Sra _ (List.getElem_mem (by omega))) (Srb _ hy) (lastA p hp) (m2' r hr (by omega))
 rw [if_neg (by simpa using e1)];have hX:((arrOf st).extract (pre.length + k) (pre.length + ra.length)).toList = ra.drop k:=by
  rw [Array.toList_extract,List.extract_eq_drop_take,hx];have e2:pre.length + ra.length - (pre.length + k) = ra.length - k:=by omega
  rw [e2,List.drop_append,List.drop_of_length_le (by omega),List.nil_append,Nat.add_sub_cancel_left,List.drop_append_of_le_length (by omega),List.take_append_of_le_length (by simp),List.take_of_length_le (by simp)]
 have hY:((arrOf st).extract (pre.length + ra.length) (pre.length + ra.length + m)).toList = rb.take m:=by
  rw [Array.toList_extract,List.extract_eq_drop_take,hx,Nat.add_sub_cancel_left];have e2:pre ++ (ra ++ (rb ++ suf)) = (pre ++ ra) ++ (rb ++ suf):=by simp
  rw [e2,List.drop_append_of_le_length (by simp)];rw [List.drop_of_length_le (by simp),List.nil_append,List.take_append_of_le_length hm]
 generalize (arrOf st).extract (pre.length + k) (pre.length + ra.length) = x at hX;generalize (arrOf st).extract (pre.length + ra.length) (pre.length + ra.length + m) = y at hY;have xs1:x.size = ra.length - k:=by rw [<- Array.length_toList,hX];simp
 have ys1:y.size = m:=by rw [<- Array.length_toList,hY];simp;omega
 have gx:∀ q (hq:q < x.size),∃ h:k + q < ra.length,x[q] = ra[k + q]:=λq hq=>⟨by omega,by
  have : x.toList[q]? = ra[k + q]? := by rw [hX,List.getElem?_drop]
  rw [List.getElem?_eq_getElem (by simpa using hq),List.getElem?_eq_getElem (by omega)] at this
  simpa using this⟩
 have gy:∀ q (hq:q < y.size),∃ h:q < rb.length,y[q] = rb[q]:=λq hq=>⟨by omega,by
  have : y.toList[q]? = rb[q]? := by rw [hY,List.getElem?_take_of_lt (by omega)]
  rw [List.getElem?_eq_getElem (by simpa using hq),List.getElem?_eq_getElem (by omega)] at this
  simpa using this⟩
 have F:Mf S lt x y:=by
  refine ⟨λq hq=>?_,λq hq=>?_,λq r hq hr hqr=>?_,λq r hq hr hqr=>?_⟩
  ·obtain ⟨z,e⟩:=gx q hq;rw [e];exact Sra _ (List.getElem_mem z)
  ·obtain ⟨z,e⟩:=gy q hq;rw [e];exact Srb _ (List.getElem_mem z)
  ·obtain ⟨z1,f1⟩:=gx q hq
   obtain ⟨z2,f2⟩:=gx r hr;rw [f1,f2];exact Xdg sra (λx hx'=>irr x (Sra x hx')) _ _ (by omega)
  ·obtain ⟨z1,f1⟩:=gy q hq
   obtain ⟨z2,f2⟩:=gy r hr;rw [f1,f2];exact Xdg srb (λx hx'=>irr x (Srb x hx')) _ _ hqr
 have fst:∀ q (hq:q < x.size) (h0:0 < y.size),lt y[0] x[q] = true:=λq hq h0=>by
  obtain ⟨z1,f1⟩:=gx q hq;obtain ⟨z2,f2⟩:=gy 0 h0;rw [f1,f2];exact k2' _ z1 (by omega)
 have lst:∀ q (hq:q < y.size) r (hr:r < x.size),r + 1 = x.size -> lt y[q] x[r] = true:=λq hq r hr hr1=>by
  obtain ⟨z1,f1⟩:=gx r hr;obtain ⟨z2,f2⟩:=gy q hq;have:=m1' q z2 (by omega);rw [f1,f2];have e3:k + r = ra.length - 1:=by omega
  simpa [e3] using this
 have fin:∀ (r:Array Keyed) (st':SortSt),kindOf st' = kindOf st -> arrOf st' = arrOf st -> pendingOf st' = ((pendingOf st).setIfInBounds i (pre.length,ra.length + rb.length,pw)).eraseIdxIfInBounds (i + 1) -> failedOf st' = failedOf st -> Ends lt x.toList y.toList r.toList ->
   Q true (SortSt.mk' (kindOf st') (r.toList.zipIdx.foldl (λa (p:Keyed × Nat)=>a.setIfInBounds (pre.length + k + p.2) p.1) (arrOf st')) (pendingOf st') (gallopOf st') (failedOf st')):=by
  intro r st' f1 f2 f3 f4 he;have rl:r.toList.length = (ra.length - k) + m:=by
   have:=he.perm.length_eq;rw [List.length_append] at this;have a1:x.toList.length = x.size:=by simp
   have a2:y.toList.length = y.size:=by simp
   omega
  have hw:=Xev r.toList 0 (pre.length + k) (arrOf st) (by rw [rl];omega);rw [f1,f2,f3,f4];refine h _ (ra.take k ++ (r.toList ++ rb.drop m)) _ ?_ ?_ ?_
  ·rw [hw,hx,rl]
   have t1:(pre ++ (ra ++ (rb ++ suf))).take (pre.length + k + 0) = pre ++ ra.take k:=by
    rw [Nat.add_zero,List.take_append,List.take_of_length_le (by omega),Nat.add_sub_cancel_left,List.take_append_of_le_length (by omega)]
   have t2:(pre ++ (ra ++ (rb ++ suf))).drop (pre.length + k + 0 + (ra.length - k + m)) = rb.drop m ++ suf:=by
    have e4:pre.length + k + 0 + (ra.length - k + m) = (pre ++ ra).length + m:=by simp;omega
    have e5:pre ++ (ra ++ (rb ++ suf)) = (pre ++ ra) ++ (rb ++ suf):=by simp
    rw [e4,e5,List.drop_append,List.drop_of_length_le (by omega),List.nil_append,Nat.add_sub_cancel_left,List.drop_append_of_le_length hm]
   rw [t1,t2];simp
  ·have p1:=he.perm
   rw [hX,hY] at p1;refine List.Perm.trans (List.Perm.append_left _ (List.Perm.append_right _ p1)) ?_;have : ra.take k ++ (ra.drop k ++ rb.take m ++ rb.drop m) = ra ++ rb:=by
    rw [List.append_assoc,List.take_append_drop,<- List.append_assoc,List.take_append_drop]
   rw [this]
  ·have memM:∀ z ∈ r.toList,(∃ q,∃ hq:q < ra.length,k <= q /\ z = ra[q]) \/ ∃ q,∃ hq:q < rb.length,q < m /\ z = rb[q]:=λz hz=>by
    have hz':=he.perm.mem_iff.mp hz
    rcases List.mem_append.mp hz' with hz' | hz'
    ·obtain ⟨q,hq,e⟩:=List.mem_iff_getElem.mp hz'
     have hq':q < x.size:=by simpa using hq
     obtain ⟨z1,f1⟩:=gx q hq';exact .inl ⟨k + q,z1,by omega,by rw [<- e];simpa using f1⟩
    ·obtain ⟨q,hq,e⟩:=List.mem_iff_getElem.mp hz'
     have hq':q < y.size:=by simpa using hq
     obtain ⟨z1,f1⟩:=gy q hq';exact .inr ⟨q,z1,by omega,by rw [<- e];simpa using f1⟩
   have inT:∀ z ∈ ra.take k,∃ q,∃ hq:q < ra.length,q < k /\ z = ra[q]:=λz hz=>by
    obtain ⟨q,hq,e⟩:=List.mem_iff_getElem.mp hz;rw [List.length_take] at hq;exact ⟨q,by omega,by omega,by rw [<- e];simp⟩
   have inD:∀ z ∈ rb.drop m,∃ q,∃ hq:q < rb.length,m <= q /\ z = rb[q]:=λz hz=>by
    obtain ⟨q,hq,e⟩:=List.mem_iff_getElem.mp hz;rw [List.length_drop] at hq;exact ⟨m + q,by omega,by omega,by rw [<- e];simp⟩
   have oA:=λ{p q:Nat} (hp:p < ra.length) (hq:q < ra.length) (hpq:p <= q)=>Xdg sra (λx hx'=>irr x (Sra x hx')) hp hq hpq
   have oB:=λ{p q:Nat} (hp:p < rb.length) (hq:q < rb.length) (hpq:p <= q)=>Xdg srb (λx hx'=>irr x (Srb x hx')) hp hq hpq
   have mA:∀ {p:Nat} (hp:p < ra.length),S ra[p]:=λhp=>Sra _ (List.getElem_mem hp)
   have mB:∀ {p:Nat} (hp:p < rb.length),S rb[p]:=λhp=>Srb _ (List.getElem_mem hp)
   have low:∀ {p q:Nat} (hp:p < ra.length) (hq:q < rb.length),p < k -> lt rb[q] ra[p] = false:=λhp hq hpk=>O.le _ _ _ (mA hp) (mB nb) (mB hq) (k1' _ hp hpk) (oB nb hq (Nat.zero_le _))
   have high:∀ {p q:Nat} (hp:p < ra.length) (hq:q < rb.length),m <= q -> lt rb[q] ra[p] = false:=λhp hq hqm=>O.le _ _ _ (mA hp) (mA (by omega)) (mB hq) (lastA _ hp) (m2' _ hq hqm)
   rw [List.pairwise_append,List.pairwise_append];refine ⟨sra.sublist (List.take_sublist _ _),⟨he.srt,srb.sublist (List.drop_sublist _ _),λz1 h1 z2 h2=>?_⟩,λz1 h1 z2 h2=>?_⟩
   ·obtain ⟨q2,g2,g3,rfl⟩:=inD z2 h2
    rcases memM z1 h1 with ⟨q,g,gk,rfl⟩ | ⟨q,g,gk,rfl⟩
    ·exact high g g2 g3
    ·exact oB g g2 (by omega)
   ·obtain ⟨q1,g0,g1,rfl⟩:=inT z1 h1
    rcases List.mem_append.mp h2 with h2 | h2
    ·rcases memM z2 h2 with ⟨q,g,gk,rfl⟩ | ⟨q,g,gk,rfl⟩
     ·exact oA g0 g (by omega)
     ·exact low g0 g g1
    ·obtain ⟨q2,g2,g3,rfl⟩:=inD z2 h2
     exact low g0 g2 g1
 by_cases hle:ra.length - k <= m
 ·rw [if_pos hle]
  refine wpS_bind (Xid O B.k F (by omega) (by omega) (fst 0 (by omega) (by omega)) lst λr st' ks he=>?_);refine wpS_bind (wpS_modify (wpS_bind (wpS_get (wpS_pure ?_))));have:=fin r st' ks.k ks.a ks.p ks.f he;have hf:(failedOf st').isNone = true:=by rw [ks.f];show (failedOf st).isNone = true;rw [B.f];rfl
  show Q ((failedOf st').isNone) _
  rw [hf];exact this
 ·rw [if_neg hle]
  refine wpS_bind (Xie O B.k F (by omega) (by omega) (λq hq=>fst q hq (by omega)) (lst _ (by omega) _ (by omega) (by omega)) λr st' ks he=>?_);refine wpS_bind (wpS_modify (wpS_bind (wpS_get (wpS_pure ?_))));have:=fin r st' ks.k ks.a ks.p ks.f he;have hf:(failedOf st').isNone = true:=by rw [ks.f];show (failedOf st).isNone = true;rw [B.f];rfl
  show Q ((failedOf st').isNone) _
  rw [hf];exact this
end
inductive Pend:Nat -> List (Nat × Nat × Nat) -> List (List Keyed) -> Prop where
 | nil {o:Nat}:Pend o [] []
 | cons {o p:Nat} {r:List Keyed} {ps:List (Nat × Nat × Nat)} {rs:List (List Keyed)} (h:Pend (o + r.length) ps rs):Pend o ((o,r.length,p) :: ps) (r :: rs)
theorem Pend.length {o:Nat} {ps:List (Nat × Nat × Nat)} {rs:List (List Keyed)} (h:Pend o ps rs):ps.length = rs.length:=by
 induction h with
 | nil=>rfl
 | cons _ ih=>simp [ih]
theorem Pend.snoc {o:Nat} {ps:List (Nat × Nat × Nat)} {rs:List (List Keyed)} (h:Pend o ps rs) (r:List Keyed) (p:Nat):Pend o (ps ++ [(o + rs.flatten.length,r.length,p)]) (rs ++ [r]):=by
 induction h with
 | @nil o=>exact .cons .nil
 | @cons o p' r' ps rs _ ih =>
  have e:o + (r' :: rs).flatten.length = o + r'.length + rs.flatten.length:=by simp;omega
  rw [e];exact .cons ih
theorem Pend.powers {o:Nat} {ps:List (Nat × Nat × Nat)} {rs:List (List Keyed)} (h:Pend o ps rs) (pw:Nat):∀ k,Pend o (ps.modify k λx=>(x.1,x.2.1,pw)) rs:=by
 induction h with
 | nil=>intro k;simp;exact .nil
 | cons h ih =>
  intro k
  cases k with
  | zero=>simp;exact .cons h
  | succ k=>simp;exact .cons (ih k)
theorem Pend.at {o:Nat} {ps:List (Nat × Nat × Nat)} {rs:List (List Keyed)} (h:Pend o ps rs):∀ i,i + 1 < ps.length -> ∃ (R1:List (List Keyed)) (ra rb:List Keyed) (R2:List (List Keyed)) (pw pw2:Nat),rs = R1 ++ ra :: rb :: R2 /\ ps[i]? = some (o + R1.flatten.length,ra.length,pw) /\ ps[i + 1]? = some (o + R1.flatten.length + ra.length,rb.length,pw2) /\
∀ rm:List Keyed,rm.length = ra.length + rb.length -> Pend o ((ps.set i (o + R1.flatten.length,ra.length + rb.length,pw)).eraseIdx (i + 1)) (R1 ++ rm :: R2):=by
 induction h with
 | nil=>intro i hi;simp at hi
 | @cons o p r ps rs h ih =>
  intro i hi
  cases i with
  | zero =>
   cases h with
   | nil=>simp at hi
   | @cons _ p2 r2 ps2 rs2 h2 =>
    refine ⟨[],r,r2,rs2,p,p2,rfl,by simp,by simp,λrm hm=>?_⟩;simp;rw [<- hm];refine .cons ?_;rw [hm,<- Nat.add_assoc];exact h2
  | succ i =>
   obtain ⟨R1,ra,rb,R2,pw,pw2,e,h1,h2,h3⟩:=ih i (by simpa using hi);refine ⟨r :: R1,ra,rb,R2,pw,pw2,by rw [e];rfl,?_,?_,λrm hm=>?_⟩
   ·simp;simp at h1;rw [h1];simp;omega
   ·simp;simp at h2;rw [h2];simp;omega
   ·have:=h3 rm hm
    simp;have e2:o + (r.length + (R1.map List.length).sum) = o + r.length + (R1.map List.length).sum:=by omega
    rw [e2];refine .cons ?_
    simpa using this
section
variable {prog:Program} {w:World} {A:Around} {E:Value -> Shared -> Prop} {s:Shared} {κ:SortKind} {S:Keyed -> Prop} {lt:Keyed -> Keyed -> Bool}
structure Rn (κ:SortKind) (S:Keyed -> Prop) (lt:Keyed -> Keyed -> Bool) (a₀:List Keyed) (st:SortSt) (runs:List (List Keyed)) (rest:List Keyed):Prop where
 b:Bs κ S st
 perm:(arrOf st).toList.Perm a₀
 arr:(arrOf st).toList = runs.flatten ++ rest
 pend:Pend 0 (pendingOf st).toList runs
 srt:∀ r ∈ runs,r.Pairwise (λx y=>lt y x = false) /\ 0 < r.length
theorem Xbg (O:Ord prog w A s κ S lt) {a₀:List Keyed} {st:SortSt} {runs:List (List Keyed)} {rest:List Keyed} (R:Rn κ S lt a₀ st runs rest) {i:Nat} (hi:i + 1 < (pendingOf st).size) :
wpS (model prog w) A E s (mergeAt' i) (λb st'=>b = true /\ ∃ runs',Rn κ S lt a₀ st' runs' rest /\ runs'.length + 1 = runs.length) st:=by
 obtain ⟨R1,ra,rb,R2,pw,pw2,e,h1,h2,h3⟩:=R.pend.at i (by simpa using hi);have h1':(pendingOf st)[i]? = some (R1.flatten.length,ra.length,pw):=by simpa using h1
 have h2':(pendingOf st)[i + 1]? = some (R1.flatten.length + ra.length,rb.length,pw2):=by simpa using h2
 have hx:(arrOf st).toList = R1.flatten ++ (ra ++ (rb ++ (R2.flatten ++ rest))):=by
  rw [R.arr,e];simp
 have sa:=R.srt ra (by rw [e];simp);have sb:=R.srt rb (by rw [e];simp);refine Xif O R.b hx sa.1 sb.1 sa.2 sb.2 h1' h2' λxs rm g g1 g2 g3=>⟨rfl,R1 ++ rm :: R2,?_,by rw [e];simp;omega⟩
 have hp:xs.toList.Perm (arrOf st).toList:=by
  rw [g1,hx];refine List.Perm.append_left _ ?_;have : ra ++ (rb ++ (R2.flatten ++ rest)) = (ra ++ rb) ++ (R2.flatten ++ rest):=by simp
  rw [this];exact List.Perm.append_right _ g2
 refine ⟨⟨R.b.k,R.b.f,λx hx'=>R.b.S x (hp.mem_iff.mp hx')⟩,hp.trans R.perm,?_,?_,λr hr=>?_⟩
 ·show xs.toList = _
  rw [g1];simp
 ·have:=h3 rm (by rw [g2.length_eq,List.length_append])
  simp only [Nat.zero_add] at this
  show Pend 0 (((pendingOf st).setIfInBounds i (R1.flatten.length,ra.length + rb.length,pw)).eraseIdxIfInBounds (i + 1)).toList _
  have ee:(((pendingOf st).setIfInBounds i (R1.flatten.length,ra.length + rb.length,pw)).eraseIdxIfInBounds (i + 1)).toList = ((pendingOf st).toList.set i (R1.flatten.length,ra.length + rb.length,pw)).eraseIdx (i + 1):=by
   simp [Array.toList_eraseIdxIfInBounds,Array.toList_setIfInBounds]
  rw [ee];exact this
 ·rcases List.mem_append.mp hr with hr | hr
  ·exact R.srt r (by rw [e];simp [hr])
  ·rcases List.mem_cons.mp hr with rfl | hr
   ·exact ⟨g3,by rw [g2.length_eq,List.length_append];omega⟩
   ·exact R.srt r (by rw [e];simp [hr])
end
section
variable {prog:Program} {w:World} {A:Around} {E:Value -> Shared -> Prop} {s:Shared} {κ:SortKind} {S:Keyed -> Prop} {lt:Keyed -> Keyed -> Bool} {a₀:List Keyed} {st:SortSt} {runs:List (List Keyed)} {rest:List Keyed}
theorem Xwl {c:Prop} [Decidable c] {n:Nat} (h:2 <= n):(if c then n - 2 - 1 else n - 2) + 1 < n:=by
 split <;> omega
theorem Rn.size (R:Rn κ S lt a₀ st runs rest):(arrOf st).size = runs.flatten.length + rest.length:=by
 have:=congrArg List.length R.arr;rw [List.length_append] at this
 simpa using this
theorem Rn.same (R:Rn κ S lt a₀ st runs rest):(arrOf st).size = a₀.length:=by
 have:=R.perm.length_eq
 simpa using this
theorem Rn.lo_of (R:Rn κ S lt a₀ st runs rest) {lo:Nat} (h:rest.length = a₀.length - lo /\ lo <= a₀.length):lo = runs.flatten.length:=by
 have h1:=R.size;have h2:=R.same;omega
theorem Xcp {r:List Keyed}:(runs ++ [r]).flatten.length = runs.flatten.length + r.length:=by simp
theorem Rn.pow (R:Rn κ S lt a₀ st runs rest) (k pw:Nat):Rn κ S lt a₀ (SortSt.mk' (kindOf st) (arrOf st) ((pendingOf st).modify k λx=>(x.1,x.2.1,pw)) (gallopOf st) (failedOf st)) runs rest:=by
 refine ⟨⟨R.b.k,R.b.f,R.b.S⟩,R.perm,R.arr,?_,R.srt⟩
 show Pend 0 ((pendingOf st).modify k λx=>(x.1,x.2.1,pw)).toList runs
 rw [Array.toList_modify];exact R.pend.powers pw k
theorem Rn.push (R:Rn κ S lt a₀ st runs rest) {n lo:Nat} (h1:1 <= n) (h2:n <= rest.length) (sg:(rest.take n).Pairwise λx y=>lt y x = false) (hlo:lo = runs.flatten.length) :
Rn κ S lt a₀ (SortSt.mk' (kindOf st) (arrOf st) ((pendingOf st).push (lo,n,0)) (gallopOf st) (failedOf st)) (runs ++ [rest.take n]) (rest.drop n):=by
 refine ⟨⟨R.b.k,R.b.f,R.b.S⟩,R.perm,?_,?_,λr hr=>?_⟩
 ·show (arrOf st).toList = _
  rw [R.arr];simp
 ·show Pend 0 ((pendingOf st).push (lo,n,0)).toList _
  rw [Array.toList_push];have:=R.pend.snoc (rest.take n) 0;rw [Nat.zero_add,<- hlo] at this;have e:(rest.take n).length = n:=by simp;omega
  rw [e] at this;exact this
 ·rcases List.mem_append.mp hr with hr | hr
  ·exact R.srt r hr
  ·have : r = rest.take n:=by simpa using hr
   rw [this];exact ⟨sg,by simp;omega⟩
theorem Rn.run (R:Rn κ S lt a₀ st runs rest) {xs:Array Keyed} {lo:Nat} (hlo:lo = runs.flatten.length) (hp:xs.Perm (arrOf st)) (pre:∀ i,i < lo -> xs[i]? = (arrOf st)[i]?):Rn κ S lt a₀ (setArr st xs) runs (xs.toList.drop lo):=by
 have hp':=Array.perm_iff_toList_perm.mp hp;refine ⟨R.b.set hp,hp'.trans R.perm,?_,R.pend,R.srt⟩
 show xs.toList = runs.flatten ++ xs.toList.drop lo
 have e:xs.toList.take lo = runs.flatten:=by
  have e1:xs.toList.take lo = (arrOf st).toList.take lo:=by
   apply List.ext_getElem?;intro i
   by_cases hi:i < lo
   ·rw [List.getElem?_take_of_lt hi,List.getElem?_take_of_lt hi]
    simpa using pre i hi
   ·rw [List.getElem?_take_eq_none (by omega),List.getElem?_take_eq_none (by omega)]
  rw [e1,R.arr,hlo,List.take_left]
 rw [<- e,List.take_append_drop]
theorem Xqn {xs:Array Keyed} {lo n:Nat} (h:Seg lt xs lo (lo + n)):((xs.toList.drop lo).take n).Pairwise λx y=>lt y x = false:=by
 rw [List.pairwise_iff_getElem];intro i j hi hj hij;rw [List.length_take,List.length_drop] at hi hj;have hi':lo + i < xs.size:=by simp at hi;omega
 have hj':lo + j < xs.size:=by simp at hj;omega
 have:=h (lo + i) (lo + j) hi' hj' (by omega) (by omega) (by omega)
 simpa using this
theorem Xtt (h:∀ r ∈ runs,0 < r.length):runs.length <= runs.flatten.length:=by
 induction runs with
 | nil=>simp
 | cons r rs ih =>
  have h1:=ih λr hr=>h r (.tail _ hr)
  have h2:=h r (.head _);rw [List.flatten_cons,List.length_append,List.length_cons];omega
theorem wpS_sortRuns (O:Ord prog w A s κ S lt) {Q:Unit -> SortSt -> Prop} (B:Bs κ S st) (hp:pendingOf st = #[])
(h:∀ st',(arrOf st').toList.Perm (arrOf st).toList -> (arrOf st').toList.Pairwise (λx y=>lt y x = false) -> failedOf st' = none -> Q () st'):wpS (model prog w) A E s sortRuns' Q st:=by
 have R0:Rn κ S lt (arrOf st).toList st [] (arrOf st).toList:=⟨B,List.Perm.refl _,rfl,by rw [hp];exact .nil,λ_ z=>nomatch z⟩;have hal:(arrOf st).toList.length = (arrOf st).size:=by simp
 unfold sortRuns';refine wpS_bind (wpS_get ?_);dsimp only;generalize (sortPriv% PySem.Builtin.minRun) (arrOf st).size (arrOf st).size 0 = mr;generalize hNN:(arrOf st).size = N at hal ⊢
 refine wpS_bind (wpS_mono (wpS_forRange (I:=λt c st'=>∃ lo runs rest,c = ((none:Option Unit),lo) /\ Rn κ S lt (arrOf st).toList st' runs rest /\ lo = runs.flatten.length /\ (t <= lo \/ rest = []))
  (Q:=λc st'=>∃ lo runs,c = ((none:Option Unit),lo) /\ Rn κ S lt (arrOf st).toList st' runs []) ?step ?fin ⟨0,[],_,rfl,R0,rfl,.inl (Nat.le_refl _)⟩) λc st' hc=>?_)
 case fin =>
  rintro c st' ⟨lo,runs,rest,rfl,R,hlo,ht⟩;have h1:=R.size;have h2:=R.same;have hr:rest = []:=by
   rcases ht with z | z
   ·apply List.eq_nil_of_length_eq_zero
    have : max 0 N = N:=by omega
    rw [this] at z;omega
   ·exact z
  subst hr;exact ⟨lo,runs,rfl,R⟩
 case step =>
  rintro t c st' _ ht ⟨lo,runs,rest,rfl,R,hlo,hprog⟩;have z1:=R.size;have z2:=R.same;dsimp only
  by_cases hge:lo ≥ N
  ·rw [if_pos hge]
   have hr:rest = []:=List.eq_nil_of_length_eq_zero (by omega);subst hr;exact wpS_pure ⟨lo,runs,rfl,R⟩
  rw [if_neg hge];have hprog':t <= lo:=by
   rcases hprog with z | z
   ·exact z
   ·rw [z,List.length_nil] at z1;omega
  have hrem:lo + (N - lo) <= (arrOf st').size:=by omega
  refine wpS_bind (Xgt (lo:=lo) (nrem:=N - lo) O R.b hrem (by omega) λn xs n1 n2 xp xpre sg=>?_);have xsz:xs.size = (arrOf st').size:=xp.size_eq;have RX:=R.run hlo xp xpre;dsimp only
  by_cases hmr:n < mr
  ·rw [if_pos hmr]
   refine wpS_bind (Xbn ?_);have hf1:lo + min (N - lo) (mr) <= (arrOf (setArr st' xs)).size:=by
    show _ <= xs.size
    omega
   refine wpS_bind (Xet (lo:=lo) (n:=min (N - lo) mr) O RX.b hf1 n1 (by omega) sg λys yp ypre ysg=>?_);rw [if_neg (by decide)];have yp':ys.Perm xs:=yp;have ysz:ys.size = xs.size:=yp'.size_eq;have RN:=RX.run hlo yp ypre;have sgN:=Xqn ysg;have hrl:(ys.toList.drop lo).length = (arrOf st).toList.length - lo /\ lo <= (arrOf st).toList.length:=by
    rw [List.length_drop,hal];simp;omega
   have hrl2:(ys.toList.drop lo).length = N - lo:=by rw [hrl.1,hal]
   have hlo2:=RN.lo_of hrl;have hmin:1 <= min (N - lo) (mr):=by omega
   have hminle:min (N - lo) (mr) <= N - lo:=by omega
   generalize hN:min (N - lo) (mr) = nn at *;generalize hrest:ys.toList.drop lo = restN at *;generalize hstN:setArr (setArr st' xs) ys = stN at *;refine wpS_bind (wpS_get ?_)
   cases hbk:(pendingOf stN).back? with
   | none =>
    dsimp only;refine wpS_bind (wpS_modify ?_);exact wpS_pure ⟨_,_,_,rfl,RN.push (n:=nn) (by omega) (by omega) sgN hlo2,by rw [Xcp,List.length_take];omega,.inl (by omega)⟩
   | some bk =>
    obtain ⟨s1,n1,p1⟩:=bk;dsimp only;refine wpS_bind (wpS_mono (wpS_forRange (I:=λt c st2=>c = ((none:Option Unit),()) /\ ∃ runs2,Rn κ S lt (arrOf st).toList st2 runs2 restN) (Q:=λc st2=>c = ((none:Option Unit),()) /\ ∃ runs2,Rn κ S lt (arrOf st).toList st2 runs2 restN) ?si ?fi ⟨rfl,runs,RN⟩) λc2 st2 hc2=>?_)
    case fi=>rintro c st2 ⟨rfl,r2,R2⟩;exact ⟨rfl,r2,R2⟩
    case si =>
     rintro t2 c st2 _ _ ⟨rfl,r2,R2⟩;refine wpS_bind (wpS_get ?_)
     try dsimp only
     split
     ·rename_i o1 o2 older hold
      have hgt:(pendingOf st2).size > 1:=by
       by_cases z:(pendingOf st2).size > 1
       ·exact z
       ·have : (if (pendingOf st2).size > 1 then (pendingOf st2)[(pendingOf st2).size - 2]? else none) = some (o1,o2,older):=hold
        rw [if_neg z] at this;cases this
      split
      ·exact wpS_pure ⟨rfl,r2,R2⟩
      ·refine wpS_bind (wpS_mono (Xbg O R2 (i:=(pendingOf st2).size - 2) (by omega)) λbb st3 h3=>?_)
       obtain ⟨rfl,r3,R3,_⟩:=h3;rw [if_neg (by decide)];exact wpS_pure ⟨rfl,r3,R3⟩
     ·exact wpS_pure ⟨rfl,r2,R2⟩
    obtain ⟨rfl,r2,R2⟩:=hc2;dsimp only;refine wpS_bind (wpS_modify (wpS_bind (wpS_modify ?_)));have R3:=R2.pow ((pendingOf st2).size - 1) (power' N (2 * s1 + n1) (2 * s1 + n1 + n1 + nn) N);have hlo3:=R3.lo_of hrl;exact wpS_pure ⟨_,_,_,rfl,R3.push (n:=nn) (by omega) (by omega) sgN hlo3,by rw [Xcp,List.length_take];omega,.inl (by omega)⟩
  ·rw [if_neg hmr]
   have RN:=RX;have sgN:=Xqn sg;have hrl:(xs.toList.drop lo).length = (arrOf st).toList.length - lo /\ lo <= (arrOf st).toList.length:=by
    rw [List.length_drop,hal];simp;omega
   have hrl2:(xs.toList.drop lo).length = N - lo:=by rw [hrl.1,hal]
   have hlo2:=RN.lo_of hrl;generalize hrest:xs.toList.drop lo = restN at *;generalize hstN:setArr st' xs = stN at *;refine wpS_bind (wpS_get ?_)
   cases hbk:(pendingOf stN).back? with
   | none =>
    dsimp only;refine wpS_bind (wpS_modify ?_);exact wpS_pure ⟨_,_,_,rfl,RN.push (n:=n) (by omega) (by omega) sgN hlo2,by rw [Xcp,List.length_take];omega,.inl (by omega)⟩
   | some bk =>
    obtain ⟨s1,n1,p1⟩:=bk;dsimp only;refine wpS_bind (wpS_mono (wpS_forRange (I:=λt c st2=>c = ((none:Option Unit),()) /\ ∃ runs2,Rn κ S lt (arrOf st).toList st2 runs2 restN) (Q:=λc st2=>c = ((none:Option Unit),()) /\ ∃ runs2,Rn κ S lt (arrOf st).toList st2 runs2 restN) ?si ?fi ⟨rfl,runs,RN⟩) λc2 st2 hc2=>?_)
    case fi=>rintro c st2 ⟨rfl,r2,R2⟩;exact ⟨rfl,r2,R2⟩
    case si =>
     rintro t2 c st2 _ _ ⟨rfl,r2,R2⟩;refine wpS_bind (wpS_get ?_)
     try dsimp only
     split
     ·rename_i o1 o2 older hold
      have hgt:(pendingOf st2).size > 1:=by
       by_cases z:(pendingOf st2).size > 1
       ·exact z
       ·have : (if (pendingOf st2).size > 1 then (pendingOf st2)[(pendingOf st2).size - 2]? else none) = some (o1,o2,older):=hold
        rw [if_neg z] at this;cases this
      split
      ·exact wpS_pure ⟨rfl,r2,R2⟩
      ·refine wpS_bind (wpS_mono (Xbg O R2 (i:=(pendingOf st2).size - 2) (by omega)) λbb st3 h3=>?_)
       obtain ⟨rfl,r3,R3,_⟩:=h3;rw [if_neg (by decide)];exact wpS_pure ⟨rfl,r3,R3⟩
     ·exact wpS_pure ⟨rfl,r2,R2⟩
    obtain ⟨rfl,r2,R2⟩:=hc2;dsimp only;refine wpS_bind (wpS_modify (wpS_bind (wpS_modify ?_)));have R3:=R2.pow ((pendingOf st2).size - 1) (power' N (2 * s1 + n1) (2 * s1 + n1 + n1 + n) N);have hlo3:=R3.lo_of hrl;exact wpS_pure ⟨_,_,_,rfl,R3.push (n:=n) (by omega) (by omega) sgN hlo3,by rw [Xcp,List.length_take];omega,.inl (by omega)⟩
 obtain ⟨lo,runs,rfl,R⟩:=hc;dsimp only;have h2:=R.same;have hrl0:runs.length <= N:=by
  have:=Xtt (runs:=runs) λr hr=>(R.srt r hr).2
  have:=R.size;simp only [List.length_nil] at this;omega
 refine wpS_bind (wpS_mono (wpS_forRange (I:=λt c st2=>c = ((none:Option Unit),()) /\ ∃ runs2,Rn κ S lt (arrOf st).toList st2 runs2 [] /\ runs2.length + t <= N) (Q:=λc st2=>c = ((none:Option Unit),()) /\ ∃ runs2,Rn κ S lt (arrOf st).toList st2 runs2 [] /\ runs2.length <= 1) ?s9 ?f9 ⟨rfl,runs,R,by omega⟩) λc2 st2 hc2=>?_)
 case f9 =>
  rintro c st2 ⟨rfl,r2,R2,hr2⟩;exact ⟨rfl,r2,R2,by omega⟩
 case s9 =>
  rintro t c st2 _ ht ⟨rfl,r2,R2,hr2⟩;have hpl:(pendingOf st2).size = r2.length:=by
   have:=R2.pend.length
   simpa using this
  refine wpS_bind (wpS_get ?_)
  try dsimp only
  by_cases h1:(pendingOf st2).size <= 1
  ·rw [if_pos h1]
   exact wpS_pure ⟨rfl,r2,R2,by omega⟩
  rw [if_neg h1];refine wpS_bind (wpS_mono (Xbg O R2 ?_) λb st3 h3=>?_)
  ·exact Xwl (n:=(pendingOf st2).size) (by omega)
  obtain ⟨rfl,r3,R3,hl3⟩:=h3;rw [if_neg (by decide)];exact wpS_pure ⟨rfl,r3,R3,by omega⟩
 obtain ⟨rfl,r2,R2,hr2⟩:=hc2;refine wpS_pure (h st2 R2.perm ?_ R2.b.f);rw [R2.arr]
 match r2,hr2,R2 with
 | [],_,_=>exact .nil
 | [r],_,R2=>simpa using (R2.srt r (.head _)).1
end
end T
namespace M
open PySem PySem.Spec PyProof.Rows L2
def ExcAt (a C:Addr) (h:Heap):Prop:=∃ o,h.get? a = some o /\ o.cls = .ref C
def Xwv (a C dx:Addr) (h:Heap):Prop:=∃ o,h.get? a = some o /\ o.cls = .ref C /\ (∀ c,o.data ≠ .cls c) /\ o.dict = some dx
def DctIs (dx:Addr) (fs:List (Str × V)) (h:Heap):Prop:=∃ mA,h.Ns1 dx mA /\ (∀ f,RelO (fs.lookup f) (mA f)) /\ PySem.Within mA (fs.map (·.1))
def ExcRep (H:Hp) (a C:Addr):Option (List (Str × V)) -> Prop
 | none=>H a = some (.ext (ExcAt a C))
 | some fs=>∃ dx,dx ≠ a /\ H a = some (.ext (Xwv a C dx)) /\ H dx = some (.ext (DctIs dx fs))
theorem ExcRep.to {H H':Hp} {a C:Addr} {o:Option (List (Str × V))} (e:∀ b φ,H b = some (.ext φ) -> H' b = some (.ext φ)) (h:ExcRep H a C o):ExcRep H' a C o:=by
 cases o with
 | none=>exact e _ _ h
 | some fs=>obtain ⟨dx,n,h1,h2⟩:=h;exact ⟨dx,n,e _ _ h1,e _ _ h2⟩
inductive D where
 | non | bl (b:Bool) | int (i:Int) | str (x:Str) | tup (xs:List D) | lst (xs:List D)
 | dK (kvs:List (Key × D)) | dT (kvs:List (List Key × D)) | adr (p:Addr) | exc (C:Addr) (o:Option (List (Str × V)))
mutual
def Rep (K:PySem.W.Frag) (H:Hp):D -> V -> Prop
 | .non,v=>v = .non
 | .bl b,v=>v = .bl b
 | .int i,v=>v = .int i
 | .str x,v=>v = .str x
 | .adr p,v=>v = .ref p
 | .exc C o,v=>∃ a,v = .ref a /\ ExcRep H a C o
 | .tup xs,v=>∃ a vs,v = .ref a /\ H a = some (.tup vs) /\ Reps K H xs vs
 | .lst xs,v=>∃ a vs,v = .ref a /\ SqL K H a vs /\ Reps K H xs vs
 | .dK kvs,v=>∃ a kws,v = .ref a /\ Rd H a (.dK kws) /\ RepK K H kvs kws
 | .dT kvs,v=>∃ a kws,v = .ref a /\ Rd H a (.dT kws) /\ RepT K H kvs kws
def Reps (K:PySem.W.Frag) (H:Hp):List D -> List V -> Prop
 | [],vs=>vs = []
 | d :: ds,vs=>∃ v r,vs = v :: r /\ Rep K H d v /\ Reps K H ds r
def RepK (K:PySem.W.Frag) (H:Hp):List (Key × D) -> List (Key × V) -> Prop
 | [],ws=>ws = []
 | (k,d) :: r,ws=>∃ v q,ws = (k,v) :: q /\ Rep K H d v /\ RepK K H r q
def RepT (K:PySem.W.Frag) (H:Hp):List (List Key × D) -> List (List Key × V) -> Prop
 | [],ws=>ws = []
 | (k,d) :: r,ws=>∃ v q,ws = (k,v) :: q /\ Rep K H d v /\ RepT K H r q
end
theorem Xbj {H H':Hp} {a:Addr} {u:HO} (e:Same H H') (h:Rd H a u):Rd H' a u:=h.elim (λz=>.inl (e _ _ z)) λ⟨o,z⟩=>.inr ⟨o,e _ _ z⟩
theorem seqT {K:PySem.W.Frag} {H H':Hp} {a:Addr} {xs:List V} (e:Same H H') (h:SqT K H a xs):SqT K H' a xs:=by
 rcases h with (h | ⟨o,h⟩) | h
 ·exact .inl (.inl (e _ _ h))
 ·exact .inl (.inr ⟨o,e _ _ h⟩)
 ·exact .inr h
mutual
theorem Rep.mono {K:PySem.W.Frag} {H H':Hp} (e:Same H H'):∀ (d:D) (v:V),Rep K H d v -> Rep K H' d v
 | .non,v,h=>by simpa only [Rep] using h
 | .bl b,v,h=>by simpa only [Rep] using h
 | .int i,v,h=>by simpa only [Rep] using h
 | .str x,v,h=>by simpa only [Rep] using h
 | .adr x,v,h=>by simpa only [Rep] using h
 | .exc C o,v,h=>by
  simp only [Rep] at h ⊢;obtain ⟨a,h1,h2⟩:=h;exact ⟨a,h1,h2.to λb φ q=>e _ _ q⟩
 | .tup xs,v,h=>by
  simp only [Rep] at h ⊢;obtain ⟨a,vs,h1,h2,h3⟩:=h;exact ⟨a,vs,h1,e _ _ h2,Reps.mono e xs vs h3⟩
 | .lst xs,v,h=>by
  simp only [Rep] at h ⊢;obtain ⟨a,vs,h1,h2,h3⟩:=h;exact ⟨a,vs,h1,e.seq h2,Reps.mono e xs vs h3⟩
 | .dK kvs,v,h=>by
  simp only [Rep] at h ⊢;obtain ⟨a,vs,h1,h2,h3⟩:=h;exact ⟨a,vs,h1,Xbj e h2,RepK.mono e kvs vs h3⟩
 | .dT kvs,v,h=>by
  simp only [Rep] at h ⊢;obtain ⟨a,vs,h1,h2,h3⟩:=h;exact ⟨a,vs,h1,Xbj e h2,RepT.mono e kvs vs h3⟩
theorem Reps.mono {K:PySem.W.Frag} {H H':Hp} (e:Same H H'):∀ (ds:List D) (vs:List V),Reps K H ds vs -> Reps K H' ds vs
 | [],vs,h=>by simpa only [Reps] using h
 | d :: ds,vs,h=>by
  simp only [Reps] at h ⊢;obtain ⟨v,r,h1,h2,h3⟩:=h;exact ⟨v,r,h1,Rep.mono e d v h2,Reps.mono e ds r h3⟩
theorem RepK.mono {K:PySem.W.Frag} {H H':Hp} (e:Same H H'):∀ (ds:List (Key × D)) (vs:List (Key × V)),RepK K H ds vs -> RepK K H' ds vs
 | [],vs,h=>by simpa only [RepK] using h
 | (k,d) :: ds,vs,h=>by
  simp only [RepK] at h ⊢;obtain ⟨v,r,h1,h2,h3⟩:=h;exact ⟨v,r,h1,Rep.mono e d v h2,RepK.mono e ds r h3⟩
theorem RepT.mono {K:PySem.W.Frag} {H H':Hp} (e:Same H H'):∀ (ds:List (List Key × D)) (vs:List (List Key × V)),RepT K H ds vs -> RepT K H' ds vs
 | [],vs,h=>by simpa only [RepT] using h
 | (k,d) :: ds,vs,h=>by
  simp only [RepT] at h ⊢;obtain ⟨v,r,h1,h2,h3⟩:=h;exact ⟨v,r,h1,Rep.mono e d v h2,RepT.mono e ds r h3⟩
end
section
variable {K:PySem.W.Frag} {H:Hp}
theorem Reps.length:∀ {ds:List D} {vs:List V},Reps K H ds vs -> ds.length = vs.length
 | [],vs,h=>by simp only [Reps] at h;subst h;rfl
 | d :: ds,vs,h=>by
  simp only [Reps] at h;obtain ⟨v,r,rfl,_,h3⟩:=h;simp [Reps.length h3]
theorem Reps.get:∀ {ds:List D} {vs:List V} {i:Nat} {d:D},Reps K H ds vs -> ds[i]? = some d -> ∃ v,vs[i]? = some v /\ Rep K H d v
 | [],_,_,_,_,e=>by simp at e
 | d :: ds,vs,0,d',h,e=>by
  simp only [Reps] at h;obtain ⟨v,r,rfl,h2,h3⟩:=h;simp at e;subst e;exact ⟨v,rfl,h2⟩
 | d :: ds,vs,i + 1,d',h,e=>by
  simp only [Reps] at h;obtain ⟨v,r,rfl,h2,h3⟩:=h
  simpa using Reps.get h3 (by simpa using e)
theorem Reps.getV:∀ {ds:List D} {vs:List V} {i:Nat} {v:V},Reps K H ds vs -> vs[i]? = some v -> ∃ d,ds[i]? = some d /\ Rep K H d v
 | [],vs,_,_,h,e=>by simp only [Reps] at h;subst h;simp at e
 | d :: ds,vs,0,d',h,e=>by
  simp only [Reps] at h;obtain ⟨v,r,rfl,h2,h3⟩:=h;simp at e;subst e;exact ⟨d,rfl,h2⟩
 | d :: ds,vs,i + 1,d',h,e=>by
  simp only [Reps] at h;obtain ⟨v,r,rfl,h2,h3⟩:=h
  simpa using Reps.getV h3 (by simpa using e)
theorem Reps.cons {d:D} {v:V} {ds:List D} {vs:List V} (h:Rep K H d v) (t:Reps K H ds vs):Reps K H (d :: ds) (v :: vs):=by
 simp only [Reps];exact ⟨v,vs,rfl,h,t⟩
theorem Reps.nil:Reps K H [] []:=by simp only [Reps]
theorem Reps.append:∀ {ds es:List D} {vs ws:List V},Reps K H ds vs -> Reps K H es ws -> Reps K H (ds ++ es) (vs ++ ws)
 | [],es,vs,ws,h,k=>by simp only [Reps] at h;subst h;exact k
 | d :: ds,es,vs,ws,h,k=>by
  simp only [Reps] at h;obtain ⟨v,r,rfl,h2,h3⟩:=h;exact Reps.cons h2 (Reps.append h3 k)
theorem Reps.take:∀ {ds:List D} {vs:List V} (n:Nat),Reps K H ds vs -> Reps K H (ds.take n) (vs.take n)
 | _,_,0,_=>by simp [Reps]
 | [],vs,n + 1,h=>by simp only [Reps] at h;subst h;simp [Reps]
 | d :: ds,vs,n + 1,h=>by
  simp only [Reps] at h;obtain ⟨v,r,rfl,h2,h3⟩:=h;exact Reps.cons h2 (Reps.take n h3)
theorem Reps.drop:∀ {ds:List D} {vs:List V} (n:Nat),Reps K H ds vs -> Reps K H (ds.drop n) (vs.drop n)
 | _,_,0,h=>h
 | [],vs,n + 1,h=>by simp only [Reps] at h;subst h;simp [Reps]
 | d :: ds,vs,n + 1,h=>by
  simp only [Reps] at h;obtain ⟨v,r,rfl,h2,h3⟩:=h;exact Reps.drop n h3
theorem Reps.ints:∀ (ns:List Int),Reps K H (ns.map D.int) (ns.map V.int)
 | []=>Reps.nil
 | n :: ns=>Reps.cons (by simp only [Rep]) (Reps.ints ns)
theorem Reps.ints_inv:∀ {ns:List Int} {vs:List V},Reps K H (ns.map D.int) vs -> vs = ns.map V.int
 | [],vs,h=>by simp only [List.map_nil,Reps] at h;exact h
 | n :: ns,vs,h=>by
  simp only [List.map_cons,Reps,Rep] at h;obtain ⟨v,r,rfl,h2,h3⟩:=h;rw [h2,Reps.ints_inv h3];rfl
theorem RepK.length:∀ {ds:List (Key × D)} {vs:List (Key × V)},RepK K H ds vs -> ds.length = vs.length
 | [],vs,h=>by simp only [RepK] at h;subst h;rfl
 | (k,d) :: ds,vs,h=>by
  simp only [RepK] at h;obtain ⟨v,r,rfl,_,h3⟩:=h;simp [RepK.length h3]
theorem RepT.length:∀ {ds:List (List Key × D)} {vs:List (List Key × V)},RepT K H ds vs -> ds.length = vs.length
 | [],vs,h=>by simp only [RepT] at h;subst h;rfl
 | (k,d) :: ds,vs,h=>by
  simp only [RepT] at h;obtain ⟨v,r,rfl,_,h3⟩:=h;simp [RepT.length h3]
end
inductive Sl where
 | un | fr (d:D) | ow (d:D) | lk (p:Addr) (d:D)
def Own (K:PySem.W.Frag) (G H:Hp) (p:Addr):D -> Prop
 | .lst ds=>∃ vs,H p = some (.lst vs) /\ Reps K G ds vs
 | .dK kvs=>∃ kws,H p = some (.dK kws) /\ RepK K G kvs kws
 | .dT kvs=>∃ kws,H p = some (.dT kws) /\ RepT K G kvs kws
 | _=>False
theorem Own.mono {K:PySem.W.Frag} {G G' H H':Hp} {p:Addr} {d:D} (h:Own K G H p d) (e:Same G G') (k:H' p = H p):Own K G' H' p d:=by
 cases d with
 | lst ds=>obtain ⟨vs,h1,h2⟩:=h;exact ⟨vs,k.trans h1,Reps.mono e _ _ h2⟩
 | dK ds=>obtain ⟨vs,h1,h2⟩:=h;exact ⟨vs,k.trans h1,RepK.mono e _ _ h2⟩
 | dT ds=>obtain ⟨vs,h1,h2⟩:=h;exact ⟨vs,k.trans h1,RepT.mono e _ _ h2⟩
 | _=>exact h.elim
def Soft:HO -> Prop
 | .lst _=>True
 | .dK _=>True
 | .dT _=>True
 | _=>False
theorem Own.soft {K:PySem.W.Frag} {G H:Hp} {p:Addr} {d:D} (h:Own K G H p d):∃ o,H p = some o /\ Soft o:=by
 cases d with
 | lst ds=>obtain ⟨vs,h1,h2⟩:=h;exact ⟨_,h1,True.intro⟩
 | dK ds=>obtain ⟨vs,h1,h2⟩:=h;exact ⟨_,h1,True.intro⟩
 | dT ds=>obtain ⟨vs,h1,h2⟩:=h;exact ⟨_,h1,True.intro⟩
 | _=>exact h.elim
theorem Own.rep {K:PySem.W.Frag} {G G' H:Hp} {p:Addr} {d:D} (h:Own K G H p d) (e:Same G G') (k:G' p = H p):Rep K G' d (.ref p):=by
 cases d with
 | lst ds=>obtain ⟨vs,h1,h2⟩:=h;simp only [Rep];exact ⟨p,vs,rfl,SqL.of (k.trans h1),Reps.mono e _ _ h2⟩
 | dK ds=>obtain ⟨vs,h1,h2⟩:=h;simp only [Rep];exact ⟨p,vs,rfl,.inl (k.trans h1),RepK.mono e _ _ h2⟩
 | dT ds=>obtain ⟨vs,h1,h2⟩:=h;simp only [Rep];exact ⟨p,vs,rfl,.inl (k.trans h1),RepT.mono e _ _ h2⟩
 | _=>exact h.elim
def Sl.mine:Sl -> Prop
 | .ow _=>True
 | .lk _ _=>True
 | _=>False
def At (σ:L2.St) (δ:List Sl) (i:Nat) (p:Addr):Prop:=∃ l,δ[i]? = some l /\ l.mine /\ σ[i]? = some (some (.ref p))
structure Hs (K:PySem.W.Frag) (H0:Hp) (σ:L2.St) (δ:List Sl) (G H:Hp):Prop where
 len:σ.length = δ.length
 base:Same H0 G
 ex:∀ b,(G b = H b /\ ∀ i,¬ At σ δ i b) \/ (G b = none /\ ∃ i,At σ δ i b)
 fr:∀ (i:Nat) d,δ[i]? = some (.fr d) -> ∃ v,σ[i]? = some (some v) /\ Rep K G d v
 ow:∀ (i:Nat) d,δ[i]? = some (.ow d) -> ∃ p,σ[i]? = some (some (.ref p)) /\ Own K G H p d
 lk:∀ (i:Nat) p d,δ[i]? = some (.lk p d) -> σ[i]? = some (some (.ref p)) /\ Own K G H p d
 ne:∀ i j p,At σ δ i p -> At σ δ j p -> i = j
section
variable {K:PySem.W.Frag} {H0:Hp} {σ:L2.St} {δ:List Sl} {G H:Hp}
theorem Hs.sub (h:Hs K H0 σ δ G H):Same G H:=λb o e=>by
 rcases h.ex b with ⟨q,_⟩ | ⟨q,_⟩
 ·rw [<- q];exact e
 ·rw [q] at e;cases e
theorem Hs.soft (h:Hs K H0 σ δ G H) {i:Nat} {p:Addr} (a:At σ δ i p):∃ o,H p = some o /\ Soft o:=by
 obtain ⟨l,e1,e2,e3⟩:=a
 cases l with
 | ow d =>
  obtain ⟨q,e4,o⟩:=h.ow i d e1;rw [e3] at e4;cases e4;exact o.soft
 | lk q d =>
  obtain ⟨e4,o⟩:=h.lk i q d e1;rw [e3] at e4;cases e4;exact o.soft
 | _=>exact e2.elim
theorem Hs.hard (h:Hs K H0 σ δ G H) {b:Addr} {o:HO} (e:H b = some o) (n:¬ Soft o):G b = some o /\ ∀ i,¬ At σ δ i b:=by
 rcases h.ex b with ⟨q,a⟩ | ⟨q,i,a⟩
 ·exact ⟨q.trans e,a⟩
 ·obtain ⟨o',e',s⟩:=h.soft a
  rw [e] at e';cases e';exact absurd s n
theorem Hs.start {ds:List D} {vs:List V} (h:Reps K H0 ds vs) (n:Nat):Hs K H0 (vs.map some ++ List.replicate n none) (ds.map Sl.fr ++ List.replicate n .un) H0 H0:=by
 have na:∀ i p,¬ At (vs.map some ++ List.replicate n none) (ds.map Sl.fr ++ List.replicate n .un) i p:=by
  rintro i p ⟨l,e1,e2,_⟩;have hm:=List.mem_of_getElem? e1
  rcases List.mem_append.mp hm with hm | hm
  ·obtain ⟨d,_,rfl⟩:=List.mem_map.mp hm
   exact e2
  ·have:=List.eq_of_mem_replicate hm
   subst this;exact e2
 have fr_at:∀ (i:Nat) l,(ds.map Sl.fr ++ List.replicate n .un)[i]? = some l -> l = .un \/ ∃ d,l = .fr d /\ ds[i]? = some d:=by
  intro i l e
  by_cases hi:i < ds.length
  ·rw [List.getElem?_append_left (by simpa using hi),List.getElem?_map] at e
   cases q:ds[i]? with
   | none=>rw [q] at e;cases e
   | some d=>rw [q] at e;exact .inr ⟨d,(Option.some.inj e).symm,rfl⟩
  ·rw [List.getElem?_append_right (by simpa using Nat.le_of_not_lt hi)] at e
   exact .inl (List.eq_of_mem_replicate (List.mem_of_getElem? e))
 refine ⟨by simp [h.length],Same.refl _,λb=>.inl ⟨rfl,λi=>na i b⟩,λi d e=>?_,λi d e=>?_,λi p es e=>?_,λi j p a _=>absurd a (na i p)⟩
 ·rcases fr_at i _ e with z | ⟨d',z,q⟩
  ·cases z
  ·cases z
   obtain ⟨v,e1,r⟩:=h.get q;refine ⟨v,?_,r⟩;have hi:i < vs.length:=(List.getElem?_eq_some_iff.mp e1).1;rw [List.getElem?_append_left (by simpa using hi),List.getElem?_map,e1];rfl
 ·rcases fr_at i _ e with z | ⟨d',z,q⟩ <;> cases z
 ·rcases fr_at i _ e with z | ⟨d',z,q⟩ <;> cases z
end
section
variable {K:PySem.W.Frag} {H0:Hp} {σ:L2.St} {δ:List Sl} {G H:Hp}
theorem At.lt {i:Nat} {p:Addr} (a:At σ δ i p):i < δ.length:=by
 obtain ⟨l,e,_⟩:=a;exact (List.getElem?_eq_some_iff.mp e).1
theorem Xib {i j:Nat} {p:Addr} {v:Option V} {l:Sl} (n:j ≠ i):At (σ.set i v) (δ.set i l) j p ↔ At σ δ j p:=by
 unfold At;rw [List.getElem?_set_ne (Ne.symm n),List.getElem?_set_ne (Ne.symm n)]
theorem Xbw {i j:Nat} {p:Addr} {l:Sl} (n:j ≠ i):At σ (δ.set i l) j p ↔ At σ δ j p:=by
 unfold At;rw [List.getElem?_set_ne (Ne.symm n)]
theorem Xom {i:Nat} {p:Addr} {v:Option V} {l:Sl} (a:At (σ.set i v) (δ.set i l) i p):l.mine /\ v = some (.ref p):=by
 obtain ⟨l',e1,e2,e3⟩:=a;have h1:i < (δ.set i l).length:=(List.getElem?_eq_some_iff.mp e1).1;have h2:i < (σ.set i v).length:=(List.getElem?_eq_some_iff.mp e3).1;rw [List.length_set] at h1 h2;rw [List.getElem?_set_self h1] at e1;rw [List.getElem?_set_self h2] at e3;cases e1;exact ⟨e2,Option.some.inj e3⟩
theorem Xdt {i:Nat} {p:Addr} {l:Sl} (a:At σ (δ.set i l) i p):l.mine:=by
 obtain ⟨l',e1,e2,e3⟩:=a;have h1:i < (δ.set i l).length:=(List.getElem?_eq_some_iff.mp e1).1;rw [List.length_set] at h1;rw [List.getElem?_set_self h1] at e1;cases e1;exact e2
theorem Hs.freeze (h:Hs K H0 σ δ G H) {i:Nat} {d:D} (e:δ[i]? = some (.ow d)):∃ G',Hs K H0 σ (δ.set i (.fr d)) G' H /\ Same G G' /\ ∃ p,σ[i]? = some (some (.ref p)) /\ Rep K G' d (.ref p):=by
 obtain ⟨p,e1,o⟩:=h.ow i d e;have ai:At σ δ i p:=⟨_,e,True.intro,e1⟩;have hi:i < δ.length:=ai.lt;obtain ⟨ob,eo,_⟩:=o.soft;have gp:G p = none:=by
  rcases h.ex p with ⟨_,z⟩ | ⟨z,_⟩
  ·exact absurd ai (z i)
  ·exact z
 have s1:Same G (upd G p ob):=λb u q=>by rw [Xad (Xaf q gp)];exact q
 have r:Rep K (upd G p ob) d (.ref p):=o.rep s1 (by rw [Xac,eo]);refine ⟨upd G p ob,⟨by rw [List.length_set];exact h.len,h.base.trans s1,λb=>?_,λj d' q=>?_,λj d' q=>?_,λj q' es q=>?_,λj k b a1 a2=>?_⟩,s1,p,e1,r⟩
 ·by_cases hb:b = p
  ·subst hb
   refine .inl ⟨by rw [Xac,eo],λj a=>?_⟩
   by_cases hj:j = i
   ·subst hj;exact Xdt a
   ·exact hj (h.ne _ _ _ ((Xbw hj).mp a) ai)
  ·rcases h.ex b with ⟨z1,z2⟩ | ⟨z1,j,z2⟩
   ·refine .inl ⟨by rw [Xad hb];exact z1,λj a=>?_⟩
    by_cases hj:j = i
    ·subst hj;exact Xdt a
    ·exact z2 j ((Xbw hj).mp a)
   ·have hj:j ≠ i:=λz=>hb (by
     subst z;obtain ⟨_,_,_,w⟩:=z2
     rw [e1] at w;cases w;rfl)
    exact .inr ⟨by rw [Xad hb];exact z1,j,(Xbw hj).mpr z2⟩
 ·by_cases hj:j = i
  ·subst hj
   rw [List.getElem?_set_self hi] at q;cases q;exact ⟨_,e1,r⟩
  ·rw [List.getElem?_set_ne (Ne.symm hj)] at q
   obtain ⟨v,w1,w2⟩:=h.fr j d' q;exact ⟨v,w1,Rep.mono s1 _ _ w2⟩
 ·by_cases hj:j = i
  ·subst hj
   rw [List.getElem?_set_self hi] at q;cases q
  ·rw [List.getElem?_set_ne (Ne.symm hj)] at q
   obtain ⟨v,w1,w2⟩:=h.ow j d' q;exact ⟨v,w1,w2.mono s1 rfl⟩
 ·by_cases hj:j = i
  ·subst hj
   rw [List.getElem?_set_self hi] at q;cases q
  ·rw [List.getElem?_set_ne (Ne.symm hj)] at q
   obtain ⟨w1,w2⟩:=h.lk j q' es q;exact ⟨w1,w2.mono s1 rfl⟩
 ·have hj:j ≠ i:=λz=>by subst z;exact Xdt a1
  have hk:k ≠ i:=λz=>by subst z;exact Xdt a2
  exact h.ne j k b ((Xbw hj).mp a1) ((Xbw hk).mp a2)
theorem Hs.put0 (h:Hs K H0 σ δ G H) {i:Nat} {l:Sl} {d:D} {v:V} (e:δ[i]? = some l) (nm:¬ l.mine) (r:Rep K G d v):Hs K H0 (σ.set i (some v)) (δ.set i (.fr d)) G H:=by
 have hi:i < δ.length:=(List.getElem?_eq_some_iff.mp e).1;have his:i < σ.length:=by rw [h.len];exact hi
 have na:∀ p,¬ At σ δ i p:=λp ⟨l',e1,e2,_⟩=>by rw [e] at e1;cases e1;exact nm e2
 have na':∀ p,¬ At (σ.set i (some v)) (δ.set i (.fr d)) i p:=λp a=>(Xom a).1
 refine ⟨by rw [List.length_set,List.length_set];exact h.len,h.base,λb=>?_,λj d' q=>?_,λj d' q=>?_,λj q' es q=>?_,λj k b a1 a2=>?_⟩
 ·rcases h.ex b with ⟨z1,z2⟩ | ⟨z1,j,z2⟩
  ·refine .inl ⟨z1,λj a=>?_⟩
   by_cases hj:j = i
   ·subst hj;exact na' b a
   ·exact z2 j ((Xib hj).mp a)
  ·have hj:j ≠ i:=λz=>by subst z;exact na b z2
   exact .inr ⟨z1,j,(Xib hj).mpr z2⟩
 ·by_cases hj:j = i
  ·subst hj
   rw [List.getElem?_set_self hi] at q;cases q;exact ⟨v,List.getElem?_set_self his,r⟩
  ·rw [List.getElem?_set_ne (Ne.symm hj)] at q ⊢
   exact h.fr j d' q
 ·by_cases hj:j = i
  ·subst hj
   rw [List.getElem?_set_self hi] at q;cases q
  ·rw [List.getElem?_set_ne (Ne.symm hj)] at q ⊢
   exact h.ow j d' q
 ·by_cases hj:j = i
  ·subst hj
   rw [List.getElem?_set_self hi] at q;cases q
  ·rw [List.getElem?_set_ne (Ne.symm hj)] at q ⊢
   exact h.lk j q' es q
 ·have hj:j ≠ i:=λz=>by subst z;exact na' b a1
  have hk:k ≠ i:=λz=>by subst z;exact na' b a2
  exact h.ne j k b ((Xib hj).mp a1) ((Xib hk).mp a2)
def Sl.locked:Sl -> Bool
 | .lk _ _=>true
 | _=>false
theorem Hs.put (h:Hs K H0 σ δ G H) {i:Nat} {l:Sl} {d:D} {v:V} (e:δ[i]? = some l) (nl:l.locked = false) (r:Rep K G d v):∃ G',Hs K H0 (σ.set i (some v)) (δ.set i (.fr d)) G' H /\ Same G G':=by
 cases l with
 | lk p d'=>cases nl
 | un=>exact ⟨G,h.put0 e (λz=>z) r,Same.refl _⟩
 | fr d'=>exact ⟨G,h.put0 e (λz=>z) r,Same.refl _⟩
 | ow d' =>
  have hi:i < δ.length:=(List.getElem?_eq_some_iff.mp e).1;obtain ⟨G',h',s,_⟩:=h.freeze e;have:=h'.put0 (i:=i) (d:=d) (v:=v) (List.getElem?_set_self hi) (λz=>z) (Rep.mono s _ _ r);rw [List.set_set] at this;exact ⟨G',this,s⟩
theorem at_cons {i:Nat} {p:Addr} {v:Option V} {l:Sl}:At (v :: σ) (l :: δ) (i + 1) p ↔ At σ δ i p:=by
 unfold At;simp
theorem at_zero {p:Addr} {v:Option V} {l:Sl}:At (v :: σ) (l :: δ) 0 p ↔ l.mine /\ v = some (.ref p):=by
 unfold At;simp
theorem Hs.drop {v:Option V} {l:Sl} (h:Hs K H0 (v :: σ) (l :: δ) G H) (nm:¬ l.mine):Hs K H0 σ δ G H:=by
 refine ⟨by simpa using h.len,h.base,λb=>?_,λj d' q=>?_,λj d' q=>?_,λj q' es q=>?_,λj k b a1 a2=>?_⟩
 ·rcases h.ex b with ⟨z1,z2⟩ | ⟨z1,j,z2⟩
  ·exact .inl ⟨z1,λj a=>z2 (j + 1) (at_cons.mpr a)⟩
  ·cases j with
   | zero=>exact absurd (at_zero.mp z2).1 nm
   | succ j=>exact .inr ⟨z1,j,at_cons.mp z2⟩
 ·simpa using h.fr (j + 1) d' (by simpa using q)
 ·simpa using h.ow (j + 1) d' (by simpa using q)
 ·simpa using h.lk (j + 1) q' es (by simpa using q)
 ·have:=h.ne (j + 1) (k + 1) b (at_cons.mpr a1) (at_cons.mpr a2)
  omega
theorem Hs.settle {v:V} {d:D} (h:Hs K H0 (some v :: σ) (.ow d :: δ) G H):∃ G',Hs K H0 σ δ G' H /\ Same G G' /\ Rep K G' d v:=by
 obtain ⟨G',h',s,p,e,r⟩:=h.freeze (i:=0) (d:=d) rfl;simp at e;subst e;exact ⟨G',h'.drop (l:=.fr d) (λz=>z),s,r⟩
theorem Hs.own0 {v:V} {d:D} (h:Hs K H0 (some v :: σ) (.ow d :: δ) G H) {i:Nat} {l:Sl} (e:δ[i]? = some l) (nm:¬ l.mine):Hs K H0 (σ.set i (some v)) (δ.set i (.ow d)) G H:=by
 have hl:σ.length = δ.length:=by simpa using h.len
 have hi:i < δ.length:=(List.getElem?_eq_some_iff.mp e).1;have his:i < σ.length:=by omega
 obtain ⟨p,e1,o⟩:=h.ow 0 d rfl;simp at e1;subst e1;have ai:∀ b,At (σ.set i (some (.ref p))) (δ.set i (.ow d)) i b ↔ b = p:=λb=>by
  constructor
  ·intro a
   have:=(Xom a).2;cases this;rfl
  ·rintro rfl
   exact ⟨_,List.getElem?_set_self hi,True.intro,List.getElem?_set_self his⟩
 have na:∀ b,¬ At σ δ i b:=λb ⟨l',q1,q2,_⟩=>by rw [e] at q1;cases q1;exact nm q2
 have tr:∀ b j,j ≠ i -> (At (σ.set i (some (.ref p))) (δ.set i (.ow d)) j b ↔ At (some (.ref p) :: σ) (.ow d :: δ) (j + 1) b):=λb j hj=>by
  rw [Xib hj,at_cons]
 have a0:At (some (.ref p) :: σ) (.ow d :: δ) 0 p:=at_zero.mpr ⟨True.intro,rfl⟩;refine ⟨by rw [List.length_set,List.length_set];exact hl,h.base,λb=>?_,λj d' q=>?_,λj d' q=>?_,λj q' es q=>?_,λj k b a1 a2=>?_⟩
 ·rcases h.ex b with ⟨z1,z2⟩ | ⟨z1,j,z2⟩
  ·refine .inl ⟨z1,λj a=>?_⟩
   by_cases hj:j = i
   ·subst hj
    exact z2 0 (at_zero.mpr ⟨True.intro,by rw [(ai b).mp a]⟩)
   ·exact z2 (j + 1) ((tr b j hj).mp a)
  ·refine .inr ⟨z1,?_⟩
   cases j with
   | zero =>
    have w:=(at_zero.mp z2).2;cases w;exact ⟨i,(ai p).mpr rfl⟩
   | succ j =>
    have hj:j ≠ i:=λz=>by subst z;exact na b (at_cons.mp z2)
    exact ⟨j,(tr b j hj).mpr z2⟩
 ·by_cases hj:j = i
  ·subst hj
   rw [List.getElem?_set_self hi] at q;cases q
  ·rw [List.getElem?_set_ne (Ne.symm hj)] at q ⊢
   simpa using h.fr (j + 1) d' (by simpa using q)
 ·by_cases hj:j = i
  ·subst hj
   rw [List.getElem?_set_self hi] at q;cases q;exact ⟨p,List.getElem?_set_self his,o⟩
  ·rw [List.getElem?_set_ne (Ne.symm hj)] at q ⊢
   simpa using h.ow (j + 1) d' (by simpa using q)
 ·by_cases hj:j = i
  ·subst hj
   rw [List.getElem?_set_self hi] at q;cases q
  ·rw [List.getElem?_set_ne (Ne.symm hj)] at q ⊢
   simpa using h.lk (j + 1) q' es (by simpa using q)
 ·by_cases hj:j = i
  ·subst hj
   have w:=(ai b).mp a1;subst w
   by_cases hk:k = j
   ·exact hk.symm
   ·have:=h.ne _ _ _ ((tr b k hk).mp a2) a0
    omega
  ·by_cases hk:k = i
   ·subst hk
    have w:=(ai b).mp a2;subst w;have:=h.ne _ _ _ ((tr b j hj).mp a1) a0;omega
   ·have:=h.ne _ _ _ ((tr b j hj).mp a1) ((tr b k hk).mp a2)
    omega
theorem Hs.own {v:V} {d:D} (h:Hs K H0 (some v :: σ) (.ow d :: δ) G H) {i:Nat} {l:Sl} (e:δ[i]? = some l) (nl:l.locked = false):∃ G',Hs K H0 (σ.set i (some v)) (δ.set i (.ow d)) G' H /\ Same G G':=by
 cases l with
 | lk p d'=>cases nl
 | un=>exact ⟨G,h.own0 e (λz=>z),Same.refl _⟩
 | fr d'=>exact ⟨G,h.own0 e (λz=>z),Same.refl _⟩
 | ow d' =>
  have hi:i < δ.length:=(List.getElem?_eq_some_iff.mp e).1;obtain ⟨G',h',s,_⟩:=h.freeze (i:=i + 1) (d:=d') (by simpa using e);have h'':Hs K H0 (some v :: σ) (.ow d :: δ.set i (.fr d')) G' H:=h';have:=h''.own0 (i:=i) (List.getElem?_set_self hi) (λz=>z);rw [List.set_set] at this;exact ⟨G',this,s⟩
theorem Hs.laid (h:Hs K H0 σ δ G H) {p:Addr} {o:HO} (n:H p = none):Hs K H0 σ δ (upd G p o) (upd H p o) /\ Same G (upd G p o):=by
 have nat:∀ i,¬ At σ δ i p:=λi a=>by
  obtain ⟨o',e,_⟩:=h.soft a;rw [n] at e;cases e
 have gp:G p = none:=by
  rcases h.ex p with ⟨z,_⟩ | ⟨z,_⟩
  ·exact z.trans n
  ·exact z
 have s1:Same G (upd G p o):=λb u q=>by rw [Xad (Xaf q gp)];exact q
 have hne:∀ i b,At σ δ i b -> b ≠ p:=λi b a z=>by subst z;exact nat i a
 refine ⟨⟨h.len,h.base.trans s1,λb=>?_,λj d' q=>?_,λj d' q=>?_,λj q' es q=>?_,h.ne⟩,s1⟩
 ·by_cases hb:b = p
  ·subst hb;exact .inl ⟨by rw [Xac,Xac],nat⟩
  ·rw [Xad hb,Xad hb];exact h.ex b
 ·obtain ⟨v,w1,w2⟩:=h.fr j d' q
  exact ⟨v,w1,Rep.mono s1 _ _ w2⟩
 ·obtain ⟨b,w1,w2⟩:=h.ow j d' q
  exact ⟨b,w1,w2.mono s1 (Xad (hne j b ⟨_,q,True.intro,w1⟩))⟩
 ·obtain ⟨w1,w2⟩:=h.lk j q' es q
  exact ⟨w1,w2.mono s1 (Xad (hne j q' ⟨_,q,True.intro,w1⟩))⟩
theorem Hs.fresh (h:Hs K H0 σ δ G H) {p:Addr} {o:HO} {d:D} (n:H p = none) (w:Own K G (upd H p o) p d):Hs K H0 (some (.ref p) :: σ) (.ow d :: δ) G (upd H p o):=by
 have nat:∀ i,¬ At σ δ i p:=λi a=>by
  obtain ⟨o',e,_⟩:=h.soft a;rw [n] at e;cases e
 have gp:G p = none:=by
  rcases h.ex p with ⟨z,_⟩ | ⟨z,_⟩
  ·exact z.trans n
  ·exact z
 have hne:∀ i b,At σ δ i b -> b ≠ p:=λi b a z=>by subst z;exact nat i a
 have a0:∀ b,At (some (.ref p) :: σ) (.ow d :: δ) 0 b ↔ b = p:=λb=>by
  rw [at_zero]
  constructor
  ·rintro ⟨_,z⟩;cases z;rfl
  ·rintro rfl;exact ⟨True.intro,rfl⟩
 refine ⟨by simp [h.len],h.base,λb=>?_,λj d' q=>?_,λj d' q=>?_,λj q' es q=>?_,λj k b a1 a2=>?_⟩
 ·by_cases hb:b = p
  ·subst hb;exact .inr ⟨gp,0,(a0 b).mpr rfl⟩
  ·rw [Xad hb]
   rcases h.ex b with ⟨z1,z2⟩ | ⟨z1,j,z2⟩
   ·refine .inl ⟨z1,λj a=>?_⟩
    cases j with
    | zero=>exact hb ((a0 b).mp a)
    | succ j=>exact z2 j (at_cons.mp a)
   ·exact .inr ⟨z1,j + 1,at_cons.mpr z2⟩
 ·cases j with
  | zero=>simp at q
  | succ j=>simpa using h.fr j d' (by simpa using q)
 ·cases j with
  | zero =>
   simp at q;subst q;exact ⟨p,rfl,w⟩
  | succ j =>
   obtain ⟨b,w1,w2⟩:=h.ow j d' (by simpa using q);exact ⟨b,by simpa using w1,w2.mono (Same.refl _) (Xad (hne j b ⟨.ow d',by simpa using q,True.intro,w1⟩))⟩
 ·cases j with
  | zero=>simp at q
  | succ j =>
   obtain ⟨w1,w2⟩:=h.lk j q' es (by simpa using q);exact ⟨by simpa using w1,w2.mono (Same.refl _) (Xad (hne j q' ⟨.lk q' es,by simpa using q,True.intro,w1⟩))⟩
 ·cases j with
  | zero =>
   cases k with
   | zero=>rfl
   | succ k=>exact absurd ((a0 b).mp a1) (hne k b (at_cons.mp a2))
  | succ j =>
   cases k with
   | zero=>exact absurd ((a0 b).mp a2) (hne j b (at_cons.mp a1))
   | succ k =>
    have:=h.ne j k b (at_cons.mp a1) (at_cons.mp a2);omega
theorem Hs.write (h:Hs K H0 σ δ G H) {i:Nat} {p:Addr} {d d':D} {o:HO} (e:δ[i]? = some (.ow d)) (e1:σ[i]? = some (some (.ref p))) (w:Own K G (upd H p o) p d'):Hs K H0 σ (δ.set i (.ow d')) G (upd H p o):=by
 have hi:i < δ.length:=(List.getElem?_eq_some_iff.mp e).1;have ai:At σ δ i p:=⟨_,e,True.intro,e1⟩;have gp:G p = none:=by
  rcases h.ex p with ⟨_,z⟩ | ⟨z,_⟩
  ·exact absurd ai (z i)
  ·exact z
 have ati:∀ b,At σ (δ.set i (.ow d')) i b ↔ b = p:=λb=>by
  constructor
  ·rintro ⟨_,_,_,z⟩;rw [e1] at z;cases z;rfl
  ·rintro rfl;exact ⟨_,List.getElem?_set_self hi,True.intro,e1⟩
 have aeq:∀ j b,At σ (δ.set i (.ow d')) j b ↔ At σ δ j b:=λj b=>by
  by_cases hj:j = i
  ·subst hj
   rw [ati]
   constructor
   ·rintro rfl;exact ai
   ·rintro ⟨_,_,_,z⟩;rw [e1] at z;cases z;rfl
  ·exact Xbw hj
 have hne:∀ j b,j ≠ i -> At σ δ j b -> b ≠ p:=λj b hj a z=>by subst z;exact hj (h.ne j i b a ai)
 refine ⟨by rw [List.length_set];exact h.len,h.base,λb=>?_,λj d2 q=>?_,λj d2 q=>?_,λj q' es q=>?_,λj k b a1 a2=>h.ne j k b ((aeq j b).mp a1) ((aeq k b).mp a2)⟩
 ·by_cases hb:b = p
  ·subst hb;exact .inr ⟨gp,i,(ati b).mpr rfl⟩
  ·rw [Xad hb]
   rcases h.ex b with ⟨z1,z2⟩ | ⟨z1,j,z2⟩
   ·exact .inl ⟨z1,λj a=>z2 j ((aeq j b).mp a)⟩
   ·exact .inr ⟨z1,j,(aeq j b).mpr z2⟩
 ·by_cases hj:j = i
  ·subst hj;rw [List.getElem?_set_self hi] at q;cases q
  ·rw [List.getElem?_set_ne (Ne.symm hj)] at q;exact h.fr j d2 q
 ·by_cases hj:j = i
  ·subst hj;rw [List.getElem?_set_self hi] at q;cases q
   exact ⟨p,e1,w⟩
  ·rw [List.getElem?_set_ne (Ne.symm hj)] at q
   obtain ⟨b,w1,w2⟩:=h.ow j d2 q;exact ⟨b,w1,w2.mono (Same.refl _) (Xad (hne j b hj ⟨_,q,True.intro,w1⟩))⟩
 ·by_cases hj:j = i
  ·subst hj;rw [List.getElem?_set_self hi] at q;cases q
  ·rw [List.getElem?_set_ne (Ne.symm hj)] at q
   obtain ⟨w1,w2⟩:=h.lk j q' es q;exact ⟨w1,w2.mono (Same.refl _) (Xad (hne j q' hj ⟨_,q,True.intro,w1⟩))⟩
theorem Hs.writeL (h:Hs K H0 σ δ G H) {i:Nat} {p:Addr} {d d':D} {o:HO} (e:δ[i]? = some (.lk p d)) (e1:σ[i]? = some (some (.ref p))) (w:Own K G (upd H p o) p d'):Hs K H0 σ (δ.set i (.lk p d')) G (upd H p o):=by
 have hi:i < δ.length:=(List.getElem?_eq_some_iff.mp e).1;have ai:At σ δ i p:=⟨_,e,True.intro,e1⟩;have gp:G p = none:=by
  rcases h.ex p with ⟨_,z⟩ | ⟨z,_⟩
  ·exact absurd ai (z i)
  ·exact z
 have ati:∀ b,At σ (δ.set i (.lk p d')) i b ↔ b = p:=λb=>by
  constructor
  ·rintro ⟨_,_,_,z⟩;rw [e1] at z;cases z;rfl
  ·rintro rfl;exact ⟨_,List.getElem?_set_self hi,True.intro,e1⟩
 have aeq:∀ j b,At σ (δ.set i (.lk p d')) j b ↔ At σ δ j b:=λj b=>by
  by_cases hj:j = i
  ·subst hj
   rw [ati]
   constructor
   ·rintro rfl;exact ai
   ·rintro ⟨_,_,_,z⟩;rw [e1] at z;cases z;rfl
  ·exact Xbw hj
 have hne:∀ j b,j ≠ i -> At σ δ j b -> b ≠ p:=λj b hj a z=>by subst z;exact hj (h.ne j i b a ai)
 refine ⟨by rw [List.length_set];exact h.len,h.base,λb=>?_,λj d2 q=>?_,λj d2 q=>?_,λj q' es q=>?_,λj k b a1 a2=>h.ne j k b ((aeq j b).mp a1) ((aeq k b).mp a2)⟩
 ·by_cases hb:b = p
  ·subst hb;exact .inr ⟨gp,i,(ati b).mpr rfl⟩
  ·rw [Xad hb]
   rcases h.ex b with ⟨z1,z2⟩ | ⟨z1,j,z2⟩
   ·exact .inl ⟨z1,λj a=>z2 j ((aeq j b).mp a)⟩
   ·exact .inr ⟨z1,j,(aeq j b).mpr z2⟩
 ·by_cases hj:j = i
  ·subst hj;rw [List.getElem?_set_self hi] at q;cases q
  ·rw [List.getElem?_set_ne (Ne.symm hj)] at q;exact h.fr j d2 q
 ·by_cases hj:j = i
  ·subst hj;rw [List.getElem?_set_self hi] at q;cases q
  ·rw [List.getElem?_set_ne (Ne.symm hj)] at q
   obtain ⟨b,w1,w2⟩:=h.ow j d2 q;exact ⟨b,w1,w2.mono (Same.refl _) (Xad (hne j b hj ⟨_,q,True.intro,w1⟩))⟩
 ·by_cases hj:j = i
  ·subst hj;rw [List.getElem?_set_self hi] at q;cases q
   exact ⟨e1,w⟩
  ·rw [List.getElem?_set_ne (Ne.symm hj)] at q
   obtain ⟨w1,w2⟩:=h.lk j q' es q;exact ⟨w1,w2.mono (Same.refl _) (Xad (hne j q' hj ⟨_,q,True.intro,w1⟩))⟩
inductive Fg:List Sl -> List Sl -> Prop where
 | nil:Fg [] []
 | same {l:Sl} {a b:List Sl} (h:Fg a b):Fg (l :: a) (l :: b)
 | un {d:D} {a b:List Sl} (h:Fg a b):Fg (.fr d :: a) (.un :: b)
theorem Fg.refl:∀ a:List Sl,Fg a a
 | []=>.nil
 | _ :: a=>.same (Fg.refl a)
theorem Fg.get {a b:List Sl} (f:Fg a b):∀ i:Nat,b[i]? = a[i]? \/ (b[i]? = some .un /\ ∃ d,a[i]? = some (.fr d)):=by
 induction f with
 | nil=>exact λi=>.inl rfl
 | same h ih =>
  intro i
  cases i with
  | zero=>exact .inl rfl
  | succ i=>simpa using ih i
 | @un d a b h ih =>
  intro i
  cases i with
  | zero=>exact .inr ⟨rfl,d,rfl⟩
  | succ i=>simpa using ih i
theorem Fg.length {a b:List Sl} (f:Fg a b):a.length = b.length:=by
 induction f with
 | nil=>rfl
 | same _ ih=>simp [ih]
 | un _ ih=>simp [ih]
theorem Hs.forget {δ':List Sl} (h:Hs K H0 σ δ G H) (f:Fg δ δ'):Hs K H0 σ δ' G H:=by
 have ae:∀ i p,At σ δ' i p ↔ At σ δ i p:=λi p=>by
  unfold At
  rcases f.get i with e | ⟨e1,d,e2⟩
  ·rw [e]
  ·rw [e1,e2]
   constructor
   ·rintro ⟨l,z,m,_⟩;cases z;exact m.elim
   ·rintro ⟨l,z,m,_⟩;cases z;exact m.elim
 refine ⟨h.len.trans f.length,h.base,λb=>?_,λi d e=>?_,λi d e=>?_,λi p d e=>?_,λi j p a1 a2=>h.ne i j p ((ae i p).mp a1) ((ae j p).mp a2)⟩
 ·rcases h.ex b with ⟨z1,z2⟩ | ⟨z1,i,z2⟩
  ·exact .inl ⟨z1,λi a=>z2 i ((ae i b).mp a)⟩
  ·exact .inr ⟨z1,i,(ae i b).mpr z2⟩
 ·rcases f.get i with z | ⟨z,_⟩
  ·exact h.fr i d (z ▸ e)
  ·rw [z] at e;cases e
 ·rcases f.get i with z | ⟨z,_⟩
  ·exact h.ow i d (z ▸ e)
  ·rw [z] at e;cases e
 ·rcases f.get i with z | ⟨z,_⟩
  ·exact h.lk i p d (z ▸ e)
  ·rw [z] at e;cases e
end
def RepB (K:PySem.W.Frag) (G H:Hp):D -> V -> Prop
 | .non,v=>v = .non
 | .bl b,v=>v = .bl b
 | .int i,v=>v = .int i
 | .str x,v=>v = .str x
 | .adr p,v=>v = .ref p
 | .exc C o,v=>∃ a,v = .ref a /\ ExcRep G a C o
 | .tup xs,v=>∃ a vs,v = .ref a /\ H a = some (.tup vs) /\ Reps K G xs vs
 | .lst xs,v=>∃ a vs,v = .ref a /\ SqL K H a vs /\ Reps K G xs vs
 | .dK kvs,v=>∃ a kws,v = .ref a /\ Rd H a (.dK kws) /\ RepK K G kvs kws
 | .dT kvs,v=>∃ a kws,v = .ref a /\ Rd H a (.dT kws) /\ RepT K G kvs kws
section
variable {K:PySem.W.Frag} {H0:Hp} {σ:L2.St} {δ:List Sl} {G G' H H':Hp} {d:D} {v:V}
theorem Rep.b (s:Same G H) (h:Rep K G d v):RepB K G H d v:=by
 cases d with
 | tup xs=>simp only [Rep] at h;obtain ⟨a,vs,h1,h2,h3⟩:=h;exact ⟨a,vs,h1,s _ _ h2,h3⟩
 | lst xs=>simp only [Rep] at h;obtain ⟨a,vs,h1,h2,h3⟩:=h;exact ⟨a,vs,h1,s.seq h2,h3⟩
 | dK xs=>simp only [Rep] at h;obtain ⟨a,vs,h1,h2,h3⟩:=h;exact ⟨a,vs,h1,Xbj s h2,h3⟩
 | dT xs=>simp only [Rep] at h;obtain ⟨a,vs,h1,h2,h3⟩:=h;exact ⟨a,vs,h1,Xbj s h2,h3⟩
 | _=>simp only [Rep] at h;exact h
theorem RepB.mono (h:RepB K G H d v) (g:Same G G') (s:Same H H'):RepB K G' H' d v:=by
 cases d with
 | tup xs=>obtain ⟨a,vs,h1,h2,h3⟩:=h;exact ⟨a,vs,h1,s _ _ h2,Reps.mono g _ _ h3⟩
 | lst xs=>obtain ⟨a,vs,h1,h2,h3⟩:=h;exact ⟨a,vs,h1,s.seq h2,Reps.mono g _ _ h3⟩
 | dK xs=>obtain ⟨a,vs,h1,h2,h3⟩:=h;exact ⟨a,vs,h1,Xbj s h2,RepK.mono g _ _ h3⟩
 | dT xs=>obtain ⟨a,vs,h1,h2,h3⟩:=h;exact ⟨a,vs,h1,Xbj s h2,RepT.mono g _ _ h3⟩
 | exc C o=>obtain ⟨a,h1,h2⟩:=h;exact ⟨a,h1,h2.to λb φ q=>g _ _ q⟩
 | _=>exact h
theorem Own.b {p:Addr} (h:Own K G H p d):RepB K G H d (.ref p):=by
 cases d with
 | lst ds=>obtain ⟨vs,h1,h2⟩:=h;exact ⟨p,vs,rfl,SqL.of h1,h2⟩
 | dK ds=>obtain ⟨vs,h1,h2⟩:=h;exact ⟨p,vs,rfl,.inl h1,h2⟩
 | dT ds=>obtain ⟨vs,h1,h2⟩:=h;exact ⟨p,vs,rfl,.inl h1,h2⟩
 | _=>exact h.elim
theorem RepB.all (h:RepB K G H d v) (s:Same G H):Rep K H d v:=by
 cases d with
 | tup xs=>obtain ⟨a,vs,h1,h2,h3⟩:=h;simp only [Rep];exact ⟨a,vs,h1,h2,Reps.mono s _ _ h3⟩
 | lst xs=>obtain ⟨a,vs,h1,h2,h3⟩:=h;simp only [Rep];exact ⟨a,vs,h1,h2,Reps.mono s _ _ h3⟩
 | dK xs=>obtain ⟨a,vs,h1,h2,h3⟩:=h;simp only [Rep];exact ⟨a,vs,h1,h2,RepK.mono s _ _ h3⟩
 | dT xs=>obtain ⟨a,vs,h1,h2,h3⟩:=h;simp only [Rep];exact ⟨a,vs,h1,h2,RepT.mono s _ _ h3⟩
 | exc C o=>obtain ⟨a,h1,h2⟩:=h;simp only [Rep];exact ⟨a,h1,h2.to λb φ q=>s _ _ q⟩
 | _=>simp only [Rep];exact h
end
structure Nx (K:PySem.W.Frag) (H0:Hp) (σ:L2.St) (δ:List Sl) (G H G' H':Hp):Prop where
 hs:Hs K H0 σ δ G' H'
 g:Same G G'
 h:Same H H'
theorem Nx.refl {K:PySem.W.Frag} {H0:Hp} {σ:L2.St} {δ:List Sl} {G H:Hp} (h:Hs K H0 σ δ G H):Nx K H0 σ δ G H G H:=⟨h,Same.refl _,Same.refl _⟩
theorem Nx.trans {K:PySem.W.Frag} {H0:Hp} {σ:L2.St} {δ:List Sl} {G H G' H' G2 H2:Hp} (a:Nx K H0 σ δ G H G' H') (b:Nx K H0 σ δ G' H' G2 H2):Nx K H0 σ δ G H G2 H2:=⟨b.hs,a.g.trans b.g,a.h.trans b.h⟩
abbrev RE:=List Sl -> (D -> Prop) -> Prop
abbrev RT:=List Sl -> (Bool -> Prop) -> Prop
abbrev RA:=List Sl -> (List D -> Prop) -> Prop
def liftE (K:PySem.W.Frag) (H0:Hp) (t:RE):TE:=λσ H Q=>∃ δ G Qd,Hs K H0 σ δ G H /\ t δ Qd /\ ∀ v H' G' d,Nx K H0 σ δ G H G' H' -> Rep K G' d v -> Qd d -> Q v H'
def liftB (K:PySem.W.Frag) (H0:Hp) (t:RE):TE:=λσ H Q=>∃ δ G Qd,Hs K H0 σ δ G H /\ t δ Qd /\ ∀ v H' G' d,Nx K H0 σ δ G H G' H' -> RepB K G' H' d v -> Qd d -> Q v H'
def liftN (K:PySem.W.Frag) (H0:Hp) (t:RE):TE:=λσ H Q=>∃ δ G Qd,Hs K H0 σ δ G H /\ t δ Qd /\ ∀ v H' G' d,Hs K H0 (some v :: σ) (.ow d :: δ) G' H' -> Same G G' -> Same H H' -> Qd d -> Q v H'
def liftT (K:PySem.W.Frag) (H0:Hp) (t:RT):TT:=λσ H Q=>∃ δ G Qd,Hs K H0 σ δ G H /\ t δ Qd /\ ∀ b H' G',Nx K H0 σ δ G H G' H' -> Qd b -> Q b H'
def liftA (K:PySem.W.Frag) (H0:Hp) (t:RA):TA:=λσ H Q=>∃ δ G Qd,Hs K H0 σ δ G H /\ t δ Qd /\ ∀ vs H' G' ds,Nx K H0 σ δ G H G' H' -> Reps K G' ds vs -> Qd ds -> Q vs H'
def PE2 (X:Cx) (H0:Hp) (e:Expr) (t:RE):Prop:=PE X e (liftE X.K H0 t)
def PB2 (X:Cx) (H0:Hp) (e:Expr) (t:RE):Prop:=PE X e (liftB X.K H0 t)
def PN2 (X:Cx) (H0:Hp) (e:Expr) (t:RE):Prop:=PE X e (liftN X.K H0 t)
def PT2 (X:Cx) (H0:Hp) (e:Expr) (t:RT):Prop:=PT X e (liftT X.K H0 t)
def PW2 (X:Cx) (H0:Hp) (e:Expr) (t:RT):Prop:=PW X e (liftT X.K H0 t)
def PA2 (X:Cx) (H0:Hp) (es:List Expr) (t:RA):Prop:=PA X es (liftA X.K H0 t)
theorem PE.weak {X:Cx} {e:Expr} {t t':TE} (h:PE X e t) (k:∀ σ H Q,t' σ H Q -> t σ H Q):PE X e t':=λpins s σ H Q I hw=>h pins s σ H Q I (k σ H Q hw)
theorem PT.weak {X:Cx} {e:Expr} {t t':TT} (h:PT X e t) (k:∀ σ H Q,t' σ H Q -> t σ H Q):PT X e t':=λpins s σ H Q I hw=>h pins s σ H Q I (k σ H Q hw)
theorem PW.weak {X:Cx} {e:Expr} {t t':TT} (h:PW X e t) (k:∀ σ H Q,t' σ H Q -> t σ H Q):PW X e t':=λwhole pins s σ H Q I hw=>h whole pins s σ H Q I (k σ H Q hw)
theorem PA.weak {X:Cx} {e:List Expr} {t t':TA} (h:PA X e t) (k:∀ σ H Q,t' σ H Q -> t σ H Q):PA X e t':=λpos pins s σ H Q I hw=>h pos pins s σ H Q I (k σ H Q hw)
theorem PS.weak {X:Cx} {e:Stmt} {t t':TS} (h:PS X e t) (k:∀ D σ H,t' D σ H -> t D σ H):PS X e t':=λpins s σ H Q I hw=>h pins s σ H Q I (k Q σ H hw)
theorem PSs.weak {X:Cx} {e:List Stmt} {t t':TS} (h:PSs X e t) (k:∀ D σ H,t' D σ H -> t D σ H):PSs X e t':=λpins s σ H Q I hw=>h pins s σ H Q I (k Q σ H hw)
section
variable {X:Cx} {H0:Hp} {e a b c:Expr} {t ta tb tc:RE} {pos:Pos}
theorem PE2.bo (h:PE2 X H0 e t):PB2 X H0 e t:=PE.weak h λσ H Q ⟨δ,G,Qd,hs,ht,k⟩=>⟨δ,G,Qd,hs,ht,λv H' G' d n r q=>k v H' G' d n (Rep.b n.hs.sub r) q⟩
theorem PN2.fx (h:PN2 X H0 e t):PE2 X H0 e t:=PE.weak h λσ H Q ⟨δ,G,Qd,hs,ht,k⟩=>⟨δ,G,Qd,hs,ht,λv H' G' d n sg sh q=>by
 obtain ⟨G2,n2,s2,r2⟩:=n.settle
 exact k v H' G2 d ⟨n2,sg.trans s2,sh⟩ r2 q⟩
theorem PN2.bo (h:PN2 X H0 e t):PB2 X H0 e t:=h.fx.bo
def rC (d:D) (_:List Sl) (Q:D -> Prop):Prop:=Q d
def rVar (i:Nat) (δ:List Sl) (Q:D -> Prop):Prop:=match δ[i]? with
 | some (.fr d)=>Q d
 | _=>False
def rVarB (i:Nat) (δ:List Sl) (Q:D -> Prop):Prop:=match δ[i]? with
 | some (.fr d)=>Q d
 | some (.ow d)=>Q d
 | some (.lk _ d)=>Q d
 | _=>False
theorem e_var (i:Nat) {x:Str} {pos:Pos} (hN:X.N[i]? = some x:=by rfl) (hv:Vis X.env.scope x:=by first | exact Or.inl rfl | exact Or.inr (Or.inl rfl) | exact Or.inr (Or.inr rfl)) (hd:(x == ("__debug__" : Str)) = false:=by decide)
 (hcd:(x == ("__classdict__" : Str)) = false:=by decide):PE2 X H0 (.Name x pos) (rVar i):=PE.weak (Xhi hN hv hd hcd) λσ H Q ⟨δ,G,Qd,hs,ht,k⟩=>by
  unfold rVar at ht
  split at ht
  · rename_i d e
    obtain ⟨v,e1,r⟩:=hs.fr i d e;exact ⟨v,e1,k v H G d (Nx.refl hs) r ht⟩
  · exact ht.elim
theorem b_var (i:Nat) {x:Str} {pos:Pos} (hN:X.N[i]? = some x:=by rfl) (hv:Vis X.env.scope x:=by first | exact Or.inl rfl | exact Or.inr (Or.inl rfl) | exact Or.inr (Or.inr rfl)) (hd:(x == ("__debug__" : Str)) = false:=by decide)
 (hcd:(x == ("__classdict__" : Str)) = false:=by decide):PB2 X H0 (.Name x pos) (rVarB i):=PE.weak (Xhi hN hv hd hcd) λσ H Q ⟨δ,G,Qd,hs,ht,k⟩=>by
  unfold rVarB at ht
  split at ht
  · rename_i d e
    obtain ⟨v,e1,r⟩:=hs.fr i d e;exact ⟨v,e1,k v H G d (Nx.refl hs) (Rep.b hs.sub r) ht⟩
  · rename_i d e
    obtain ⟨p,e1,o⟩:=hs.ow i d e;exact ⟨_,e1,k _ H G d (Nx.refl hs) o.b ht⟩
  · rename_i p d e
    obtain ⟨e1,o⟩:=hs.lk i p d e;exact ⟨_,e1,k _ H G d (Nx.refl hs) o.b ht⟩
  · exact ht.elim
theorem cst {d:D} {v:V} (h:PE X e (tC v)) (r:∀ G,Rep X.K G d v):PE2 X H0 e (rC d):=PE.weak h λσ H Q ⟨δ,G,Qd,hs,ht,k⟩=>k v H G d (Nx.refl hs) (r G) ht
theorem e_int {i:Int} {j:Nat} {pos:Pos}:PE2 X H0 (.Constant (.int i) j pos) (rC (.int i)):=cst Xvg λ_=>by simp only [Rep]
theorem e_bl {b:Bool} {j:Nat} {pos:Pos}:PE2 X H0 (.Constant (.bool b) j pos) (rC (.bl b)):=cst pe_bl λ_=>by simp only [Rep]
theorem e_non {j:Nat} {pos:Pos}:PE2 X H0 (.Constant .none j pos) (rC .non):=cst Xve λ_=>by simp only [Rep]
theorem e_str {x:Str} {j:Nat} {pos:Pos}:PE2 X H0 (.Constant (.str x) j pos) (rC (.str x)):=cst Xvb λ_=>by simp only [Rep]
def Lf2 (K:PySem.W.Frag) (r:R2) (r2:D -> D -> (D -> Prop) -> Prop):Prop :=
 ∀ (H0:Hp) (σ:L2.St) (δ:List Sl) (G H:Hp) (x y:V) (dx dy:D) (Qd:D -> Prop) (Q:VK),Hs K H0 σ δ G H -> RepB K G H dx x -> RepB K G H dy y -> r2 dx dy Qd ->
  (∀ v H' G' d,Nx K H0 σ δ G H G' H' -> Rep K G' d v -> Qd d -> Q v H') -> r x y H Q
def rOp (r2:D -> D -> (D -> Prop) -> Prop) (ta tb:RE) (δ:List Sl) (Q:D -> Prop):Prop:=ta δ λx=>tb δ λy=>r2 x y Q
theorem Xbv {r:R2} {r2:D -> D -> (D -> Prop) -> Prop} (lf:Lf2 X.K r r2):∀ σ H Q,liftE X.K H0 (rOp r2 ta tb) σ H Q -> tOp r (liftB X.K H0 ta) (liftB X.K H0 tb) σ H Q :=
 λσ H Q ⟨δ,G,Qd,hs,ht,k⟩=>⟨δ,G,_,hs,ht,λv H1 G1 d1 n1 r1 q1=>⟨δ,G1,_,n1.hs,q1,λv2 H2 G2 d2 n2 r2 q2 =>
  lf H0 σ δ G2 H2 v v2 d1 d2 Qd Q n2.hs (r1.mono n2.g n2.h) r2 q2 λv3 H3 G3 d3 n3 r3 q3=>k v3 H3 G3 d3 ((n1.trans n2).trans n3) r3 q3⟩⟩
theorem e_op {op:Operator} {r:R2} {r2:D -> D -> (D -> Prop) -> Prop} (ho:OpR X (binaryOp op) r) (lf:Lf2 X.K r r2) (ha:PB2 X H0 a ta) (hb:PB2 X H0 b tb):PE2 X H0 (.BinOp a op b pos) (rOp r2 ta tb) :=
 PE.weak (pe_op ho ha hb) (Xbv lf)
theorem e_cmp {op:CmpOp} {r:R2} {r2:D -> D -> (D -> Prop) -> Prop} (ho:OpR X (compareOp op) r) (lf:Lf2 X.K r r2) (ha:PB2 X H0 a ta) (hb:PB2 X H0 b tb) (hm:behindInMarks op b = false):PE2 X H0 (.Compare a [op] [b] pos) (rOp r2 ta tb) :=
 PE.weak (Xsq ho ha hb hm) (Xbv lf)
def rTest (t:RE) (δ:List Sl) (Q:Bool -> Prop):Prop:=t δ λd=>match d with
 | .bl k=>Q k
 | _=>False
theorem Xcl {t':TE} (h:∀ σ H Q,liftE X.K H0 t σ H Q -> t' σ H Q):∀ σ H Q,liftT X.K H0 (rTest t) σ H Q -> tTest t' σ H Q:=λσ H Q ⟨δ,G,Qd,hs,ht,k⟩=>h σ H _ ⟨δ,G,_,hs,ht,λv H' G' d n r q=>by
 cases d with
 | bl x=>exact ⟨x,by simpa only [Rep] using r,k x H' G' n q⟩
 | _=>exact q.elim⟩
theorem t_cmp {op:CmpOp} {r:R2} {r2:D -> D -> (D -> Prop) -> Prop} (ho:OpR X (compareOp op) r) (lf:Lf2 X.K r r2) (ha:PB2 X H0 a ta) (hb:PB2 X H0 b tb) (hm:behindInMarks op b = false):PT2 X H0 (.Compare a [op] [b] pos) (rTest (rOp r2 ta tb)) :=
 PT.weak (Xse ho ha hb hm) (Xcl (Xbv lf))
def dI (C:Int -> Int -> Prop) (g:Int -> Int -> D) (x y:D) (Q:D -> Prop):Prop:=match x,y with
 | .int i,.int j=>C i j /\ Q (g i j)
 | _,_=>False
def dI0 (g:Int -> Int -> D) (x y:D) (Q:D -> Prop):Prop:=match x,y with
 | .int i,.int j=>Q (g i j)
 | _,_=>False
theorem lf_i {K:PySem.W.Frag} {C:Int -> Int -> Prop} {g:Int -> Int -> V} {g2:Int -> Int -> D} (hg:∀ G i j,Rep K G (g2 i j) (g i j)):Lf2 K (rI C g) (dI C g2):=λH0 σ δ G H x y dx dy Qd Q hs rx ry h k=>by
 cases dx <;> cases dy <;> first | exact h.elim | skip
 rename_i i j;obtain rfl:x = .int i:=rx;obtain rfl:y = .int j:=ry;exact ⟨i,j,rfl,rfl,h.1,k _ H G _ (Nx.refl hs) (hg G i j) h.2⟩
theorem lf_i0 {K:PySem.W.Frag} {g:Int -> Int -> V} {g2:Int -> Int -> D} (hg:∀ G i j,Rep K G (g2 i j) (g i j)):Lf2 K (rI0 g) (dI0 g2):=λH0 σ δ G H x y dx dy Qd Q hs rx ry h k=>by
 cases dx <;> cases dy <;> first | exact h.elim | skip
 rename_i i j;obtain rfl:x = .int i:=rx;obtain rfl:y = .int j:=ry;exact ⟨i,j,rfl,rfl,k _ H G _ (Nx.refl hs) (hg G i j) h⟩
theorem Xjz {K:PySem.W.Frag} {C:Int -> Int -> Prop} (g:Int -> Int -> Int):Lf2 K (rI C λi j=>.int (g i j)) (dI C λi j=>.int (g i j)):=lf_i λ_ _ _=>by simp only [Rep]
theorem Xth {K:PySem.W.Frag} (g:Int -> Int -> Int):Lf2 K (rI0 λi j=>.int (g i j)) (dI0 λi j=>.int (g i j)):=lf_i0 λ_ _ _=>by simp only [Rep]
theorem Xnj {K:PySem.W.Frag} (g:Int -> Int -> Bool):Lf2 K (rI0 λi j=>.bl (g i j)) (dI0 λi j=>.bl (g i j)):=lf_i0 λ_ _ _=>by simp only [Rep]
def CDv (i j:Int):Prop:=0 < j /\ j < 2 ^ 200
theorem Xpo:OpR X (binaryOp .FloorDiv) (rI CDv λi j=>.int (i / j)):=opI λi j _ _ _ _ _ hc q=>by
 have e:i.fdiv j = i / j:=Int.fdiv_eq_ediv_of_nonneg i (Int.le_of_lt hc.1);have hl:j.natAbs.log2 < 200:=by
  have h0:j.natAbs ≠ 0:=by have:=hc.1;omega
  refine (Nat.log2_lt h0).mpr ?_;have:=hc.2;have h1:((j.natAbs:Nat):Int) = j:=by have:=hc.1;omega
  have h2:((j.natAbs:Nat):Int) < ((2 ^ 200:Nat):Int):=by rw [h1];exact this
  exact Int.ofNat_lt.mp h2
 refine floordiv_int (Int.ne_of_gt hc.1) ?_ (.inl (PyProof.noPylong_of_log2 (by omega)));rw [e];exact q
theorem e_add (ha:PB2 X H0 a ta) (hb:PB2 X H0 b tb):PE2 X H0 (.BinOp a .Add b pos) (rOp (dI0 λi j=>.int (i + j)) ta tb):=e_op Xvp (Xth _) ha hb
theorem e_mul (ha:PB2 X H0 a ta) (hb:PB2 X H0 b tb):PE2 X H0 (.BinOp a .Mult b pos) (rOp (dI CMul λi j=>.int (i * j)) ta tb):=e_op Xvm (Xjz _) ha hb
theorem e_fdiv (ha:PB2 X H0 a ta) (hb:PB2 X H0 b tb):PE2 X H0 (.BinOp a .FloorDiv b pos) (rOp (dI CDv λi j=>.int (i / j)) ta tb):=e_op Xpo (Xjz _) ha hb
theorem e_mod (ha:PB2 X H0 a ta) (hb:PB2 X H0 b tb):PE2 X H0 (.BinOp a .Mod b pos) (rOp (dI (λ_ j=>0 < j) λi j=>.int (i % j)) ta tb):=e_op Xvn (Xjz _) ha hb
theorem e_pow (ha:PB2 X H0 a ta) (hb:PB2 X H0 b tb):PE2 X H0 (.BinOp a .Pow b pos) (rOp (dI CPow λi j=>.int (i ^ j.toNat)) ta tb):=e_op Xvl (Xjz _) ha hb
abbrev dLt:=dI0 λi j=>.bl (decide (i < j))
abbrev dGt:=dI0 λi j=>.bl (decide (j < i))
abbrev dGe:=dI0 λi j=>.bl (decide (j <= i))
theorem lf_lt {K:PySem.W.Frag}:Lf2 K (rI0 λi j=>.bl (decide (i < j))) dLt:=Xnj _
theorem lf_gt {K:PySem.W.Frag}:Lf2 K (rI0 λi j=>.bl (decide (j < i))) dGt:=Xnj _
theorem lf_ge {K:PySem.W.Frag}:Lf2 K (rI0 λi j=>.bl (decide (j <= i))) dGe:=Xnj _
def dEqS (neg:Bool) (x y:D) (Q:D -> Prop):Prop:=match x,y with
 | .int i,.int j=>Q (.bl (neg != decide (i = j)))
 | .bl i,.bl j=>Q (.bl (neg != decide (i = j)))
 | .str i,.str j=>Q (.bl (neg != decide (i = j)))
 | _,_=>False
theorem Xdc {α β:Type} [DecidableEq α] [DecidableEq β] {f:α -> β} (hf:∀ a b,f a = f b -> a = b) (a b:α):decide (f a = f b) = decide (a = b):=by
 by_cases h:a = b
 ·subst h;simp
 ·rw [decide_eq_false h,decide_eq_false λz=>h (hf _ _ z)]
theorem Xdj {K:PySem.W.Frag}:Lf2 K rEq (dEqS false):=λH0 σ δ G H x y dx dy Qd Q hs rx ry h k=>by
 cases dx <;> cases dy <;> first | exact h.elim | skip
 ·rename_i i j
  obtain rfl:x = .bl i:=rx;obtain rfl:y = .bl j:=ry;exact ⟨rfl,k _ H G _ (Nx.refl hs) (by simp only [Rep];rw [Xdc (f:=V.bl) (λa b z=>by cases z;rfl)];simp) h⟩
 ·rename_i i j
  obtain rfl:x = .int i:=rx;obtain rfl:y = .int j:=ry;exact ⟨rfl,k _ H G _ (Nx.refl hs) (by simp only [Rep];rw [Xdc (f:=V.int) (λa b z=>by cases z;rfl)];simp) h⟩
 ·rename_i i j
  obtain rfl:x = .str i:=rx;obtain rfl:y = .str j:=ry;exact ⟨rfl,k _ H G _ (Nx.refl hs) (by simp only [Rep];rw [Xdc (f:=V.str) (λa b z=>by cases z;rfl)];simp) h⟩
theorem Xni {K:PySem.W.Frag}:Lf2 K rNe (dEqS true):=λH0 σ δ G H x y dx dy Qd Q hs rx ry h k=>by
 cases dx <;> cases dy <;> first | exact h.elim | skip
 ·rename_i i j
  obtain rfl:x = .bl i:=rx;obtain rfl:y = .bl j:=ry;exact ⟨rfl,k _ H G _ (Nx.refl hs) (by simp only [Rep];rw [Xdc (f:=V.bl) (λa b z=>by cases z;rfl)];simp) h⟩
 ·rename_i i j
  obtain rfl:x = .int i:=rx;obtain rfl:y = .int j:=ry;exact ⟨rfl,k _ H G _ (Nx.refl hs) (by simp only [Rep];rw [Xdc (f:=V.int) (λa b z=>by cases z;rfl)];simp) h⟩
 ·rename_i i j
  obtain rfl:x = .str i:=rx;obtain rfl:y = .str j:=ry;exact ⟨rfl,k _ H G _ (Nx.refl hs) (by simp only [Rep];rw [Xdc (f:=V.str) (λa b z=>by cases z;rfl)];simp) h⟩
end
structure Two (b:Bool) (A B:Prop):Prop where
 yes:b = true -> A
 no:b = false -> B
theorem Two.t {A B:Prop} (h:A):Two true A B:=⟨(λ_=>h),(λz=>by cases z)⟩
theorem Two.f {A B:Prop} (h:B):Two false A B:=⟨(λz=>by cases z),(λ_=>h)⟩
theorem Two.dec {p:Prop} [Decidable p] {A B:Prop} (h1:p -> A) (h2:¬ p -> B):Two (decide p) A B:=⟨λz=>h1 (of_decide_eq_true z),λz=>h2 (of_decide_eq_false z)⟩
section
variable {X:Cx} {H0:Hp} {e a b c:Expr} {t ta tb tc:RE} {u uA uB:RT} {pos:Pos} {rest:List Expr}
def rAnd (t u:RT) (δ:List Sl) (Q:Bool -> Prop):Prop:=t δ λk=>Two k (u δ Q) (Q false)
def rOr (t u:RT) (δ:List Sl) (Q:Bool -> Prop):Prop:=t δ λk=>Two k (Q true) (u δ Q)
def rNot (t:RT) (δ:List Sl) (Q:Bool -> Prop):Prop:=t δ λk=>Q (!k)
theorem PW2.pt (h:PW2 X H0 e u):PT2 X H0 e u:=PW.pt h
theorem t_and1 (ha:PT2 X H0 a uA):PW2 X H0 (.BoolOp .And [a] pos) uA:=Xsd ha
theorem t_or1 (ha:PT2 X H0 a uA):PW2 X H0 (.BoolOp .Or [a] pos) uA:=Xus ha
theorem t_and (ha:PT2 X H0 a uA) (hb:PW2 X H0 (.BoolOp .And (b :: rest) pos) uB):PW2 X H0 (.BoolOp .And (a :: b :: rest) pos) (rAnd uA uB) :=
 PW.weak (Xut ha hb) λσ H Q ⟨δ,G,Qd,hs,ht,k⟩=>⟨δ,G,_,hs,ht,λx H1 G1 n1 q1=>by
  cases x with
  | true=>replace q1:=q1.yes rfl;rw [if_pos rfl];exact ⟨δ,G1,Qd,n1.hs,q1,λy H2 G2 n2 q2=>k y H2 G2 (n1.trans n2) q2⟩
  | false=>replace q1:=q1.no rfl;rw [if_neg Bool.false_ne_true];exact k false H1 G1 n1 q1⟩
theorem t_or (ha:PT2 X H0 a uA) (hb:PW2 X H0 (.BoolOp .Or (b :: rest) pos) uB):PW2 X H0 (.BoolOp .Or (a :: b :: rest) pos) (rOr uA uB) :=
 PW.weak (pw_or ha hb) λσ H Q ⟨δ,G,Qd,hs,ht,k⟩=>⟨δ,G,_,hs,ht,λx H1 G1 n1 q1=>by
  cases x with
  | false=>replace q1:=q1.no rfl;rw [if_neg Bool.false_ne_true];exact ⟨δ,G1,Qd,n1.hs,q1,λy H2 G2 n2 q2=>k y H2 G2 (n1.trans n2) q2⟩
  | true=>replace q1:=q1.yes rfl;rw [if_pos rfl];exact k true H1 G1 n1 q1⟩
theorem t_not (ha:PT2 X H0 a uA):PT2 X H0 (.UnaryOp .Not a pos) (rNot uA) :=
 PT.weak (Xuw ha) λσ H Q ⟨δ,G,Qd,hs,ht,k⟩=>⟨δ,G,_,hs,ht,λx H1 G1 n1 q1=>k (!x) H1 G1 n1 q1⟩
theorem t_val (h:PE2 X H0 e t) (he:∀ whole,isTrue e X.env whole = (do let v <- whole;standAt e.pos;holding [v] (truthy v)):=by intro _;rfl):PT2 X H0 e (rTest t) :=
 PT.weak (Xuv h he) (Xcl (t':=liftE X.K H0 t) λ_ _ _ z=>z)
def bl? (d:D) (Q:Bool -> Prop):Prop:=match d with
 | .bl k=>Q k
 | _=>False
theorem bl_of {K:PySem.W.Frag} {G:Hp} {d:D} {v:V} {Q:Bool -> Prop} (h:bl? d Q) (r:Rep K G d v):∃ k,d = .bl k /\ v = .bl k /\ Q k:=by
 cases d with
 | bl k=>exact ⟨k,rfl,by simpa only [Rep] using r,h⟩
 | _=>exact h.elim
def rAndV (ta tb:RE) (δ:List Sl) (Q:D -> Prop):Prop:=ta δ λx=>bl? x λk=>Two k (tb δ Q) (Q (.bl false))
def rNotV (ta:RE) (δ:List Sl) (Q:D -> Prop):Prop:=ta δ λx=>bl? x λk=>Q (.bl (!k))
theorem e_one {op:BoolOp} (ha:PE2 X H0 a ta):PE2 X H0 (.BoolOp op [a] pos) ta:=Xvc ha
theorem e_and (ha:PE2 X H0 a ta) (hb:PE2 X H0 (.BoolOp .And (b :: rest) pos) tb):PE2 X H0 (.BoolOp .And (a :: b :: rest) pos) (rAndV ta tb) :=
 PE.weak (Xvi ha hb) λσ H Q ⟨δ,G,Qd,hs,ht,k⟩=>⟨δ,G,_,hs,ht,λv H1 G1 d n1 r1 q1=>by
  obtain ⟨x,rfl,rfl,q1⟩:=bl_of q1 r1;refine ⟨x,rfl,?_⟩
  cases x with
  | true=>replace q1:=q1.yes rfl;rw [if_pos rfl];exact ⟨δ,G1,Qd,n1.hs,q1,λv2 H2 G2 d2 n2 r2 q2=>k v2 H2 G2 d2 (n1.trans n2) r2 q2⟩
  | false=>replace q1:=q1.no rfl;rw [if_neg Bool.false_ne_true];exact k _ H1 G1 _ n1 (by simp only [Rep]) q1⟩
theorem e_not (ha:PE2 X H0 a ta):PE2 X H0 (.UnaryOp .Not a pos) (rNotV ta) :=
 PE.weak (Xvd ha) λσ H Q ⟨δ,G,Qd,hs,ht,k⟩=>⟨δ,G,_,hs,ht,λv H1 G1 d n1 r1 q1=>by
  obtain ⟨x,rfl,rfl,q1⟩:=bl_of q1 r1
  exact ⟨x,rfl,k _ H1 G1 _ n1 (by simp only [Rep]) q1⟩⟩
def rNeg (ta:RE) (δ:List Sl) (Q:D -> Prop):Prop:=ta δ λx=>match x with
 | .int i=>Q (.int (-i))
 | _=>False
variable {es:List Expr} {tr:RA}
def rNil (_:List Sl) (Q:List D -> Prop):Prop:=Q []
def rCons (t:RE) (r:RA) (δ:List Sl) (Q:List D -> Prop):Prop:=t δ λd=>r δ λds=>Q (d :: ds)
theorem a_nil:PA2 X H0 [] rNil:=PA.weak Xcj λσ H Q ⟨δ,G,Qd,hs,ht,k⟩=>k [] H G [] (Nx.refl hs) Reps.nil ht
theorem a_cons (ha:PE2 X H0 e t) (hr:PA2 X H0 es tr) (hs:starEach (e :: es) X.env = (false,eval e X.env) :: starEach es X.env:=by rfl):PA2 X H0 (e :: es) (rCons t tr) :=
 PA.weak (Xbc ha hr hs) λσ H Q ⟨δ,G,Qd,hs,ht,k⟩=>⟨δ,G,_,hs,ht,λv H1 G1 d n1 r1 q1=>⟨δ,G1,_,n1.hs,q1,λvs H2 G2 ds n2 r2 q2=>k (v :: vs) H2 G2 (d :: ds) (n1.trans n2) (Reps.cons (Rep.mono n2.g _ _ r1) r2) q2⟩⟩
def rTupD (r:RA) (δ:List Sl) (Q:D -> Prop):Prop:=r δ λds=>ds.length <= sizeLine /\ Q (.tup ds)
def rLstD (r:RA) (δ:List Sl) (Q:D -> Prop):Prop:=r δ λds=>ds.length <= sizeLine /\ Q (.lst ds)
theorem Xal {H:Hp} {p:Addr} {o:HO} (n:H p = none):Same H (upd H p o):=λb u q=>by rw [Xad (Xaf q n)];exact q
theorem e_tup {x1} (h:PA2 X H0 es tr):PE2 X H0 (.Tuple es x1 pos) (rTupD tr) :=
 PE.weak (Xva h) λσ H Q ⟨δ,G,Qd,hs,ht,k⟩=>⟨δ,G,_,hs,ht,λvs H1 G1 ds n1 r1 q1=>⟨by rw [<- r1.length];exact q1.1,λp hp=>by
  obtain ⟨h2,s2⟩:=n1.hs.laid (o:=.tup vs) hp
  exact k _ _ _ (.tup ds) ⟨h2,n1.g.trans s2,n1.h.trans (Xal hp)⟩ (by simp only [Rep];exact ⟨p,vs,rfl,Xac,Reps.mono s2 _ _ r1⟩) q1.2⟩⟩
theorem n_lst (h:PA2 X H0 es tr):PN2 X H0 (.List es pos) (rLstD tr) :=
 PE.weak (Xvf h) λσ H Q ⟨δ,G,Qd,hs,ht,k⟩=>⟨δ,G,_,hs,ht,λvs H1 G1 ds n1 r1 q1=>⟨by rw [<- r1.length];exact q1.1,λp hp =>
  k _ _ G1 (.lst ds) (n1.hs.fresh hp ⟨vs,Xac,r1⟩) n1.g (n1.h.trans (Xal hp)) q1.2⟩⟩
def Xqs (_:List Sl) (Q:D -> Prop):Prop:=Q (.dK [])
def Xqr (_:List Sl) (Q:D -> Prop):Prop:=Q (.dT [])
theorem n_dK {pos:Pos}:PN2 X H0 (.Dict [] [] pos) Xqs :=
 PE.weak Xpl λσ H Q ⟨δ,G,Qd,hs,ht,k⟩ p hp=>k _ _ G (.dK []) (hs.fresh hp ⟨[],Xac,by simp only [RepK]⟩) (Same.refl _) (Xal hp) ht
theorem n_dT {pos:Pos}:PN2 X H0 (.Dict [] [] pos) Xqr :=
 PE.weak Xpk λσ H Q ⟨δ,G,Qd,hs,ht,k⟩ p hp=>k _ _ G (.dT []) (hs.fresh hp ⟨[],Xac,by simp only [RepT]⟩) (Same.refl _) (Xal hp) ht
def dIx (x y:D) (Q:D -> Prop):Prop:=match x,y with
 | .lst ds,.int i=>∃ d,atI ds i = some d /\ Q d
 | .tup ds,.int i=>∃ d,atI ds i = some d /\ Q d
 | _,_=>False
theorem Xon {K:PySem.W.Frag} {G:Hp} {ds:List D} {vs:List V} {i:Int} {d:D} (r:Reps K G ds vs) (h:atI ds i = some d):∃ v,atI vs i = some v /\ Rep K G d v:=by
 unfold atI at h ⊢;rw [<- r.length]
 cases q:ixN ds.length i with
 | none=>rw [q] at h;cases h
 | some j =>
  rw [q] at h;exact r.get h
theorem lf_ix {K:PySem.W.Frag}:Lf2 K (rIx K) dIx:=λH0 σ δ G H x y dx dy Qd Q hs rx ry h k=>by
 cases dx <;> cases dy <;> first | exact h.elim | skip
 ·rename_i ds i
  obtain ⟨a,vs,rfl,h2,h3⟩:=rx;obtain rfl:y = .int i:=ry;obtain ⟨d,q,h'⟩:=h;obtain ⟨v,e1,r1⟩:=Xon h3 q;exact .inr (.inl ⟨a,vs,i,v,rfl,rfl,SqT.of h2,e1,k _ H G _ (Nx.refl hs) r1 h'⟩)
 ·rename_i ds i
  obtain ⟨a,vs,rfl,h2,h3⟩:=rx;obtain rfl:y = .int i:=ry;obtain ⟨d,q,h'⟩:=h;obtain ⟨v,e1,r1⟩:=Xon h3 q;exact .inl ⟨a,vs,i,v,rfl,rfl,h2,e1,k _ H G _ (Nx.refl hs) r1 h'⟩
theorem e_ix (ha:PB2 X H0 a ta) (hb:PB2 X H0 b tb) (hp:Xjg b:=by intro _ _;rfl):PE2 X H0 (.Subscript a b pos) (rOp dIx ta tb) :=
 PE.weak (pe_ix Xwk ha hb hp) (Xbv lf_ix)
abbrev RO:=List Sl -> (Option Int -> Prop) -> Prop
def liftO (K:PySem.W.Frag) (H0:Hp) (t:RO):TO:=λσ H Q=>∃ δ G Qd,Hs K H0 σ δ G H /\ t δ Qd /\ ∀ o H' G',Nx K H0 σ δ G H G' H' -> Qd o -> Q o H'
def PO2 (X:Cx) (H0:Hp) (e:Option Expr) (t:RO):Prop:=PO X e (liftO X.K H0 t)
theorem PO.weak {X:Cx} {e:Option Expr} {t t':TO} (h:PO X e t) (k:∀ σ H Q,t' σ H Q -> t σ H Q):PO X e t':=λpins s σ H Q I hw=>h pins s σ H Q I (k σ H Q hw)
theorem o_none:PO2 X H0 none (λ_ Q=>Q none):=PO.weak Xsl λσ H Q ⟨δ,G,Qd,hs,ht,k⟩=>k none H G (Nx.refl hs) ht
def rPart (t:RE) (δ:List Sl) (Q:Option Int -> Prop):Prop:=t δ λd=>match d with
 | .int i=>Q (some i)
 | _=>False
theorem o_some (h:PB2 X H0 e t):PO2 X H0 (some e) (rPart t):=PO.weak (Xsk h) λσ H Q ⟨δ,G,Qd,hs,ht,k⟩=>⟨δ,G,_,hs,ht,λv H1 G1 d n1 r1 q1=>by
 cases d with
 | int i=>exact ⟨i,r1,k _ H1 G1 n1 q1⟩
 | _=>exact q1.elim⟩
def cutD (xs:List D) (lo hi:Option Int):List D:=(xs.drop (HT.sIx xs.length 0 lo)).take (HT.sIx xs.length xs.length hi - HT.sIx xs.length 0 lo)
theorem Xtw {K:PySem.W.Frag} {G:Hp} {ds:List D} {vs:List V} (r:Reps K G ds vs) (lo hi:Option Int):Reps K G (cutD ds lo hi) (cutV vs lo hi):=by
 unfold cutD cutV;rw [<- r.length];exact (r.drop _).take _
variable {lo hi:Option Expr} {tl th:RO} {p2:Pos}
def rSlL2 (te:RE) (tl th:RO) (δ:List Sl) (Q:D -> Prop):Prop:=te δ λd=>tl δ λl=>th δ λu=>match d with
 | .lst ds=>Q (.lst (cutD ds l u))
 | _=>False
theorem n_slL (he:PB2 X H0 e t) (hl:PO2 X H0 lo tl) (hu:PO2 X H0 hi th):PN2 X H0 (.Subscript e (.Slice lo hi none p2) pos) (rSlL2 t tl th) :=
 PE.weak (Xpj Xru he hl hu) λσ H Q ⟨δ,G,Qd,hs,ht,k⟩=>⟨δ,G,_,hs,ht,λv H1 G1 d n1 r1 q1=>⟨δ,G1,_,n1.hs,q1,λl H2 G2 n2 q2=>⟨δ,G2,_,n2.hs,q2,λu H3 G3 n3 q3=>by
  cases d with
  | lst ds =>
   obtain ⟨a,vs,rfl,h2,h3⟩:=r1.mono (n2.g.trans n3.g) (n2.h.trans n3.h);refine ⟨a,vs,rfl,h2,λp hp=>k _ _ G3 (.lst (cutD ds l u)) (n3.hs.fresh hp ⟨_,Xac,Xtw h3 l u⟩) ((n1.trans n2).trans n3).g (((n1.trans n2).trans n3).h.trans (Xal hp)) q3⟩
  | _=>exact q3.elim⟩⟩⟩
end
section
variable {X:Cx} {H0:Hp} {e:Expr} {t:RE} {lo hi:Option Expr} {tl th:RO} {p2 pos:Pos}
def rCutT (te:RE) (tl th:RO) (δ:List Sl) (Q:D -> Prop):Prop:=te δ λd=>tl δ λl=>th δ λu=>match d with
 | .tup ds=>¬ (HT.sIx ds.length 0 l = 0 /\ HT.sIx ds.length ds.length u = ds.length) /\ Q (.tup (cutD ds l u))
 | _=>False
end
inductive Ret where
 | val (d:D) | new (d:D) | two (a b:D) | fo (a b:D)
def RetOk (K:PySem.W.Frag) (H0 H':Hp) (v:V):Ret -> Prop
 | .val d=>Same H0 H' /\ Rep K H' d v
 | .new d=>∃ G p,v = .ref p /\ Same H0 G /\ G p = none /\ (∀ b,b ≠ p -> G b = H' b) /\ Own K G H' p d
 | .two x y=>∃ G a p q,v = .ref a /\ Same H0 G /\ G a = some (.tup [.ref p,.ref q]) /\ p ≠ q /\ G p = none /\ G q = none /\ (∀ b,b ≠ p -> b ≠ q -> G b = H' b) /\ Own K G H' p x /\ Own K G H' q y
 | .fo x y=>∃ G a vx q,v = .ref a /\ Same H0 G /\ G a = some (.tup [vx,.ref q]) /\ Rep K G x vx /\ G q = none /\ (∀ b,b ≠ q -> G b = H' b) /\ Own K G H' q y
def RetIn (K:PySem.W.Frag) (H0 H':Hp) (v:V) (δ':List Sl):Ret -> Prop
 | .val d=>∃ σ' G',Hs K H0 σ' δ' G' H' /\ Rep K G' d v
 | .new d=>RetOk K H0 H' v (.new d)
 | .two x y=>RetOk K H0 H' v (.two x y)
 | .fo x y=>RetOk K H0 H' v (.fo x y)
theorem RetIn.ok {K:PySem.W.Frag} {H0 H':Hp} {v:V} {δ':List Sl} {r:Ret} (h:RetIn K H0 H' v δ' r):RetOk K H0 H' v r:=by
 cases r with
 | val d=>obtain ⟨σ',G',hs,r⟩:=h;exact ⟨hs.base.trans hs.sub,Rep.mono hs.sub _ _ r⟩
 | new d=>exact h
 | two x y=>exact h
 | fo x y=>exact h
structure Ends2 where
 nx:List Sl -> Prop
 rt:Ret -> List Sl -> Prop
 bk:List Sl -> Prop:=λ_=>False
 ct:List Sl -> Prop:=λ_=>False
abbrev RS:=Ends2 -> List Sl -> Prop
structure Go (K:PySem.W.Frag) (H0 G:Hp) (E:Ends2) (D:Ends):Prop where
 nx:∀ σ' H' δ' G',Hs K H0 σ' δ' G' H' -> Same G G' -> E.nx δ' -> D.nx σ' H'
 rt:∀ v H' r δ',RetIn K H0 H' v δ' r -> E.rt r δ' -> D.rt v H'
 bk:∀ σ' H' δ' G',Hs K H0 σ' δ' G' H' -> Same G G' -> E.bk δ' -> D.bk σ' H'
 ct:∀ σ' H' δ' G',Hs K H0 σ' δ' G' H' -> Same G G' -> E.ct δ' -> D.ct σ' H'
theorem Go.mono {K:PySem.W.Frag} {H0 G G1:Hp} {E:Ends2} {D:Ends} (g:Go K H0 G E D) (s:Same G G1):Go K H0 G1 E D :=
 ⟨λσ' H' δ' G' h s'=>g.nx σ' H' δ' G' h (s.trans s'),g.rt,λσ' H' δ' G' h s'=>g.bk σ' H' δ' G' h (s.trans s'),λσ' H' δ' G' h s'=>g.ct σ' H' δ' G' h (s.trans s')⟩
def liftS (K:PySem.W.Frag) (H0:Hp) (t:RS):TS:=λD σ H=>∃ δ G E,Hs K H0 σ δ G H /\ t E δ /\ Go K H0 G E D
def PS2 (X:Cx) (H0:Hp) (st:Stmt) (t:RS):Prop:=PS X st (liftS X.K H0 t)
def PSs2 (X:Cx) (H0:Hp) (st:List Stmt) (t:RS):Prop:=PSs X st (liftS X.K H0 t)
section
variable {X:Cx} {H0:Hp} {e tg:Expr} {te:RE} {st:Stmt} {rest b1 b2:List Stmt} {t u:RS} {c:Expr} {tc:RT} {pos pos':Pos} {x:Str}
abbrev rNext (E:Ends2) (δ:List Sl):Prop:=E.nx δ
abbrev rSeq (t u:RS) (E:Ends2) (δ:List Sl):Prop:=t { E with nx:=u E } δ
theorem s_nil:PSs2 X H0 [] rNext:=PSs.weak Xsg λD σ H ⟨δ,G,E,hs,ht,g⟩=>g.nx σ H δ G hs (Same.refl _) ht
theorem s_cons (h1:PS2 X H0 st t) (h2:PSs2 X H0 rest u):PSs2 X H0 (st :: rest) (rSeq t u) :=
 PSs.weak (Xpf h1 h2) λD σ H ⟨δ,G,E,hs,ht,g⟩=>⟨δ,G,{ E with nx:=u E },hs,ht,⟨λσ' H' δ' G' h' s' q=>⟨δ',G',E,h',q,g.mono s'⟩,g.rt,g.bk,g.ct⟩⟩
theorem s_one (h1:PS2 X H0 st t):PSs2 X H0 [st] t:=PSs.weak (Xsf h1) λD σ H z=>z
def Xin (i:Nat) (t:RS) (E:Ends2) (δ:List Sl):Prop:=match δ[i]? with
 | some (.ow d)=>t E (δ.set i (.fr d))
 | _=>False
theorem s_freeze (i:Nat) (h:PSs2 X H0 rest t):PSs2 X H0 rest (Xin i t):=PSs.weak h λD σ H ⟨δ,G,E,hs,ht,g⟩=>by
 unfold Xin at ht
 split at ht
 ·rename_i d e
  obtain ⟨G',h',s',_⟩:=hs.freeze e;exact ⟨_,G',E,h',ht,g.mono s'⟩
 ·exact ht.elim
def rRet (te:RE) (E:Ends2) (δ:List Sl):Prop:=te δ λd=>E.rt (.val d) δ
theorem s_ret (he:PE2 X H0 e te):PS2 X H0 (.Return (some e) pos) (rRet te) :=
 PS.weak (Xmr he) λD σ H ⟨δ,G,E,hs,ht,g⟩=>⟨δ,G,_,hs,ht,λv H1 G1 d n1 r1 q1=>g.rt v H1 (.val d) δ ⟨σ,G1,n1.hs,r1⟩ q1⟩
theorem Xmk {K:PySem.W.Frag} {σ:L2.St} {δ:List Sl} {G H:Hp} {i:Nat} {d:D} {p:Addr} (hs:Hs K H0 σ δ G H) (e:δ[i]? = some (.ow d)) (e1:σ[i]? = some (some (.ref p))):RetOk K H0 H (.ref p) (.new d):=by
 obtain ⟨p',e2,o⟩:=hs.ow i d e;rw [e1] at e2;cases e2;have gp:G p = none:=by
  rcases hs.ex p with ⟨_,z⟩ | ⟨z,_⟩
  ·exact absurd ⟨_,e,True.intro,e1⟩ (z i)
  ·exact z
 have s1:Same G (λb=>if b = p then none else H b):=λb u q=>by
  have hb:b ≠ p:=Xaf q gp
  show (if b = p then none else H b) = some u
  rw [if_neg hb];exact hs.sub b u q
 exact ⟨λb=>if b = p then none else H b,p,rfl,hs.base.trans s1,if_pos rfl,λb hb=>if_neg hb,o.mono s1 rfl⟩
def rRetN (te:RE) (E:Ends2) (δ:List Sl):Prop:=te δ λd=>E.rt (.new d) δ
theorem s_retN (he:PN2 X H0 e te):PS2 X H0 (.Return (some e) pos) (rRetN te) :=
 PS.weak (Xmr he) λD σ H ⟨δ,G,E,hs,ht,g⟩=>⟨δ,G,_,hs,ht,λv H1 G1 d n1 sg sh q1=>by
  obtain ⟨p,e1,o⟩:=n1.ow 0 d rfl;simp at e1;subst e1
  exact g.rt _ H1 (.new d) δ (Xmk (i:=0) n1 rfl rfl) q1⟩
def rRetO (i:Nat) (E:Ends2) (δ:List Sl):Prop:=match δ[i]? with
 | some (.ow d)=>E.rt (.new d) δ
 | _=>False
theorem s_retO (i:Nat) (hN:X.N[i]? = some x:=by rfl) (hv:Vis X.env.scope x:=by first | exact Or.inl rfl | exact Or.inr (Or.inl rfl) | exact Or.inr (Or.inr rfl)) (hd:(x == ("__debug__" : Str)) = false:=by decide)
(hcd:(x == ("__classdict__" : Str)) = false:=by decide):PS2 X H0 (.Return (some (.Name x pos')) pos) (rRetO i) :=
 PS.weak (Xmr (Xhi hN hv hd hcd)) λD σ H ⟨δ,G,E,hs,ht,g⟩=>by
  unfold rRetO at ht
  split at ht
  ·rename_i d e
   obtain ⟨p,e1,o⟩:=hs.ow i d e;exact ⟨_,e1,g.rt _ H (.new d) δ (Xmk hs e e1) ht⟩
  ·exact ht.elim
structure rIf (c:RT) (t u:RS) (E:Ends2) (δ:List Sl):Prop where
 run:c δ λb=>Two b (t E δ) (u E δ)
theorem s_if (hc:PT2 X H0 c tc) (ha:PSs2 X H0 b1 t) (hb:PSs2 X H0 b2 u):PS2 X H0 (.If c b1 b2 pos) (rIf tc t u) :=
 PS.weak (ps_if hc ha hb) λD σ H ⟨δ,G,E,hs,ht,g⟩=>⟨δ,G,_,hs,ht.run,λk H1 G1 n1 q1=>by
  cases k with
  | true=>rw [if_pos rfl];exact ⟨δ,G1,E,n1.hs,q1.yes rfl,g.mono n1.g⟩
  | false=>rw [if_neg Bool.false_ne_true];exact ⟨δ,G1,E,n1.hs,q1.no rfl,g.mono n1.g⟩⟩
abbrev RG:=D -> List Sl -> (List Sl -> Prop) -> Prop
def liftG (K:PySem.W.Frag) (H0:Hp) (g:RG):TG:=λv σ H Q=>∃ δ G d Qd,Hs K H0 σ δ G H /\ Rep K G d v /\ g d δ Qd /\ ∀ σ' H' δ' G',Hs K H0 σ' δ' G' H' -> Same G G' -> Qd δ' -> Q σ' H'
def PG2 (X:Cx) (H0:Hp) (tg:Expr) (g:RG):Prop:=PG X tg (liftG X.K H0 g)
theorem PG.weak {X:Cx} {e:Expr} {t t':TG} (h:PG X e t) (k:∀ v σ H Q,t' v σ H Q -> t v σ H Q):PG X e t':=λpins s σ H v u Q I r hw=>h pins s σ H v u Q I r (k v σ H Q hw)
def gSet (i:Nat) (d:D) (δ:List Sl) (Q:List Sl -> Prop):Prop:=match δ[i]? with
 | some (.lk _ _)=>False
 | some _=>Q (δ.set i (.fr d))
 | none=>False
theorem Xgj {i:Nat} {d:D} {δ:List Sl} {Q:List Sl -> Prop} (h:gSet i d δ Q):∃ l,δ[i]? = some l /\ l.locked = false /\ Q (δ.set i (.fr d)):=by
 unfold gSet at h
 split at h
 ·exact h.elim
 ·rename_i l n e
  refine ⟨l,e,?_,h⟩
  cases l with
  | lk p d'=>exact absurd rfl (n p d')
  | _=>rfl
 ·exact h.elim
theorem g_name (i:Nat) (hN:X.N.Nodup) (hi:X.N[i]? = some x:=by rfl) (hx:Loc X.env.scope x:=by first | exact Or.inl rfl | exact Or.inr rfl) (hf:X.fn x = true \/ X.env.scope.names.lookup x = some .local:=by first | exact .inl rfl | exact .inr rfl | assumption):PG2 X H0 (.Name x pos) (gSet i) :=
 PG.weak (Xge hN hi hx hf) λv σ H Q ⟨δ,G,d,Qd,hs,r,h,k⟩=>by
  obtain ⟨l,e,nl,q⟩:=Xgj h;obtain ⟨G',h',s'⟩:=hs.put e nl r;exact k _ H _ G' h' s' q
def rSet (i:Nat) (te:RE) (E:Ends2) (δ:List Sl):Prop:=te δ λd=>gSet i d δ E.nx
theorem s_set (i:Nat) (hN:X.N.Nodup) (he:PE2 X H0 e te) (hi:X.N[i]? = some x:=by rfl) (hx:Loc X.env.scope x:=by first | exact Or.inl rfl | exact Or.inr rfl) (hs:swapsWith e (some (.Name x pos')) pos.line X.env = pure false:=by rfl)
(hf:X.fn x = true \/ X.env.scope.names.lookup x = some .local:=by first | exact .inl rfl | exact .inr rfl | assumption):PS2 X H0 (.Assign [.Name x pos'] e pos) (rSet i te) :=
 PS.weak (Xqz hN hi hx he hs hf) λD σ H ⟨δ,G,E,hs,ht,g⟩=>⟨δ,G,_,hs,ht,λv H1 G1 d n1 r1 q1=>by
  obtain ⟨l,e,nl,q⟩:=Xgj q1;obtain ⟨G',h',s'⟩:=n1.hs.put e nl r1
  exact g.nx _ H1 _ G' h' (n1.g.trans s') q⟩
def gOwn (i:Nat) (d:D) (δ:List Sl) (Q:List Sl -> Prop):Prop:=match δ[i]? with
 | some (.lk _ _)=>False
 | some _=>Q (δ.set i (.ow d))
 | none=>False
theorem Xtq {i:Nat} {d:D} {δ:List Sl} {Q:List Sl -> Prop} (h:gOwn i d δ Q):∃ l,δ[i]? = some l /\ l.locked = false /\ Q (δ.set i (.ow d)):=by
 unfold gOwn at h
 split at h
 ·exact h.elim
 ·rename_i l n e
  refine ⟨l,e,?_,h⟩
  cases l with
  | lk p d'=>exact absurd rfl (n p d')
  | _=>rfl
 ·exact h.elim
def rSetN (i:Nat) (te:RE) (E:Ends2) (δ:List Sl):Prop:=te δ λd=>gOwn i d δ E.nx
theorem s_setN (i:Nat) (hN:X.N.Nodup) (he:PN2 X H0 e te) (hi:X.N[i]? = some x:=by rfl) (hx:Loc X.env.scope x:=by first | exact Or.inl rfl | exact Or.inr rfl) (hs:swapsWith e (some (.Name x pos')) pos.line X.env = pure false:=by rfl)
(hf:X.fn x = true \/ X.env.scope.names.lookup x = some .local:=by first | exact .inl rfl | exact .inr rfl | assumption):PS2 X H0 (.Assign [.Name x pos'] e pos) (rSetN i te) :=
 PS.weak (Xqz hN hi hx he hs hf) λD σ H ⟨δ,G,E,hs,ht,g⟩=>⟨δ,G,_,hs,ht,λv H1 G1 d n1 sg sh q1=>by
  obtain ⟨l,e,nl,q⟩:=Xtq q1;obtain ⟨G',h',s'⟩:=n1.own e nl
  exact g.nx _ H1 _ G' h' (sg.trans s') q⟩
abbrev RGs:=List D -> List Sl -> (List Sl -> Prop) -> Prop
def Xvt (K:PySem.W.Frag) (H0:Hp) (g:RGs):TGs:=λvs σ H Q=>∃ δ G ds Qd,Hs K H0 σ δ G H /\ Reps K G ds vs /\ g ds δ Qd /\ ∀ σ' H' δ' G',Hs K H0 σ' δ' G' H' -> Same G G' -> Qd δ' -> Q σ' H'
def PGs2 (X:Cx) (H0:Hp) (ts:List Expr) (g:RGs):Prop:=PGs X ts (Xvt X.K H0 g)
theorem PGs.weak {X:Cx} {e:List Expr} {t t':TGs} (h:PGs X e t) (k:∀ v σ H Q,t' v σ H Q -> t v σ H Q):PGs X e t':=λpins s σ H v u Q I r hw=>h pins s σ H v u Q I r (k v σ H Q hw)
def gNil2 (ds:List D) (δ:List Sl) (Q:List Sl -> Prop):Prop:=match ds with
 | []=>Q δ
 | _=>False
def Xrh (g:RG) (r:RGs) (ds:List D) (δ:List Sl) (Q:List Sl -> Prop):Prop:=match ds with
 | d :: ds=>g d δ λδ1=>r ds δ1 Q
 | []=>False
theorem gs_nil:PGs2 X H0 [] gNil2:=PGs.weak Xmv λvs σ H Q ⟨δ,G,ds,Qd,hs,r,h,k⟩=>by
 cases ds with
 | nil=>simp only [Reps] at r;exact ⟨r,k σ H δ G hs (Same.refl _) h⟩
 | cons d ds=>exact h.elim
variable {es:List Expr} {g:RG} {gs:RGs}
theorem gs_cons (h1:PG2 X H0 e g) (h2:PGs2 X H0 es gs) (hs:(assignEach (e :: es) X.env).map (·.2) = assign e X.env :: (assignEach es X.env).map (·.2):=by rfl):PGs2 X H0 (e :: es) (Xrh g gs) :=
 PGs.weak (Xjr h1 h2 hs) λvs σ H Q ⟨δ,G,ds,Qd,hs,r,h,k⟩=>by
  cases ds with
  | nil=>exact h.elim
  | cons d ds =>
   simp only [Reps] at r;obtain ⟨v,vr,rfl,r1,r2⟩:=r;exact ⟨v,vr,rfl,δ,G,d,_,hs,r1,h,λσ1 H1 δ1 G1 h1 s1 q1=>⟨δ1,G1,ds,Qd,h1,Reps.mono s1 _ _ r2,q1,λσ2 H2 δ2 G2 h2 s2 q2=>k σ2 H2 δ2 G2 h2 (s1.trans s2) q2⟩⟩
def gTup2 (n:Nat) (gs:RGs) (d:D) (δ:List Sl) (Q:List Sl -> Prop):Prop:=match d with
 | .tup ds=>ds.length = n /\ gs ds δ Q
 | _=>False
theorem g_tup {n k:Nat} (hc:X.calm = true) (h:PGs2 X H0 es gs) (hn:(assignEach es X.env).length = n:=by rfl) (hst:(assignEach es X.env).findIdx? (·.1) = none:=by rfl):PG2 X H0 (.Tuple es k pos) (gTup2 n gs) :=
 PG.weak (Xrb (n:=n) hc h hn hst) λv σ H Q ⟨δ,G,d,Qd,hs,r,h,k⟩=>by
  cases d with
  | tup ds =>
   simp only [Rep] at r;obtain ⟨a,vs,rfl,h2,h3⟩:=r;exact ⟨a,vs,rfl,SqT.of (hs.sub _ _ h2),by rw [<- h3.length];exact h.1,δ,G,ds,Qd,hs,h3,h.2,k⟩
  | _=>exact h.elim
def rAsg (te:RE) (g:RG) (E:Ends2) (δ:List Sl):Prop:=te δ λd=>g d δ E.nx
theorem s_asg (he:PE2 X H0 e te) (hg:PG2 X H0 tg g) (hs:swapsWithSole [tg] e pos.line X.env = pure false:=by rfl) (hw:swappedStores [tg] e X.env = pure none:=by rfl)
(h1:(assignEach [tg] X.env).map (·.2) = [assign tg X.env]:=by rfl):PS2 X H0 (.Assign [tg] e pos) (rAsg te g) :=
 PS.weak (Xuy he hg hs hw h1) λD σ H ⟨δ,G,E,hs,ht,g⟩=>⟨δ,G,_,hs,ht,λv H1 G1 d n1 r1 q1=>⟨δ,G1,d,E.nx,n1.hs,r1,q1,λσ' H' δ' G' h' s' q=>g.nx σ' H' δ' G' h' (n1.g.trans s') q⟩⟩
def loop (g:RG) (tb:RS) (E:Ends2):List D -> List Sl -> Prop
 | [],δ=>E.nx δ
 | d :: ds,δ=>g d δ λδ1=>tb { nx:=λδ2=>∃ δ3,Fg δ2 δ3 /\ loop g tb E ds δ3,rt:=E.rt,bk:=E.nx,ct:=λδ2=>∃ δ3,Fg δ2 δ3 /\ loop g tb E ds δ3 } δ1
def rForL (te:RE) (g:RG) (tb:RS) (E:Ends2) (δ:List Sl):Prop:=te δ λd=>match d with
 | .lst ds=>loop g tb E ds δ
 | _=>False
def rForT (te:RE) (g:RG) (tb:RS) (E:Ends2) (δ:List Sl):Prop:=te δ λd=>match d with
 | .tup ds=>loop g tb E ds δ
 | _=>False
variable {iter:Expr} {body:List Stmt} {tb:RS}
theorem s_forL (hp:PassesOwn (model X.prog X.w) X.A X.env X.xe) (hc:X.calm = true) (hi:PE2 X H0 iter te) (hg:PG2 X H0 tg g) (hb:PSs2 X H0 body tb) (hs:∀ x,foldedSetIterable iter X.env x = pure x:=by intro _;rfl) :
PS2 X H0 (.For tg iter body [] pos) (rForL te g tb) :=
 PS.weak (Xjo hp hc (Xcx hi) hg hb hs) λD σ H ⟨δ,G,E,hs,ht,go⟩=>⟨δ,G,_,hs,ht,λv H1 G1 d n1 r1 q1=>by
  cases d with
  | lst ds =>
   simp only [Rep] at r1;obtain ⟨a,vs,rfl,h2,h3⟩:=r1;refine ⟨a,rfl,⟨vs,n1.hs.sub.seq h2⟩,Xqc (K:=X.K) (a:=a) (xs:=vs) (λi σ' H'=>∃ δ' G',Hs X.K H0 σ' δ' G' H' /\ Same G1 G' /\ loop g tb E (ds.drop i) δ') ⟨δ,G1,n1.hs,Same.refl _,q1⟩ ?_ ?_ ?_⟩
   ·rintro i σ' H' _ ⟨δ',G',h',s',_⟩
    exact h'.sub.seq (s'.seq h2)
   ·rintro i x σ' H' hx ⟨δ',G',h',s',q'⟩
    obtain ⟨d,ed,rd⟩:=h3.getV hx;have hil:i < ds.length:=(List.getElem?_eq_some_iff.mp ed).1;have ed':ds[i] = d:=by
     have:=List.getElem?_eq_getElem hil;rw [this] at ed;exact Option.some.inj ed
    rw [List.drop_eq_getElem_cons hil,ed'] at q';refine ⟨δ',G',d,_,h',Rep.mono s' _ _ rd,q',λσ2 H2 δ2 G2 h2' s2 q2=>⟨δ2,G2,_,h2',q2,⟨λσ3 H3 δ3 G3 h3' s3 ⟨δ4,f4,q3⟩=>⟨δ4,G3,h3'.forget f4,(s'.trans s2).trans s3,q3⟩,go.rt,λσ3 H3 δ3 G3 h3' s3 q3=>go.nx σ3 H3 δ3 G3 h3' (((n1.g.trans s').trans s2).trans s3) q3,λσ3 H3 δ3 G3 h3' s3 ⟨δ4,f4,q3⟩=>⟨δ4,G3,h3'.forget f4,(s'.trans s2).trans s3,q3⟩⟩⟩⟩
   ·rintro σ' H' ⟨δ',G',h',s',q'⟩
    rw [<- h3.length,List.drop_length] at q';exact go.nx σ' H' δ' G' h' (n1.g.trans s') q'
  | _=>exact q1.elim⟩
theorem s_forT (hp:PassesOwn (model X.prog X.w) X.A X.env X.xe) (hc:X.calm = true) (hi:PE2 X H0 iter te) (hg:PG2 X H0 tg g) (hb:PSs2 X H0 body tb) (hs:∀ x,foldedSetIterable iter X.env x = pure x:=by intro _;rfl) :
PS2 X H0 (.For tg iter body [] pos) (rForT te g tb) :=
 PS.weak (Xjo hp hc (Xra hi) hg hb hs) λD σ H ⟨δ,G,E,hs,ht,go⟩=>⟨δ,G,_,hs,ht,λv H1 G1 d n1 r1 q1=>by
  cases d with
  | tup ds =>
   simp only [Rep] at r1;obtain ⟨a,vs,rfl,h2,h3⟩:=r1;refine ⟨a,rfl,⟨vs,SqT.of (n1.hs.sub _ _ h2)⟩,Xts (K:=X.K) (a:=a) (xs:=vs) (λi σ' H'=>∃ δ' G',Hs X.K H0 σ' δ' G' H' /\ Same G1 G' /\ loop g tb E (ds.drop i) δ') ⟨δ,G1,n1.hs,Same.refl _,q1⟩ ?_ ?_ ?_⟩
   ·rintro i σ' H' _ ⟨δ',G',h',s',_⟩
    exact SqT.of (h'.sub _ _ (s' _ _ h2))
   ·rintro i x σ' H' hx ⟨δ',G',h',s',q'⟩
    obtain ⟨d,ed,rd⟩:=h3.getV hx;have hil:i < ds.length:=(List.getElem?_eq_some_iff.mp ed).1;have ed':ds[i] = d:=by
     have:=List.getElem?_eq_getElem hil;rw [this] at ed;exact Option.some.inj ed
    rw [List.drop_eq_getElem_cons hil,ed'] at q';refine ⟨δ',G',d,_,h',Rep.mono s' _ _ rd,q',λσ2 H2 δ2 G2 h2' s2 q2=>⟨δ2,G2,_,h2',q2,⟨λσ3 H3 δ3 G3 h3' s3 ⟨δ4,f4,q3⟩=>⟨δ4,G3,h3'.forget f4,(s'.trans s2).trans s3,q3⟩,go.rt,λσ3 H3 δ3 G3 h3' s3 q3=>go.nx σ3 H3 δ3 G3 h3' (((n1.g.trans s').trans s2).trans s3) q3,λσ3 H3 δ3 G3 h3' s3 ⟨δ4,f4,q3⟩=>⟨δ4,G3,h3'.forget f4,(s'.trans s2).trans s3,q3⟩⟩⟩⟩
   ·rintro σ' H' ⟨δ',G',h',s',q'⟩
    rw [<- h3.length,List.drop_length] at q';exact go.nx σ' H' δ' G' h' (n1.g.trans s') q'
  | _=>exact q1.elim⟩
end
section
variable {X:Cx} {H0:Hp} {e tg:Expr} {te:RE} {st:Stmt} {pos pos':Pos} {x:Str} {es:List Expr} {g:RG} {gs:RGs} {iter:Expr} {body:List Stmt} {tb:RS}
def rng (lo:Int) (n:Nat):List D:=(List.range n).map λk=>D.int (lo + (k:Nat))
theorem Xbp (lo:Int) (n i:Nat) (h:i < n):(rng lo n).drop i = D.int (lo + i) :: (rng lo n).drop (i + 1):=by
 have hl:i < (rng lo n).length:=by simpa [rng] using h
 rw [List.drop_eq_getElem_cons hl];simp [rng]
theorem Xlb {G1 G:Hp} {E:Ends2} {Dn:Ends} {lo:Int} {n:Nat} {σ:L2.St} {δ:List Sl} {H:Hp} (hs:Hs X.K H0 σ δ G1 H) (gg:Same G G1) (go:Go X.K H0 G E Dn) (q1:loop g tb E (rng lo n) δ) :
∃ W:Nat -> Nat -> L2.St -> Hp -> Prop,(∃ m,W 0 m σ H) /\ ∀ i m σ H,W i m σ H ->
((Itr lo n).stop i H /\ Dn.nx σ H) \/ ((Itr lo n).go i H /\ ∃ N:L2.St -> Hp -> Prop,(∀ σ' H',N σ' H' -> ∃ m',m' < m /\ W (i + 1) m' σ' H') /\ ∀ x H',(Itr lo n).yld i H x H' -> liftG X.K H0 g x σ H' λσ2 H2=>liftS X.K H0 tb { Dn with nx:=N,ct:=N,bk:=Dn.nx } σ2 H2):=by
 refine Xoa (λi σ' H'=>∃ δ' G',Hs X.K H0 σ' δ' G' H' /\ Same G1 G' /\ loop g tb E ((rng lo n).drop i) δ') ⟨δ,G1,hs,Same.refl _,q1⟩ ?_ ?_
 ·rintro i σ' H' hx ⟨δ',G',h',s',q'⟩
  rw [Xbp lo n i hx] at q';refine ⟨δ',G',.int (lo + i),_,h',by simp only [Rep],q',λσ2 H2 δ2 G2 h2' s2 q2=>⟨δ2,G2,_,h2',q2,⟨λσ3 H3 δ3 G3 h3' s3 ⟨δ4,f4,q3⟩=>⟨δ4,G3,h3'.forget f4,(s'.trans s2).trans s3,q3⟩,go.rt,λσ3 H3 δ3 G3 h3' s3 q3=>go.nx σ3 H3 δ3 G3 h3' (((gg.trans s').trans s2).trans s3) q3,λσ3 H3 δ3 G3 h3' s3 ⟨δ4,f4,q3⟩=>⟨δ4,G3,h3'.forget f4,(s'.trans s2).trans s3,q3⟩⟩⟩⟩
 ·rintro σ' H' ⟨δ',G',h',s',q'⟩
  rw [List.drop_of_length_le (by simp [rng])] at q';exact go.nx σ' H' δ' G' h' (gg.trans s') q'
variable {tr:RA} {a1 a2:Expr}
def int1 (ds:List D) (Q:Int -> Prop):Prop:=match ds with
 | [.int j]=>Q j
 | _=>False
theorem Xto {ds:List D} {Q:Int -> Prop} (h:int1 ds Q):∃ j,ds = [.int j] /\ Q j:=by
 unfold int1 at h
 split at h
 ·exact ⟨_,rfl,h⟩
 ·exact h.elim
def Xop (j:Int):Prop:=-(2 ^ 62) <= j /\ j < 2 ^ 62
def Xqq (tr:RA) (g:RG) (tb:RS) (E:Ends2) (δ:List Sl):Prop:=tr δ λds=>int1 ds λj=>Xop j /\ loop g tb E (rng 0 j.toNat) δ
theorem s_forR1 {p pos2:Pos} (hp:PassesOwn (model X.prog X.w) X.A X.env X.xe) (hc:X.calm = true) (hgl:Gl X "range") (hm:X.mg "range" = none) (ha:PA2 X H0 [a1] tr) (hg:PG2 X H0 tg g) (hb:PSs2 X H0 body tb) (hst:starEach [a1] X.env = [(false,eval a1 X.env)]:=by rfl)
(hs:∀ x,foldedSetIterable (.Call (.Name "range" p) [a1] [] pos2) X.env x = pure x:=by intro _;rfl):PS2 X H0 (.For tg (.Call (.Name "range" p) [a1] [] pos2) body [] pos) (Xqq tr g tb) :=
 PS.weak (Xjo hp hc (Xmu hgl hm ha hst) hg hb hs) λD σ H ⟨δ,G,E,hs,ht,go⟩=>⟨δ,G,_,hs,ht,λvs H1 G1 ds n1 r1 q1=>by
  obtain ⟨j,rfl,⟨h1,h2⟩,q2⟩:=Xto q1;have e:vs = [.int j]:=Reps.ints_inv (ns:=[j]) r1
  exact ⟨j,e,h1,h2,Xlb n1.hs n1.g go q2⟩⟩
end
abbrev Sp2:=List D -> (Ret -> Prop) -> Prop
def Xag (K:PySem.W.Frag) (sp:Sp2):Sp:=λvs H Q _=>∃ ds Qd,Reps K H ds vs /\ sp ds Qd /\ ∀ v H' r,RetOk K H H' v r -> Qd r -> Q v H'
section
variable {P:Program} {w:World} {K:PySem.W.Frag} {mg:Str -> Option Value} {base:Heap}
def Xmb (N:List Str) (ds:List D):List Sl:=ds.map Sl.fr ++ List.replicate (N.length - ds.length) .un
theorem fun_ok {x qual:Str} {st:Stmt} {f:Addr} {fd:FuncData} {N ps:List Str} {k:Nat} {sp:Sp2} (F:Fun K x qual st f fd) (S:FnScope N ps (Xab st)) (len:∀ ds Qd,sp ds Qd -> ds.length = ps.length)
(hbody:∀ (cdv:Value) (A:Around) (outer:List Env) (s:Shared) (H:Hp) (E:XK),Room k (A.deeper (envOfC qual (Xab st) s.heap.objs.size f cdv)) -> ∀ ds Qd,sp ds Qd ->
∃ t,PSs2 (cxOf CX0 P w K mg base N qual (Xab st) f cdv A outer s H E).nox H (Xax st) t /\ t { nx:=λ_=>Qd (.val .non),rt:=λr _=>Qd r } (Xmb N ds)):FnOk P w K mg base CX0 (k + 1) f fd ps (Xag K sp):=by
 refine F.ok S (λvs H Q E h=>?_) (λcdv A outer s H vs Q E hr h=>?_)
 ·obtain ⟨ds,Qd,r,h1,_⟩:=h
  rw [<- r.length];exact len ds Qd h1
 ·obtain ⟨ds,Qd,r,h1,h2⟩:=h
  obtain ⟨t,ht,q⟩:=hbody cdv A outer s H E hr ds Qd h1;refine ⟨_,ht,Xmb N ds,H,_,?_,q,⟨λσ' H' δ' G' hs _ q=>h2 _ H' (.val .non) ⟨hs.base.trans hs.sub,by simp only [Rep]⟩ q,λv H' r' δ' ok q=>h2 v H' r' ok.ok q,λ_ _ _ _ _ _ z=>z.elim,λ_ _ _ _ _ _ z=>z.elim⟩⟩;have e:=Hs.start r (N.length - ds.length)
  show Hs K H (vs.map some ++ List.replicate (N.length - vs.length) none) _ H H
  rw [<- r.length];exact e
end
theorem ObjOk.sub {P:Program} {w:World} {H1 H2:Hp} {h:Heap} {a:Addr} (tp:∀ b xs,H1 b = some (.tup xs) -> H2 b = some (.tup xs)) (ow:∀ b c,H1 b = some (.own c) -> H2 b = some (.own c)) {o:HO} (x:ObjOk P w H1 h a o):ObjOk P w H2 h a o :=
 x.stay (λ_ _ _ q=>q) (λb q=>ow b a q) tp
section
variable {X:Cx} {H0:Hp} {pins:List (Addr × Obj)} {σ:L2.St} {δ:List Sl} {G H:Hp} {s:Shared}
theorem Hs.nil_of (hs:Hs X.K H0 σ δ G H) {b:Addr} (n:H b = none):G b = none /\ ∀ i,¬ At σ δ i b:=by
 rcases hs.ex b with ⟨q,a⟩ | ⟨q,i,a⟩
 ·exact ⟨q.trans n,a⟩
 ·obtain ⟨o,e,_⟩:=hs.soft a
  rw [n] at e;cases e
theorem Hs.env0 (hs:Hs X.K H0 σ δ G H) (I:Inv X pins σ H s):Env0 X.prog X.w X.K X.mg X.base X.A X.stack s G:=by
 have e:=I.env0;refine ⟨e.frames,e.mod,λb o q=>⟨(e.bs b o q).1,(hs.nil_of (e.bs b o q).2).1⟩,e.bsz,e.funs,λb hb=>(hs.nil_of (e.frf b hb)).1,λa o q=>?_,e.bare⟩;exact ObjOk.sub (λb xs z=>(hs.hard z (λy=>y)).1) (λb c z=>(hs.hard z (λy=>y)).1) (e.hok a o (hs.sub a o q))
open Classical in
noncomputable def mix (σ:L2.St) (δ:List Sl) (H G1:Hp):Hp:=λb=>if (∃ i,At σ δ i b) then H b else G1 b
theorem Xbh {G1:Hp} {i:Nat} {b:Addr} (a:At σ δ i b):mix σ δ H G1 b = H b:=by unfold mix;exact if_pos ⟨i,a⟩
theorem Xar {G1:Hp} {b:Addr} (a:∀ i,¬ At σ δ i b):mix σ δ H G1 b = G1 b:=by unfold mix;exact if_neg λ⟨i,z⟩=>a i z
theorem Hs.behind {Q:VK} {u:Value} {s':Shared} (hs:Hs X.K H0 σ δ G H) (I:Inv X pins σ H s) (h:CE X.stack X.prog X.w G s Q u s') :
∃ v G1,Inv X pins σ (mix σ δ H G1) s' /\ RelV v u /\ Q v G1 /\ (∀ i b,At σ δ i b -> G1 b = none):=by
 obtain ⟨v,G1,os,bare,un,hok,r,q⟩:=h;have ownx:∀ i b,At σ δ i b -> ∃ o ob,H b = some o /\ Soft o /\ s.heap.get? b = some ob /\ G b = none:=λi b a=>by
  obtain ⟨o,e,so⟩:=hs.soft a;have lt:=I.hok.lt e;have gb:G b = none:=by
   rcases hs.ex b with ⟨_,z⟩ | ⟨z,_⟩
   ·exact absurd a (z i)
   ·exact z
  obtain ⟨ob,eo⟩:∃ ob,s.heap.get? b = some ob:=by
   have:=I.hok b o e
   cases o with
   | lst xs=>obtain ⟨_,its,n,_,e⟩:=this;exact ⟨_,e⟩
   | dK xs=>obtain ⟨_,_,_,_,ob,_,_,e,_⟩:=this;exact ⟨ob,e⟩
   | dT xs=>obtain ⟨_,_,_,_,ob,_,_,e,_⟩:=this;exact ⟨ob,e⟩
   | _=>exact so.elim
  exact ⟨o,ob,e,so,eo,gb⟩
 have own1:∀ i b,At σ δ i b -> G1 b = none:=λi b a=>by
  obtain ⟨o,ob,_,_,eo,gb⟩:=ownx i b a;exact un.free b ob eo gb (by simp)
 have keepo:∀ i b,At σ δ i b -> ∀ ob,s.heap.get? b = some ob -> s'.heap.get? b = some ob:=λi b a ob eo=>by
  obtain ⟨o,_,e,_,_,gb⟩:=ownx i b a;refine un.keep b ob eo gb (λz=>?_) (by simp);rw [I.stkFree b z] at e;cases e
 have tp:∀ b xs,H b = some (.tup xs) -> mix σ δ H G1 b = some (.tup xs):=λb xs z=>by
  obtain ⟨z1,z2⟩:=hs.hard z (λy=>y);rw [Xar z2];exact un.tups b xs z1
 refine ⟨v,G1,?_,r,q,own1⟩;have un2:Un (frs X.stack) [] H (mix σ δ H G1) s.heap s'.heap:=by
  refine ⟨λb o e n hb hx=>un.keep b o e (hs.nil_of n).1 hb hx,λb o e n hb hx=>un.slot b o e (hs.nil_of n).1 hb hx,λb o e n hx=>?_,un.there,tp,λb o u' z=>?_,λb ps z=>?_⟩
  ·rw [Xar (hs.nil_of n).2];exact un.free b o e (hs.nil_of n).1 hx
  ·obtain ⟨z1,z2⟩:=hs.hard z (λy=>y)
   rw [Xar z2];exact un.frzs b o u' z1
  ·obtain ⟨z1,z2⟩:=hs.hard z (λy=>y)
   rw [Xar z2];exact un.tbls b ps z1
 have hok2:HOk X.prog X.w (mix σ δ H G1) s'.heap:=λa o e=>by
  by_cases ha:∃ i,At σ δ i a
  ·obtain ⟨i,ai⟩:=ha
   rw [Xbh ai] at e;obtain ⟨o',ob,e',so,eo,_⟩:=ownx i a ai;rw [e] at e';cases e';have x:=I.hok a o e
   cases o with
   | lst xs=>obtain ⟨z,its,n,r',e2⟩:=x;exact ⟨z,its,n,r',keepo i a ai _ e2⟩
   | dK xs=>obtain ⟨z,y,vs,r',ob',es,ep,e2,c⟩:=x;exact ⟨z,y,vs,r',ob',es,ep,keepo i a ai _ e2,c⟩
   | dT xs =>
    obtain ⟨z,y,xs',r',ob',es,ep,e2,c⟩:=x;exact ⟨z,y,xs',Paired.mapP r' λp q' z'=>⟨z'.1,tp _ _ z'.2.1,z'.2.2⟩,ob',es,ep,keepo i a ai _ e2,c⟩
   | _=>exact so.elim
  ·have na:∀ i,¬ At σ δ i a:=λi z=>ha ⟨i,z⟩
   rw [Xar na] at e;refine ObjOk.sub (H1:=G1) (λb xs z=>?_) (λb c z=>?_) (hok a o e)
   ·rw [Xar λi y=>by rw [own1 i b y] at z;cases z];exact z
   ·rw [Xar λi y=>by rw [own1 i b y] at z;cases z];exact z
 obtain ⟨hh,gg,d,t,os'⟩:=s';obtain rfl:os' = s.os:=os;exact I.call (h':=hh) (g':=gg) (d':=d) (t':=t) (ch:=[]) un2 hok2 bare (λb z=>absurd z (by simp))
theorem Hs.behind_val {G1:Hp} {d:D} {v:V} (hs:Hs X.K H0 σ δ G H) (own1:∀ i b,At σ δ i b -> G1 b = none) (ok:RetOk X.K G G1 v (.val d)):Nx X.K H0 σ δ G H G1 (mix σ δ H G1) /\ Rep X.K G1 d v:=by
 obtain ⟨s1,r⟩:=ok;have ex:∀ b,(G1 b = mix σ δ H G1 b /\ ∀ i,¬ At σ δ i b) \/ (G1 b = none /\ ∃ i,At σ δ i b):=λb=>by
  by_cases ha:∃ i,At σ δ i b
  ·obtain ⟨i,ai⟩:=ha
   exact .inr ⟨own1 i b ai,i,ai⟩
  ·have na:∀ i,¬ At σ δ i b:=λi z=>ha ⟨i,z⟩
   exact .inl ⟨(Xar na).symm,na⟩
 refine ⟨⟨⟨hs.len,hs.base.trans s1,ex,λi d e=>?_,λi d e=>?_,λi p ds e=>?_,hs.ne⟩,s1,λb o e=>?_⟩,r⟩
 ·obtain ⟨v,e1,r1⟩:=hs.fr i d e
  exact ⟨v,e1,Rep.mono s1 _ _ r1⟩
 ·obtain ⟨p,e1,o⟩:=hs.ow i d e
  exact ⟨p,e1,o.mono s1 (Xbh ⟨_,e,True.intro,e1⟩)⟩
 ·obtain ⟨e1,o⟩:=hs.lk i p ds e
  exact ⟨e1,o.mono s1 (Xbh ⟨_,e,True.intro,e1⟩)⟩
 ·rcases hs.ex b with ⟨q,a⟩ | ⟨q,i,a⟩
  ·rw [Xar a];exact s1 b o (q.trans e)
  ·rw [Xbh a];exact e
theorem Hs.behind_own {G1 G2:Hp} {d:D} {p:Addr} (hs:Hs X.K H0 σ δ G H) (own1:∀ i b,At σ δ i b -> G1 b = none) (s2:Same G G2) (gp:G2 p = none) (eq:∀ b,b ≠ p -> G2 b = G1 b) (o:Own X.K G2 G1 p d) :
Hs X.K H0 (some (.ref p) :: σ) (.ow d :: δ) G2 (mix σ δ H G1) /\ Same H (mix σ δ H G1):=by
 obtain ⟨ob,eo,so⟩:=o.soft;have nap:∀ i,¬ At σ δ i p:=λi a=>by rw [own1 i p a] at eo;cases eo
 have mp:mix σ δ H G1 p = G1 p:=Xar nap;have sm:Same H (mix σ δ H G1):=λb u e=>by
  rcases hs.ex b with ⟨q,a⟩ | ⟨q,i,a⟩
  ·rw [Xar a]
   have e2:=s2 b u (q.trans e);have hb:b ≠ p:=Xaf e2 gp;rw [<- eq b hb];exact e2
  ·rw [Xbh a];exact e
 have a0:∀ b,At (some (.ref p) :: σ) (.ow d :: δ) 0 b ↔ b = p:=λb=>by
  rw [at_zero]
  constructor
  ·rintro ⟨_,z⟩;cases z;rfl
  ·rintro rfl;exact ⟨True.intro,rfl⟩
 refine ⟨⟨by simp [hs.len],hs.base.trans s2,λb=>?_,λj d' q=>?_,λj d' q=>?_,λj q' es q=>?_,λj k b a1 a2=>?_⟩,sm⟩
 ·by_cases hb:b = p
  ·subst hb;exact .inr ⟨gp,0,(a0 b).mpr rfl⟩
  ·rcases hs.ex b with ⟨z1,z2⟩ | ⟨z1,j,z2⟩
   ·refine .inl ⟨by rw [Xar z2];exact eq b hb,λj a=>?_⟩
    cases j with
    | zero=>exact hb ((a0 b).mp a)
    | succ j=>exact z2 j (at_cons.mp a)
   ·exact .inr ⟨by rw [eq b hb];exact own1 j b z2,j + 1,at_cons.mpr z2⟩
 ·cases j with
  | zero=>simp at q
  | succ j =>
   obtain ⟨v,e1,r1⟩:=hs.fr j d' (by simpa using q);exact ⟨v,by simpa using e1,Rep.mono s2 _ _ r1⟩
 ·cases j with
  | zero =>
   simp at q;subst q;exact ⟨p,rfl,o.mono (Same.refl _) mp⟩
  | succ j =>
   have q':δ[j]? = some (.ow d'):=by simpa using q
   obtain ⟨b,w1,w2⟩:=hs.ow j d' q';exact ⟨b,by simpa using w1,w2.mono s2 (Xbh ⟨_,q',True.intro,w1⟩)⟩
 ·cases j with
  | zero=>simp at q
  | succ j =>
   have q'':δ[j]? = some (.lk q' es):=by simpa using q
   obtain ⟨w1,w2⟩:=hs.lk j q' es q'';exact ⟨by simpa using w1,w2.mono s2 (Xbh ⟨_,q'',True.intro,w1⟩)⟩
 ·cases j with
  | zero =>
   cases k with
   | zero=>rfl
   | succ k =>
    have z:=(a0 b).mp a1;subst z;exact absurd (at_cons.mp a2) (nap k)
  | succ j =>
   cases k with
   | zero =>
    have z:=(a0 b).mp a2;subst z;exact absurd (at_cons.mp a1) (nap j)
   | succ k =>
    have:=hs.ne j k b (at_cons.mp a1) (at_cons.mp a2);omega
theorem Hs.behind_new {G1:Hp} {d:D} {v:V} (hs:Hs X.K H0 σ δ G H) (own1:∀ i b,At σ δ i b -> G1 b = none) (ok:RetOk X.K G G1 v (.new d)) :
∃ G2,Hs X.K H0 (some v :: σ) (.ow d :: δ) G2 (mix σ δ H G1) /\ Same G G2 /\ Same H (mix σ δ H G1):=by
 obtain ⟨G2,p,rfl,s2,gp,eq,o⟩:=ok;obtain ⟨h1,h2⟩:=hs.behind_own own1 s2 gp eq o;exact ⟨G2,h1,s2,h2⟩
theorem Hs.behind_two {G1:Hp} {x y:D} {v:V} (hs:Hs X.K H0 σ δ G H) (own1:∀ i b,At σ δ i b -> G1 b = none) (ok:RetOk X.K G G1 v (.two x y)) :
∃ G2 a p q,v = .ref a /\ G2 a = some (.tup [.ref p,.ref q]) /\ Hs X.K H0 (some (.ref p) :: some (.ref q) :: σ) (.ow x :: .ow y :: δ) G2 (mix σ δ H G1) /\ Same G G2 /\ Same H (mix σ δ H G1):=by
 obtain ⟨G2,a,p,q,rfl,s2,ga,ne,gp,gq,eq,ox,oy⟩:=ok;obtain ⟨o1,e1,_⟩:=ox.soft;have nap:∀ i,¬ At σ δ i p:=λi z=>by rw [own1 i p z] at e1;cases e1
 let G3:Hp:=λb=>if b = p then none else G1 b
 have g3:∀ b,b ≠ p -> G3 b = G1 b:=λb hb=>if_neg hb
 obtain ⟨h1,h2⟩:=hs.behind_own (G1:=G3) (G2:=G2) (d:=y) (p:=q) (λi b z=>by
   by_cases hb:b = p
   ·exact if_pos hb
   ·rw [g3 b hb];exact own1 i b z) s2 gq (λb hb=>by
   by_cases hp:b = p
   ·subst hp;rw [gp];exact (if_pos rfl).symm
   ·rw [g3 b hp];exact eq b hp hb) (oy.mono (Same.refl _) (g3 q (λz=>ne z.symm)))
 have m3:mix σ δ H G1 = upd (mix σ δ H G3) p o1:=by
  funext b
  by_cases hb:b = p
  ·subst hb;rw [Xac,Xar nap];exact e1
  ·rw [Xad hb]
   by_cases ha:∃ i,At σ δ i b
   ·obtain ⟨i,ai⟩:=ha;rw [Xbh ai,Xbh ai]
   ·rw [Xar λi z=>ha ⟨i,z⟩,Xar λi z=>ha ⟨i,z⟩,g3 b hb]
 have n3:mix σ δ H G3 p = none:=by rw [Xar nap];exact if_pos rfl
 refine ⟨G2,a,p,q,rfl,ga,?_,s2,?_⟩
 ·rw [m3]
  exact h1.fresh n3 (ox.mono (Same.refl _) (by rw [Xac,e1]))
 ·rw [m3];exact h2.trans (Xal n3)
end
structure Fn2 (P:Program) (w:World) (K:PySem.W.Frag) (mg:Str -> Option Value) (base:Heap) (k:Nat) (x:Str) (sp:Sp2):Prop where
 ex:∃ (f:Addr) (fd:FuncData) (ps:List Str),FnOk P w K mg base CX0 k f fd ps (Xag K sp) /\ mg x = some (.ref f) /\ PySem.W.keepIn K (.ref f) = true /\ Binds K fd ps []
section
variable {X:Cx} {H0:Hp} {k:Nat} {x:Str} {sp:Sp2} {e:Expr} {es:List Expr} {tr:RA} {p pos:Pos}
theorem Xmj {pins:List (Addr × Obj)} {σ:L2.St} {δ:List Sl} {G H:Hp} {s:Shared} {f:Addr} {fd:FuncData} {ps:List Str} {us:List Value} {vs:List V} {ds:List D} {Qd:Ret -> Prop} {Q:Value -> Shared -> Prop}
(F:FnOk X.prog X.w X.K X.mg X.base CX0 k f fd ps (Xag X.K sp)) (hr:Room k X.A) (hb:Binds X.K fd ps []) (hs:Hs X.K H0 σ δ G H) (I:Inv X pins σ H s) (r:Vals vs us) (rd:Reps X.K G ds vs) (h:sp ds Qd)
(q:∀ v G1 r u s',Inv X pins σ (mix σ δ H G1) s' -> RelV v u -> (∀ i b,At σ δ i b -> G1 b = none) -> RetOk X.K G G1 v r -> Qd r -> Q u s'):wpAny (model X.prog X.w) X.A (call (.ref f) us) Q X.xe s:=by
 have hh:Xag X.K sp vs G (λv G1=>∃ r,RetOk X.K G G1 v r /\ Qd r) E0:=⟨ds,Qd,rd,h,λv H' r ok q=>⟨r,ok,q⟩⟩;have hl:us.length = ps.length:=by rw [<- r.length];exact F.len _ _ _ _ hh
 have hbt:BindsTo s fd ⟨us,[]⟩ (ps.zip us):=by simpa using hb s us I.kIn (by simpa using hl)
 refine wpAny_call (codeAny_mono (F.run X.A X.stack s G ⟨us,[]⟩ us vs _ E0 hr (hs.env0 I) hbt r hh) λr s' hq=>?_)
 cases r with
 | error e=>exact False.elim hq
 | ok fl =>
  cases fl with
  | ret u =>
   obtain ⟨v,G1,I1,rv,⟨r,ok,q1⟩,own1⟩:=hs.behind I hq;exact q v G1 r u s' I1 rv own1 ok q1
  | next=>exact False.elim hq
  | brk=>exact False.elim hq
  | cont=>exact False.elim hq
def retQ (Qd:D -> Prop) (r:Ret):Prop:=match r with
 | .val d=>Qd d
 | .new d=>Qd d
 | .two x y=>Qd (.tup [x,y])
 | .fo x y=>Qd (.tup [x,y])
def retN (Qd:D -> Prop) (r:Ret):Prop:=match r with
 | .new d=>Qd d
 | _=>False
def rCall (sp:Sp2) (tr:RA) (δ:List Sl) (Q:D -> Prop):Prop:=tr δ λds=>sp ds (retQ Q)
def Xqx (sp:Sp2) (tr:RA) (δ:List Sl) (Q:D -> Prop):Prop:=tr δ λds=>sp ds (retN Q)
theorem e_call (F:Fn2 X.prog X.w X.K X.mg X.base k x sp) (hr:Room k X.A) (ha:PA2 X H0 (e :: es) tr) (hg:Gl X x:=by rfl) (hdb:(x == ("__debug__" : Str)) = false:=by decide)
(he:starEach (e :: es) X.env = (false,eval e X.env) :: starEach es X.env:=by rfl) (hpl:(backTo pos (starEach es X.env)).any (·.1) = false:=by rfl):PE2 X H0 (.Call (.Name x p) (e :: es) [] pos) (rCall sp tr):=by
 obtain ⟨f,fd,ps,F,hm,hk,hb⟩:=F.ex;intro pins s σ H Q I ⟨δ,G,Qd,hs,ht,kk⟩;refine wpAny_Call_Name_kw (Xnn I hg hm ?_ hdb);have hA:liftA X.K H0 tr σ H (λvs H'=>∃ G' ds,Nx X.K H0 σ δ G H G' H' /\ Reps X.K G' ds vs /\ sp ds (retQ Qd)):=⟨δ,G,_,hs,ht,λvs H' G' ds n r q=>⟨G',ds,n,r,q⟩⟩;refine PySem.W.callWith_K (h₀:=X.base) I.ok.mod.kin hk (thn (ha pos pins s σ H _ I hA) λus s1 ⟨vs,H1,I1,r,G',ds,n,rd,q⟩=>⟨I1.kIn,?_⟩) he hpl;refine Xmj F hr hb n.hs I1 r rd q λv G1 r u s' I2 rv own1 ok q2=>?_
 cases r with
 | val d =>
  obtain ⟨n2,r2⟩:=n.hs.behind_val own1 ok;exact ⟨v,_,I2,rv,kk v _ _ d (n.trans n2) r2 q2⟩
 | new d =>
  obtain ⟨G2,n2,sg,sh⟩:=n.hs.behind_new own1 ok;obtain ⟨G3,n3,s3,r3⟩:=n2.settle;exact ⟨v,_,I2,rv,kk v _ _ d ⟨n3,(n.g.trans sg).trans s3,n.h.trans sh⟩ r3 q2⟩
 | two x y =>
  obtain ⟨G2,a,p,q,rfl,ga,n2,sg,sh⟩:=n.hs.behind_two own1 ok;obtain ⟨G3,n3,s3,r3⟩:=n2.settle;obtain ⟨G4,n4,s4,r4⟩:=n3.settle;exact ⟨_,_,I2,rv,kk _ _ _ (.tup [x,y]) ⟨n4,((n.g.trans sg).trans s3).trans s4,n.h.trans sh⟩ (by simp only [Rep];exact ⟨a,_,rfl,s4 _ _ (s3 _ _ ga),Reps.cons (Rep.mono s4 _ _ r3) (Reps.cons r4 Reps.nil)⟩) q2⟩
 | fo x y =>
  obtain ⟨G2,a,vx,q,rfl,s2,ga,rx,gq,eq,oy⟩:=ok;obtain ⟨n2,sh⟩:=n.hs.behind_own own1 s2 gq eq oy;obtain ⟨G3,n3,s3,r3⟩:=n2.settle;exact ⟨_,_,I2,rv,kk _ _ _ (.tup [x,y]) ⟨n3,(n.g.trans s2).trans s3,n.h.trans sh⟩ (by simp only [Rep];exact ⟨a,_,rfl,s3 _ _ ga,Reps.cons (Rep.mono s3 _ _ rx) (Reps.cons r3 Reps.nil)⟩) q2⟩
theorem n_call (F:Fn2 X.prog X.w X.K X.mg X.base k x sp) (hr:Room k X.A) (ha:PA2 X H0 (e :: es) tr) (hg:Gl X x:=by rfl) (hdb:(x == ("__debug__" : Str)) = false:=by decide)
(he:starEach (e :: es) X.env = (false,eval e X.env) :: starEach es X.env:=by rfl) (hpl:(backTo pos (starEach es X.env)).any (·.1) = false:=by rfl):PN2 X H0 (.Call (.Name x p) (e :: es) [] pos) (Xqx sp tr):=by
 obtain ⟨f,fd,ps,F,hm,hk,hb⟩:=F.ex;intro pins s σ H Q I ⟨δ,G,Qd,hs,ht,kk⟩;refine wpAny_Call_Name_kw (Xnn I hg hm ?_ hdb);have hA:liftA X.K H0 tr σ H (λvs H'=>∃ G' ds,Nx X.K H0 σ δ G H G' H' /\ Reps X.K G' ds vs /\ sp ds (retN Qd)):=⟨δ,G,_,hs,ht,λvs H' G' ds n r q=>⟨G',ds,n,r,q⟩⟩;refine PySem.W.callWith_K (h₀:=X.base) I.ok.mod.kin hk (thn (ha pos pins s σ H _ I hA) λus s1 ⟨vs,H1,I1,r,G',ds,n,rd,q⟩=>⟨I1.kIn,?_⟩) he hpl;refine Xmj F hr hb n.hs I1 r rd q λv G1 r u s' I2 rv own1 ok q2=>?_
 cases r with
 | val d=>exact q2.elim
 | two x y=>exact q2.elim
 | fo x y=>exact q2.elim
 | new d =>
  obtain ⟨G2,n2,sg,sh⟩:=n.hs.behind_new own1 ok;exact ⟨v,_,I2,rv,kk v _ _ d n2 (n.g.trans sg) (n.h.trans sh) q2⟩
end
section
variable {prog:Program} {w:World} {A:Around} {E:Value -> Shared -> Prop}
theorem Xhr {it t:Addr} {items:Array Value} (hne:t ≠ it):∀ (n i:Nat) (s:Shared) (Q:List Value -> Shared -> Prop),s.heap.IsListIter it t i -> s.heap.IsList t items -> i + n <= items.size ->
 (∀ h',h'.IsListIter it t (i + n) -> Heap.SameBut it s.heap h' -> Q ((items.toList.drop i).take n) { s with heap:=h' }) -> wpAny (model prog w) A (draw (.ref it) n) Q E s
  | 0,i,s,Q,hit,_,_,hQ=>by
    show wpAny _ _ (pure []) Q E s
    exact wpAny_pure (by simpa using hQ s.heap hit (Heap.SameBut.refl ..))
  | n + 1,i,s,Q,hit,ht,hle,hQ=>by
    have hlt:i < items.size:=by omega
    show wpAny _ _ (pyNext (.ref it) >>= _) Q E s
    refine wpAny_bind (wpAny_pyNext_list_item hit ht (x:=items[i]) (by simp [hlt]) λh₁ hit₁ hs₁=>?_);refine wpAny_bind (wpAny_holding (Xhr hne n (i + 1) _ _ hit₁ (ht.at λo e=>(hs₁.2 t hne).trans e) (by omega) λh₂ hit₂ hs₂=>wpAny_pure ?_));have hd:items.toList.drop i = items[i] :: items.toList.drop (i + 1):=by simp [List.drop_eq_getElem_cons,hlt]
    have:=hQ h₂ (by rw [show i + (n + 1) = i + 1 + n by omega];exact hit₂) (hs₁.trans hs₂);rw [hd,List.take_succ_cons] at this;exact this
theorem Xdo {s:Shared} {t:Addr} {items:Array Value} {Q:List Value -> Shared -> Prop} (hh:A.handled = none) (ht:s.heap.IsList t items)
(hQ:∀ h',Heap.ExtBut s.heap.objs.size s.heap h' -> Q items.toList { s with heap:=h' }):wpAny (model prog w) A (unpackItems (.ref t) items.size none) Q E s:=by
 have hlt:t ≠ s.heap.objs.size:=by obtain ⟨o,ho,_⟩:=ht;exact Nat.ne_of_lt (Heap.lt_size ho)
 unfold unpackItems;refine wpAny_bind ?_
 ·unfold notIterableAtAll
  refine wpAny_bind (wpAny_specialOf ht.typeIs PySem.slot_list_iter.lookup ?_);refine wpAny_pure ?_;simp only [Bool.false_eq_true,if_false];refine wpAny_bind (wpAny_holding (wpAny_pyIter_list ht ?_));refine wpAny_bind (wpAny_holding (Xhr hlt items.size 0 _ _ ⟨_,Heap.get?_push_size _ rfl,rfl,rfl⟩ (ht.at λo e=>Heap.get?_push_of_some _ e) (by omega) λh₁ hit₁ hs₁=>?_));have hall:List.take items.size (List.drop 0 items.toList) = items.toList:=by
   rw [List.drop_zero];exact List.take_of_length_le (by simp)
  rw [hall];rw [if_neg (by simp)];have ht₁:h₁.IsList t items:=ht.at λo e=>(hs₁.2 t hlt).trans (Heap.get?_push_of_some _ e)
  refine wpAny_bind (wpAny_holding (wpAny_pyNext_list_end hh hit₁ ht₁ (by simp) λh₂ he₂=>?_));simp only [Option.isSome_none,Bool.false_eq_true,if_false];refine wpAny_pure (hQ h₂ λb o hb e=>he₂ b o hb (hs₁.extBut b o hb (Heap.get?_push_of_some _ e)))
theorem Xdd {s:Shared} {env:Env} {elts:List Expr} {x1} {pos:Pos} {t:Addr} {items:Array Value} {Q:Unit -> Shared -> Prop} (hh:A.handled = none) (ht:s.heap.IsList t items)
(hn:(assignEach elts env).length = items.size) (hstar:(assignEach elts env).findIdx? (·.1) = none)
(h:∀ h',Heap.ExtBut s.heap.objs.size s.heap h' -> wpAny (model prog w) A (assignInOrder ((assignEach elts env).map (·.2)) items.toList) Q E { s with heap:=h' }) :
wpAny (model prog w) A (assign (.Tuple elts x1 pos) env (.ref t)) Q E s:=by
 rw [PyProof.Rows.assign_Tuple];refine wpAny_bind (wpAny_standAt ?_);unfold unpack;rw [hn,hstar];exact wpAny_bind (wpAny_holding (Xdo hh ht h))
end
section
variable {X:Cx} {H0:Hp} {es:List Expr} {gs:RGs} {pos:Pos}
def gLstT (K:PySem.W.Frag) (n:Nat) (t:TGs):TG:=λv σ H Q=>∃ a xs,v = .ref a /\ SqL K H a xs /\ xs.length = n /\ t xs σ H Q
theorem Xuz {es:List Expr} {k:Nat} {t:TGs} {n:Nat} (hc:X.calm = true) (h:PGs X es t)
(hn:(assignEach es X.env).length = n:=by rfl) (hst:(assignEach es X.env).findIdx? (·.1) = none:=by rfl):PG X (.Tuple es k pos) (gLstT X.K n t):=by
 intro pins s σ H v u Q I r hw;obtain ⟨a,xs,e1,hq,hl,hw⟩:=hw;subst e1;cases r;obtain ⟨its,rv,ht,hz⟩:=I.list hq;refine Xdd (I.ok.hd hc) ht.isList (by simp [hn,<- hl,rv.length]) hst λh' hx=>?_
 have I1:L2.Inv X pins σ H { s with heap:=h' }:=I.kept (t':=s.toks) λb o e=>hx b o (Nat.ne_of_lt (Heap.lt_size e)) e
 exact h pins _ σ H xs _ Q I1 (by simpa using rv) hw
def gLst2 (n:Nat) (gs:RGs) (d:D) (δ:List Sl) (Q:List Sl -> Prop):Prop:=match d with
 | .lst ds=>ds.length = n /\ gs ds δ Q
 | _=>False
theorem g_lst {n k:Nat} (hc:X.calm = true) (h:PGs2 X H0 es gs) (hn:(assignEach es X.env).length = n:=by rfl) (hst:(assignEach es X.env).findIdx? (·.1) = none:=by rfl):PG2 X H0 (.Tuple es k pos) (gLst2 n gs) :=
 PG.weak (Xuz (n:=n) hc h hn hst) λv σ H Q ⟨δ,G,d,Qd,hs,r,h,k⟩=>by
  cases d with
  | lst ds =>
   simp only [Rep] at r;obtain ⟨a,vs,rfl,h2,h3⟩:=r;exact ⟨a,vs,rfl,hs.sub.seq h2,by rw [<- h3.length];exact h.1,δ,G,ds,Qd,hs,h3,h.2,k⟩
  | _=>exact h.elim
end
section
def Ite (K:PySem.W.Frag) (a:Addr):It :=
 ⟨λi H=>∃ xs x,SqL K H a xs /\ xs[i]? = some x,λi H x H'=>∃ p y,H p = none /\ x = .ref p /\ (∀ xs,SqL K H a xs -> xs[i]? = some y) /\ H' = upd H p (.tup [.int i,y]),λi H=>∃ xs,SqL K H a xs /\ xs.length <= i⟩
theorem Xlx {P:Program} {w:World} {K:PySem.W.Frag} {ts:List Expr} {k:Nat} {tp:Pos} (a e it:Addr) (hne:e ≠ it):Turn P w K (.Tuple ts k tp) (Ite K a) [e,it] e (λi h=>(∃ old,IsEnum h e it i old) /\ h.IsListIter it a i) where
 mem:=by simp
 obj:=λi h st b hb=>by
  obtain ⟨⟨old,h1⟩,o,h2,c,d⟩:=st
  rcases List.mem_cons.mp hb with z | z
  ·subst z;exact ⟨_,h1,λv z=>by cases z⟩
  ·have z:b = it:=by simpa using z
   subst z;exact ⟨o,h2,λv z=>by rw [d] at z;cases z⟩
 keep:=λi h h' st k=>by
  obtain ⟨⟨old,h1⟩,h2⟩:=st;exact ⟨⟨old,k e (by simp) _ h1⟩,h2.at λo q=>k it (by simp) o q⟩
 item:=by
  intro X hP hw hK hc i pins s σ H E I hf st hg;subst hP hw hK;obtain ⟨xs,x,hq,hx⟩:=hg;obtain ⟨its,rv,p,hz⟩:=I.list hq;obtain ⟨u,hu,ru⟩:=rv.get hx;obtain ⟨⟨old,h1⟩,h2⟩:=st;obtain ⟨f0,f1,f2,f3,f4,f5⟩:=hf e (by simp);obtain ⟨g0,g1,g2,g3,g4,g5⟩:=hf it (by simp);have fr:H s.heap.objs.size = none:=I.hok.fresh (Nat.le_refl _);refine wpAny_pyNext_enum_item h1 h2 p.isList (x:=u) (by simpa using hu) hne λh' ho hit' hT hsz hk=>⟨_,rfl,?_⟩
  have elt:e < s.heap.objs.size:=Heap.lt_size h1;have ilt:it < s.heap.objs.size:=by obtain ⟨o,q,_⟩:=h2;exact Heap.lt_size q
  refine wpAny_letOwnedTupleGo_enum ho λh3 he3 hs3=>?_
  replace hs3:Heap.SameBut e h' h3:=hs3;have kk:∀ b o,b ≠ e -> b ≠ it -> s.heap.get? b = some o -> h3.get? b = some o:=λb o hb hb' q=>(hs3.2 b hb).trans (hk b o hb hb' q)
  have nit:∀ b u,H b = some u -> b ≠ e /\ b ≠ it:=λb u q=>⟨(λz=>by rw [z,f0] at q;cases q),(λz=>by rw [z,g0] at q;cases q)⟩
  have hT3:h3.get? s.heap.objs.size = some { cls:=.type "tuple", data:=.seq #[.int i s.toks,u] }:=(hs3.2 _ (Nat.ne_of_gt elt)).trans hT;refine ⟨.ref s.heap.objs.size,upd H s.heap.objs.size (.tup [.int i,x]),?_,rfl,⟨_,x,fr,rfl,λys hy=>by rw [I.list_inj hy hq];exact hx,rfl⟩,⟨⟨u,by simpa using he3⟩,hit'.at λo q=>(hs3.2 it hne.symm).trans q⟩,λb hb=>?_⟩
  ·suffices h:L2.Inv X pins σ (upd H s.heap.objs.size (.tup [.int i,x])) { s with heap:=h3,gens:=s.gens,drawn:=s.drawn,toks:=s.toks + 1 } from h
   refine I.step (g':=s.gens) (d':=s.drawn) (ch:=[e,it]) (h':=h3) (t':=s.toks + 1) (λb hb=>?_) (λb o _ _ hc e' _=>?_) (λb o _ _ hc e' _=>⟨o.slots,?_⟩) (λb o hc e' n=>?_) (λb o hc e'=>⟨o,?_⟩) (λb ys q=>?_) (λb o u' q=>?_) (λb ps q=>⟨#[],?_⟩) (λm hm=>?_) (λb o q=>?_) I.bare
   ·rcases List.mem_cons.mp hb with z | z
    ·subst z;exact ⟨f3,f1,f4,f5⟩
    ·have z:b = it:=by simpa using z
     subst z;exact ⟨g3,g1,g4,g5⟩
   ·exact kk b o (λz=>hc (by simp [z])) (λz=>hc (by simp [z])) e'
   ·exact kk b o (λz=>hc (by simp [z])) (λz=>hc (by simp [z])) e'
   ·rw [Xad (Nat.ne_of_lt (Heap.lt_size e'))];exact n
   ·exact kk b o (λz=>hc (by simp [z])) (λz=>hc (by simp [z])) e'
   ·rw [Xad (Xaf q fr)];exact q
   ·rw [Xad (Xaf q fr)];exact q
   ·rw [Xad (Xaf q fr),q];simp
   ·obtain ⟨o,es,ep,ho',r⟩:=hm
    exact ⟨o,es,ep,kk _ o f1.symm g1.symm ho',r⟩
   ·by_cases hb:b = s.heap.objs.size
    ·subst hb
     rw [Xac] at q;cases q;exact ⟨by show 2 <= sizeLine;decide,[.int i s.toks,u],.cons ⟨_,rfl⟩ (.cons ru .nil),⟨_,hT3,rfl,_,rfl⟩⟩
    ·rw [Xad hb] at q
     refine (I.hok b o q).stay (λc v hc z=>?_) (λc z=>?_) (λc ys z=>?_)
     ·rcases hc with y | y
      ·rw [y] at z ⊢;exact kk b v (nit b _ q).1 (nit b _ q).2 z
      ·exact kk c v (nit c _ y).1 (nit c _ y).2 z
     ·rw [Xad (Xaf z fr)];exact z
     ·rw [Xad (Xaf z fr)];exact z
  ·have hb':b ≠ s.heap.objs.size:=by
    rcases List.mem_cons.mp hb with z | z
    ·subst z;exact Nat.ne_of_lt elt
    ·have z:b = it:=by simpa using z
     subst z;exact Nat.ne_of_lt ilt
   rw [Xad hb'];exact (hf b hb).1
 done:=by
  intro X hP hw hK hc i pins s σ H E I hf st hg;subst hP hw hK;obtain ⟨xs,hq,hx⟩:=hg;obtain ⟨its,rv,p,hz⟩:=I.list hq;obtain ⟨⟨old,h1⟩,h2⟩:=st;obtain ⟨f0,f1,f2,f3,f4,f5⟩:=hf it (by simp);have hl:=rv.length;exact wpAny_pyNext_enum_end (I.ok.hd hc) h1 h2 p.isList (by simp;omega) λh' eb=>⟨rfl,I.turned (t':=s.toks) (λb o hb e=>eb b o hb e) f0 f1 f3 f4 f5⟩
 self:=λ_ _ _ _ _ st h=>by
  obtain ⟨⟨old,h1⟩,_⟩:=st;exact wpAny_pyIter_enum h1 h
variable {X:Cx} {H0:Hp}
def iEnum (K:PySem.W.Frag) (ta:TA):TI:=λσ H R=>ta σ H λvs H1=>∃ a,vs = [.ref a] /\ (∃ xs,SqL K H1 a xs) /\ R (Ite K a) H1
theorem Xso {ts:List Expr} {k:Nat} {tp:Pos} {a:Expr} {ta:TA} {p pos:Pos} (hg:Gl X "enumerate") (hm:X.mg "enumerate" = none) (ha:PA X [a] ta) (hs:starEach [a] X.env = [(false,eval a X.env)]:=by rfl) :
PI X (.Tuple ts k tp) (.Call (.Name "enumerate" p) [a] [] pos) (iEnum X.K ta):=by
 intro pins s σ H R I h;refine wpAny_Call_Name_kw (Xhl I hg hm (u:=.type "enumerate") rfl ?_);refine PyProof.Rows.callWith_type1 (thn (ha pos pins s σ H _ I h) λus s1 ⟨vs,H1,I1,r1,q1⟩=>?_) hs rfl;obtain ⟨l,e,⟨xs,hq⟩,q⟩:=q1;subst e;obtain ⟨u,rfl,ru⟩:=vals1 r1;cases ru;obtain ⟨its,rv,pl,hz⟩:=I1.list hq;refine call_enumerate_list pl.isList λh' he hit hsz hk=>?_
 refine wpAny_pyIter_enum he ?_
 have I2:L2.Inv X pins σ H1 { s1 with heap:=h' }:=I1.kept (t':=s1.toks) hk;refine ⟨s1.heap.objs.size + 1,[s1.heap.objs.size + 1,s1.heap.objs.size],_,_,H1,rfl,I2,Xlx l _ _ (Nat.succ_ne_self _),⟨⟨_,by simpa using he⟩,hit⟩,λb hb=>?_,q⟩;have hb':s1.heap.objs.size <= b:=by
  rcases List.mem_cons.mp hb with z | z
  ·rw [z];exact Nat.le_succ _
  ·have z:b = s1.heap.objs.size:=by simpa using z
   rw [z];exact Nat.le_refl _
 exact I1.fpOk hb' (I1.hok.fresh hb')
def enumD (n:Nat):List D -> List D
 | []=>[]
 | d :: ds=>.tup [.int n,d] :: enumD (n + 1) ds
theorem Xhp (n:Nat) (ds:List D):(enumD n ds).length = ds.length:=by
 induction ds generalizing n with
 | nil=>rfl
 | cons d ds ih=>simp [enumD,ih]
theorem Xfq:∀ (n i:Nat) (ds:List D) (d:D),ds[i]? = some d -> (enumD n ds).drop i = .tup [.int (n + i:Nat),d] :: (enumD n ds).drop (i + 1)
 | n,_,[],_,h=>by simp at h
 | n,0,d' :: ds,d,h=>by simp at h;subst h;simp [enumD]
 | n,i + 1,d' :: ds,d,h=>by
  have:=Xfq (n + 1) i ds d (by simpa using h);simp only [enumD,List.drop_succ_cons];rw [this];simp only [Nat.add_assoc,Nat.add_comm 1 i]
def lst1 (ds:List D) (Q:List D -> Prop):Prop:=match ds with
 | [.lst xs]=>Q xs
 | _=>False
theorem Xta {ds:List D} {Q:List D -> Prop} (h:lst1 ds Q):∃ xs,ds = [.lst xs] /\ Q xs:=by
 unfold lst1 at h
 split at h
 ·exact ⟨_,rfl,h⟩
 ·exact h.elim
def rForE (tr:RA) (g:RG) (tb:RS) (E:Ends2) (δ:List Sl):Prop:=tr δ λds=>lst1 ds λxs=>loop g tb E (enumD 0 xs) δ
variable {ts:List Expr} {k:Nat} {tp p pos pos2:Pos} {a:Expr} {tr:RA} {g:RG} {tb:RS} {body:List Stmt}
theorem s_forE (hp:PassesOwn (model X.prog X.w) X.A X.env X.xe) (hc:X.calm = true) (hgl:Gl X "enumerate") (hm:X.mg "enumerate" = none) (ha:PA2 X H0 [a] tr) (hg:PG2 X H0 (.Tuple ts k tp) g) (hb:PSs2 X H0 body tb) (hst:starEach [a] X.env = [(false,eval a X.env)]:=by rfl)
(hs:∀ x,foldedSetIterable (.Call (.Name "enumerate" p) [a] [] pos2) X.env x = pure x:=by intro _;rfl):PS2 X H0 (.For (.Tuple ts k tp) (.Call (.Name "enumerate" p) [a] [] pos2) body [] pos) (rForE tr g tb) :=
 PS.weak (Xjo hp hc (Xso hgl hm ha hst) hg hb hs) λD σ H ⟨δ,G,E,hs,ht,go⟩=>⟨δ,G,_,hs,ht,λvs H1 G1 ds n1 r1 q1=>by
  obtain ⟨xs,rfl,q2⟩:=Xta q1;simp only [Reps,Rep] at r1;obtain ⟨v,r,rfl,⟨l,ws,rfl,h2,h3⟩,rfl⟩:=r1;refine ⟨l,rfl,⟨ws,n1.hs.sub.seq h2⟩,λi m σ' H'=>m = ws.length - i /\ i <= ws.length /\ ∃ δ' G',Hs X.K H0 σ' δ' G' H' /\ Same G1 G' /\ loop g tb E ((enumD 0 xs).drop i) δ',⟨ws.length,by simp,Nat.zero_le _,δ,G1,n1.hs,Same.refl _,q2⟩,?_⟩;rintro i m σ' H' ⟨rfl,hi,δ',G',h',s',q'⟩;have sq:SqL X.K H' l ws:=h'.sub.seq (s'.seq h2)
  by_cases hlt:i < ws.length
  ·have hx:ws[i]? = some ws[i]:=by simp [hlt]
   obtain ⟨d,ed,rd⟩:=h3.getV hx;rw [Xfq 0 i xs d ed] at q';refine .inr ⟨⟨ws,ws[i],sq,hx⟩,λσ2 H2=>∃ δ' G',Hs X.K H0 σ2 δ' G' H2 /\ Same G1 G' /\ loop g tb E ((enumD 0 xs).drop (i + 1)) δ',λσ2 H2 z=>⟨ws.length - (i + 1),by omega,rfl,hlt,z⟩,λx H2 ⟨p,y,hp,ex,hy,eh⟩=>?_⟩;subst ex eh;have ey:ws[i] = y:=by
    have:=hy ws sq;rw [hx] at this;exact Option.some.inj this
   obtain ⟨h4,s4⟩:=h'.laid (o:=.tup [.int i,y]) hp;refine ⟨δ',_,.tup [.int (0 + i:Nat),d],_,h4,?_,q',λσ2 H2 δ2 G2 h2' s2 q2=>⟨δ2,G2,_,h2',q2,⟨λσ3 H3 δ3 G3 h3' s3 ⟨δ4,f4,q3⟩=>⟨δ4,G3,h3'.forget f4,((s'.trans s4).trans s2).trans s3,q3⟩,go.rt,λσ3 H3 δ3 G3 h3' s3 q3=>go.nx σ3 H3 δ3 G3 h3' ((((n1.g.trans s').trans s4).trans s2).trans s3) q3,λσ3 H3 δ3 G3 h3' s3 ⟨δ4,f4,q3⟩=>⟨δ4,G3,h3'.forget f4,((s'.trans s4).trans s2).trans s3,q3⟩⟩⟩⟩;simp only [Rep];refine ⟨p,_,rfl,Xac,Reps.cons (by simp only [Rep];rw [Nat.zero_add]) (Reps.cons ?_ Reps.nil)⟩;subst ey;exact Rep.mono (s'.trans s4) _ _ rd
  ·have e:i = ws.length:=by omega
   subst e;refine .inl ⟨⟨ws,sq,Nat.le_refl _⟩,go.nx σ' H' δ' G' h' (n1.g.trans s') ?_⟩;rw [List.drop_of_length_le (by rw [Xhp,h3.length];exact Nat.le_refl _)] at q'
   exact q'⟩
end
def RepsB (K:PySem.W.Frag) (G H:Hp):List D -> List V -> Prop
 | [],vs=>vs = []
 | d :: ds,vs=>∃ v r,vs = v :: r /\ RepB K G H d v /\ RepsB K G H ds r
def Xnh (K:PySem.W.Frag) (H0:Hp) (t:RA):TA:=λσ H Q=>∃ δ G Qd,Hs K H0 σ δ G H /\ t δ Qd /\ ∀ vs H' G' ds,Nx K H0 σ δ G H G' H' -> RepsB K G' H' ds vs -> Qd ds -> Q vs H'
def PAB2 (X:Cx) (H0:Hp) (es:List Expr) (t:RA):Prop:=PA X es (Xnh X.K H0 t)
section
variable {X:Cx} {H0:Hp} {e:Expr} {t:RE} {pos p:Pos} {es:List Expr} {tr:RA} {x:Str} {id T:String}
theorem ab_nil:PAB2 X H0 [] rNil:=PA.weak Xcj λσ H Q ⟨δ,G,Qd,hs,ht,k⟩=>k [] H G [] (Nx.refl hs) rfl ht
theorem ab_cons (ha:PB2 X H0 e t) (hr:PAB2 X H0 es tr) (hs:starEach (e :: es) X.env = (false,eval e X.env) :: starEach es X.env:=by rfl):PAB2 X H0 (e :: es) (rCons t tr) :=
 PA.weak (Xbc ha hr hs) λσ H Q ⟨δ,G,Qd,hs,ht,k⟩=>⟨δ,G,_,hs,ht,λv H1 G1 d n1 r1 q1=>⟨δ,G1,_,n1.hs,q1,λvs H2 G2 ds n2 r2 q2=>k (v :: vs) H2 G2 (d :: ds) (n1.trans n2) ⟨v,vs,rfl,r1.mono n2.g n2.h,r2⟩ q2⟩⟩
def LfC (K:PySem.W.Frag) (r:List V -> Hp -> VK -> Prop) (r2:List D -> (D -> Prop) -> Prop):Prop :=
 ∀ (H0:Hp) (σ:L2.St) (δ:List Sl) (G H:Hp) (vs:List V) (ds:List D) (Qd:D -> Prop) (Q:VK),Hs K H0 σ δ G H -> RepsB K G H ds vs -> r2 ds Qd -> (∀ v H' G' d,Nx K H0 σ δ G H G' H' -> Rep K G' d v -> Qd d -> Q v H') -> r vs H Q
def LfN (K:PySem.W.Frag) (r:List V -> Hp -> VK -> Prop) (r2:List D -> (D -> Prop) -> Prop):Prop :=
 ∀ (H0:Hp) (σ:L2.St) (δ:List Sl) (G H:Hp) (vs:List V) (ds:List D) (Qd:D -> Prop) (Q:VK),Hs K H0 σ δ G H -> RepsB K G H ds vs -> r2 ds Qd -> (∀ v H' G' d,Hs K H0 (some v :: σ) (.ow d :: δ) G' H' -> Same G G' -> Same H H' -> Qd d -> Q v H') -> r vs H Q
def rCB (r2:List D -> (D -> Prop) -> Prop) (tr:RA) (δ:List Sl) (Q:D -> Prop):Prop:=tr δ λds=>r2 ds Q
variable {r:List V -> Hp -> VK -> Prop} {r2:List D -> (D -> Prop) -> Prop}
theorem Xtb (lf:LfC X.K r r2):∀ σ H Q,liftE X.K H0 (rCB r2 tr) σ H Q -> tCB r (Xnh X.K H0 tr) σ H Q:=λσ H Q ⟨δ,G,Qd,hs,ht,k⟩ =>
 ⟨δ,G,_,hs,ht,λvs H1 G1 ds n1 r1 q1=>lf H0 σ δ G1 H1 vs ds Qd Q n1.hs r1 q1 λv H2 G2 d n2 rr q2=>k v H2 G2 d (n1.trans n2) rr q2⟩
theorem Xjy (lf:LfN X.K r r2):∀ σ H Q,liftN X.K H0 (rCB r2 tr) σ H Q -> tCB r (Xnh X.K H0 tr) σ H Q:=λσ H Q ⟨δ,G,Qd,hs,ht,k⟩ =>
 ⟨δ,G,_,hs,ht,λvs H1 G1 ds n1 r1 q1=>lf H0 σ δ G1 H1 vs ds Qd Q n1.hs r1 q1 λv H2 G2 d n2 sg sh q2=>k v H2 G2 d n2 (n1.g.trans sg) (n1.h.trans sh) q2⟩
theorem Xen (hc:CallR X (.builtin id) r) (lf:LfC X.K r r2) (hm:X.mg x = none) (hv:bootBuiltins x = some (.builtin id)) (ha:PAB2 X H0 (e :: es) tr) (hg:Gl X x:=by rfl) (hn:x ≠ "__name__" := by decide) (hdb:(x == ("__debug__" : Str)) = false:=by decide)
(he:starEach (e :: es) X.env = (false,eval e X.env) :: starEach es X.env:=by rfl) (hpl:(backTo pos (starEach es X.env)).any (·.1) = false:=by rfl):PE2 X H0 (.Call (.Name x p) (e :: es) [] pos) (rCB r2 tr) :=
 PE.weak (Xci hc hg hm hv ha hn hdb he hpl) (Xtb lf)
theorem Xjv (hc:CallR X (.type T) r) (lf:LfN X.K r r2) (hm:X.mg x = none) (hv:bootBuiltins x = some (.type T)) (ha:PAB2 X H0 (e :: es) tr) (hg:Gl X x:=by rfl) (hn:x ≠ "__name__" := by decide) (hdb:(x == ("__debug__" : Str)) = false:=by decide)
(he:starEach (e :: es) X.env = (false,eval e X.env) :: starEach es X.env:=by rfl) (hpl:(backTo pos (starEach es X.env)).any (·.1) = false:=by rfl):PN2 X H0 (.Call (.Name x p) (e :: es) [] pos) (rCB r2 tr) :=
 PE.weak (Xch hc hg hm hv ha hn hdb he hpl) (Xjy lf)
def dLen (ds:List D) (Q:D -> Prop):Prop:=match ds with
 | [.lst xs]=>Q (.int xs.length)
 | [.tup xs]=>Q (.int xs.length)
 | _=>False
theorem Xvx {K:PySem.W.Frag}:LfC K (λxs H Q=>∃ p ys,xs = [.ref p] /\ (SqL K H p ys \/ SqT K H p ys) /\ Q (.int ys.length) H) dLen:=λH0 σ δ G H vs ds Qd Q hs r h k=>by
 unfold dLen at h
 split at h
 ·rename_i xs
  obtain ⟨v,rr,rfl,⟨a,ws,rfl,h2,h3⟩,h4⟩:=r;obtain rfl:rr = []:=h4;exact ⟨a,ws,rfl,.inl h2,k _ H G _ (Nx.refl hs) (by simp only [Rep];rw [h3.length]) h⟩
 ·rename_i xs
  obtain ⟨v,rr,rfl,⟨a,ws,rfl,h2,h3⟩,h4⟩:=r;obtain rfl:rr = []:=h4;exact ⟨a,ws,rfl,.inr (SqT.of h2),k _ H G _ (Nx.refl hs) (by simp only [Rep];rw [h3.length]) h⟩
 ·exact h.elim
theorem e_len (hm:X.mg "len" = none) (ha:PAB2 X H0 (e :: es) tr) (hg:Gl X "len" := by rfl)
(he:starEach (e :: es) X.env = (false,eval e X.env) :: starEach es X.env:=by rfl) (hpl:(backTo pos (starEach es X.env)).any (·.1) = false:=by rfl):PE2 X H0 (.Call (.Name "len" p) (e :: es) [] pos) (rCB dLen tr) :=
 Xen Xhw Xvx hm PySem.boot_len ha hg (by decide) (by decide) he hpl
def Xgo (ds:List D) (Q:D -> Prop):Prop:=match ds with
 | [.lst xs]=>Q (.lst xs)
 | [.tup xs]=>Q (.lst xs)
 | _=>False
theorem Xtg {K:PySem.W.Frag}:LfN K (λxs H Q=>∃ p ys,xs = [.ref p] /\ (SqL K H p ys \/ SqT K H p ys) /\ ∀ l,H l = none -> Q (.ref l) (upd H l (.lst ys))) Xgo:=λH0 σ δ G H vs ds Qd Q hs r h k=>by
 unfold Xgo at h
 split at h
 ·rename_i xs
  obtain ⟨v,rr,rfl,⟨a,ws,rfl,h2,h3⟩,h4⟩:=r;obtain rfl:rr = []:=h4;exact ⟨a,ws,rfl,.inl h2,λl hl=>k _ _ G (.lst xs) (hs.fresh hl ⟨ws,Xac,h3⟩) (Same.refl _) (Xal hl) h⟩
 ·rename_i xs
  obtain ⟨v,rr,rfl,⟨a,ws,rfl,h2,h3⟩,h4⟩:=r;obtain rfl:rr = []:=h4;exact ⟨a,ws,rfl,.inr (SqT.of h2),λl hl=>k _ _ G (.lst xs) (hs.fresh hl ⟨ws,Xac,h3⟩) (Same.refl _) (Xal hl) h⟩
 ·exact h.elim
theorem n_list (hm:X.mg "list" = none) (ha:PAB2 X H0 (e :: es) tr) (hg:Gl X "list" := by rfl)
(he:starEach (e :: es) X.env = (false,eval e X.env) :: starEach es X.env:=by rfl) (hpl:(backTo pos (starEach es X.env)).any (·.1) = false:=by rfl):PN2 X H0 (.Call (.Name "list" p) (e :: es) [] pos) (rCB Xgo tr) :=
 Xjv Xhv Xtg hm rfl ha hg (by decide) (by decide) he hpl
def two? (ds:List D) (f:Int -> Int -> Int) (Q:D -> Prop):Prop:=match ds with
 | [.int i,.int j]=>Q (.int (f i j))
 | _=>False
theorem Xvv {K:PySem.W.Frag} (f:Int -> Int -> Int):LfC K (λxs H Q=>∃ i j,xs = [.int i,.int j] /\ Q (.int (f i j)) H) (λds Q=>two? ds f Q):=λH0 σ δ G H vs ds Qd Q hs r h k=>by
 replace h:two? ds f Qd:=h;unfold two? at h
 split at h
 ·rename_i i j
  obtain ⟨v,rr,rfl,h1,v2,r3,rfl,h2,h4⟩:=r;obtain rfl:r3 = []:=h4;obtain rfl:v = .int i:=h1;obtain rfl:v2 = .int j:=h2;exact ⟨i,j,rfl,k _ H G _ (Nx.refl hs) (by simp only [Rep]) h⟩
 ·exact h.elim
theorem e_min2 (hc:X.calm = true) (hm:X.mg "min" = none) (ha:PAB2 X H0 (e :: es) tr) (hg:Gl X "min" := by rfl)
(he:starEach (e :: es) X.env = (false,eval e X.env) :: starEach es X.env:=by rfl) (hpl:(backTo pos (starEach es X.env)).any (·.1) = false:=by rfl):PE2 X H0 (.Call (.Name "min" p) (e :: es) [] pos) (rCB (λds Q=>two? ds (λi j=>if j < i then j else i) Q) tr) :=
 Xen (Xok hc) (Xvv λi j=>if j < i then j else i) hm rfl ha hg (by decide) (by decide) he hpl
end
section
variable {X:Cx} {H0:Hp} {e:Expr} {t:RE} {pos cpos apos p:Pos} {x:Str}
def rApp (i:Nat) (te:RE) (E:Ends2) (δ:List Sl):Prop:=match δ[i]? with
 | some (.ow (.lst ds))=>te δ λd=>ds.length < sizeLine /\ E.nx (δ.set i (.ow (.lst (ds ++ [d]))))
 | _=>False
theorem s_app (i:Nat) (he:PE2 X H0 e t) (hN:X.N[i]? = some x:=by rfl) (hv:Vis X.env.scope x:=by first | exact Or.inl rfl | exact Or.inr (Or.inl rfl) | exact Or.inr (Or.inr rfl)) (hd:(x == ("__debug__" : Str)) = false:=by decide)
(hcd:(x == ("__classdict__" : Str)) = false:=by decide)
(hbase:attributeBase (.Name x p) "append" X.env (eval (.Name x p) X.env) = eval (.Name x p) X.env:=by rfl)
(hfew:((backTo cpos (starEach [e] X.env)).all (λx=>!x.1) && (backToKw cpos (keywordEach [] X.env)).all (λx=>x.1.isSome)
&& decide ([e].length + ([]:List Keyword).length + (if ([]:List Keyword).isEmpty then 0 else 1) < 30)) = true:=by rfl)
(hline:(apos.endLine == cpos.line) = true:=by rfl) (hs:starEach [e] X.env = (false,eval e X.env) :: starEach [] X.env:=by rfl) (hplain:(backTo cpos (starEach [] X.env)).any (·.1) = false:=by rfl)
(hsw:swapsWith (.Call (.Attribute (.Name x p) "append" apos) [e] [] cpos) none pos.line X.env = pure false:=by rfl) :
PS2 X H0 (.Expr (.Call (.Attribute (.Name x p) "append" apos) [e] [] cpos) pos) (rApp i t) :=
 PS.weak (Xsh (pe_bm PySem.F.plainAttrs_list PySem.F.slot_list_append PySem.F.type_list_append Xeb (Xhi hN hv hd hcd) (Xbc he Xcj hs) hbase hfew hline hs hplain) hsw) λD σ H ⟨δ,G,E,hs,ht,go⟩=>by
  unfold rApp at ht
  split at ht
  ·rename_i ds e0
   obtain ⟨q,e1,vs,h1,h2⟩:=hs.ow i _ e0;refine ⟨.ref q,e1,.inl ⟨rfl,vs,SqL.of h1⟩,δ,G,_,hs,ht,λv H1 G1 d n1 r1 q1=>?_⟩;obtain ⟨q',e1',vs',h1',h2'⟩:=n1.hs.ow i _ e0;rw [e1] at e1';cases e1';refine ⟨q,vs',v,rfl,rfl,h1',by rw [<- h2'.length];exact q1.1,?_⟩;exact go.nx _ _ _ G1 (n1.hs.write (d':=.lst (ds ++ [d])) e0 e1 ⟨_,Xac,Reps.append h2' (Reps.cons r1 Reps.nil)⟩) n1.g q1.2
  ·exact ht.elim
end
theorem Xan {g:RG} {tb:RS} {E:Ends2} (I:List D -> List Sl -> Prop) (fin:∀ δ,I [] δ -> E.nx δ)
 (step:∀ d r δ (L:List Sl -> Prop),(∀ δ2 δ3,I r δ3 -> Fg δ2 δ3 -> L δ2) -> I (d :: r) δ -> g d δ λδ1=>tb { nx:=L,rt:=E.rt,bk:=E.nx,ct:=L } δ1):∀ ds δ,I ds δ -> loop g tb E ds δ
  | [],δ,h=>fin δ h
  | d :: r,δ,h=>step d r δ (λδ2=>∃ δ3,Fg δ2 δ3 /\ loop g tb E r δ3) (λδ2 δ3 h' f=>⟨δ3,f,Xan I fin step r δ3 h'⟩) h
theorem cmulR {i j:Int} (h1 : -(2 ^ 64) < j:=by decide) (h2:j < 2 ^ 64:=by decide):CMul i j:=.inr ⟨h1,h2⟩
theorem cmulL {i j:Int} (h1 : -(2 ^ 64) < i:=by decide) (h2:i < 2 ^ 64:=by decide):CMul i j:=.inl ⟨h1,h2⟩
theorem cpow {i j:Int} (h1:0 <= j:=by decide) (h2:j <= 1000000:=by decide) (h3:i.natAbs < 2 ^ 64:=by decide):CPow i j:=⟨h1,h2,h3⟩
theorem Xub {ns:List Int} {n:Nat} (h:n < ns.length):atI (ns.map D.int) (n:Int) = some (.int (ns.getD n 0)):=Xjd (by simp [h])
section
variable {c:RT} {t u:RS} {E:Ends2} {δ:List Sl}
end
def RdT (t:RT) (δ:List Sl) (b:Bool):Prop:=∀ Q:Bool -> Prop,Q b -> t δ Q
def RdE (t:RE) (δ:List Sl) (d:D):Prop:=∀ Q:D -> Prop,Q d -> t δ Q
section
variable {δ:List Sl} {u v:RT} {ta tb:RE} {b1 b2:Bool}
theorem or_by (h1:RdT u δ b1) (h2:b1 = false -> RdT v δ b2):RdT (rOr u v) δ (b1 || b2):=λQ q=>h1 _ ⟨(λe=>by subst e;exact q),(λe=>by subst e;exact h2 rfl Q q)⟩
theorem Xdm (h1:RdT u δ b1) (h2:b1 = true -> RdT v δ b2):RdT (rAnd u v) δ (b1 && b2):=λQ q=>h1 _ ⟨(λe=>by subst e;exact h2 rfl Q q),(λe=>by subst e;exact q)⟩
theorem Xck (h1:RdT u δ b1):RdT (rNot u) δ (!b1):=λQ q=>h1 _ q
theorem Xuc (h1:RdE ta δ (.bl b1)) (h2:b1 = true -> RdE tb δ (.bl b2)):RdE (rAndV ta tb) δ (.bl (b1 && b2)):=λQ q=>h1 _ ⟨(λe=>by subst e;exact h2 rfl Q q),(λe=>by subst e;exact q)⟩
theorem RdT.eq (h:RdT u δ b1) (e:b1 = b2):RdT u δ b2:=e ▸ h
theorem or_ff (h1:RdT u δ false) (h2:RdT v δ false):RdT (rOr u v) δ false:=or_by h1 λ_=>h2
theorem and_f (h1:RdT u δ false):RdT (rAnd u v) δ false:=λQ q=>h1 _ (Two.f q)
theorem Xjf (h1:RdE ta δ (.bl true)) (h2:RdE tb δ (.bl true)):RdE (rAndV ta tb) δ (.bl true):=Xuc h1 λ_=>h2
end
section
variable {c:RT} {t u:RS} {E:Ends2} {δ:List Sl} {te:RE}
theorem if_t (h:RdT c δ true) (k:t E δ):rIf c t u E δ:=⟨h _ (Two.t k)⟩
theorem if_f (h:RdT c δ false) (k:u E δ):rIf c t u E δ:=⟨h _ (Two.f k)⟩
theorem if_by {b:Bool} (h:RdT c δ b) (k1:b = true -> t E δ) (k2:b = false -> u E δ):rIf c t u E δ:=⟨h _ ⟨k1,k2⟩⟩
theorem if_p {p:Prop} [Decidable p] (h:RdT c δ (decide p)) (k1:p -> t E δ) (k2:¬ p -> u E δ):rIf c t u E δ:=⟨h _ (Two.dec k1 k2)⟩
theorem if_eq {p:Prop} [Decidable p] (h:RdT c δ (false != decide p)) (k1:p -> t E δ) (k2:¬ p -> u E δ):rIf c t u E δ:=if_p (h.eq (by cases decide p <;> rfl)) k1 k2
theorem Xuo {d:D} (h:RdE te δ d) (q:E.rt (.val d) δ):rRet te E δ:=h _ q
end
inductive Drawn:List Int -> List Int -> Prop where
 | nil:Drawn [] []
 | cons {d s:Int} {ds ss:List Int} (h0:0 <= d) (h1:d < s) (h:Drawn ds ss):Drawn (d :: ds) (s :: ss)
theorem Drawn.two {s1 s2:Int} {P:List Int -> Prop} (h:∀ a b:Int,0 <= a -> a < s1 -> 0 <= b -> b < s2 -> P [a,b]):∀ out,Drawn out [s1,s2] -> P out:=λout w=>by
 cases w with | cons a0 a1 w=>cases w with | cons b0 b1 w=>cases w with | nil=>exact h _ _ a0 a1 b0 b1
theorem Drawn.four {s1 s2 s3 s4:Int} {P:List Int -> Prop} (h:∀ a b c d:Int,0 <= a -> a < s1 -> 0 <= b -> b < s2 -> 0 <= c -> c < s3 -> 0 <= d -> d < s4 -> P [a,b,c,d]):∀ out,Drawn out [s1,s2,s3,s4] -> P out:=λout w=>by
 cases w with | cons a0 a1 w=>cases w with | cons b0 b1 w=>cases w with | cons c0 c1 w=>cases w with | cons d0 d1 w=>cases w with | nil=>exact h _ _ _ _ a0 a1 b0 b1 c0 c1 d0 d1
theorem Drawn.six {s1 s2 s3 s4 s5 s6:Int} {P:List Int -> Prop} (h:∀ a b c d e f:Int,0 <= a -> a < s1 -> 0 <= b -> b < s2 -> 0 <= c -> c < s3 -> 0 <= d -> d < s4 -> 0 <= e -> e < s5 -> 0 <= f -> f < s6 -> P [a,b,c,d,e,f]):∀ out,Drawn out [s1,s2,s3,s4,s5,s6] -> P out:=λout w=>by
 cases w with | cons a0 a1 w=>cases w with | cons b0 b1 w=>cases w with | cons c0 c1 w=>cases w with | cons d0 d1 w=>cases w with | cons e0 e1 w=>cases w with | cons f0 f1 w=>cases w with | nil=>exact h _ _ _ _ _ _ a0 a1 b0 b1 c0 c1 d0 d1 e0 e1 f0 f1
theorem Drawn.snoc {out ss:List Int} {d s:Int} (h:Drawn out ss) (h0:0 <= d) (h1:d < s):Drawn (out ++ [d]) (ss ++ [s]):=by
 induction h with
 | nil=>exact .cons h0 h1 .nil
 | cons a b _ ih=>exact .cons a b ih
theorem cpos {n:Int} (h:0 < n:=by decide):0 < n:=h
theorem sz1:1 <= sizeLine:=by decide
theorem sz2:2 <= sizeLine:=by decide
theorem sz3:3 <= sizeLine:=by decide
theorem sz4:4 <= sizeLine:=by decide
theorem sz5:5 <= sizeLine:=by decide
theorem sz6:6 <= sizeLine:=by decide
theorem sz9:9 <= sizeLine:=by decide
theorem sz12:12 <= sizeLine:=by decide
mutual
def eqD:D -> D -> Bool
 | .non,y=>match y with
  | .non=>true
  | _=>false
 | .bl a,y=>match y with
  | .bl b=>a == b
  | .int b=>(if a then 1 else 0) == b
  | _=>false
 | .int a,y=>match y with
  | .bl b=>a == (if b then 1 else 0)
  | .int b=>a == b
  | _=>false
 | .str a,y=>match y with
  | .str b=>a == b
  | _=>false
 | .tup xs,y=>match y with
  | .tup ys=>eqDs xs ys
  | _=>false
 | .lst xs,y=>match y with
  | .lst ys=>eqDs xs ys
  | _=>false
 | .dK _,_=>false
 | .dT _,_=>false
 | .adr _,_=>false
 | .exc _ _,_=>false
def eqDs:List D -> List D -> Bool
 | [],ys=>match ys with
  | []=>true
  | _=>false
 | x :: xs,ys=>match ys with
  | y :: ys=>eqD x y && eqDs xs ys
  | _=>false
end
def Xaa:Nat -> D -> Bool
 | _,.non=>true
 | _,.bl _=>true
 | _,.int _=>true
 | _,.str _=>true
 | n + 1,.tup xs=>xs.all (Xaa n)
 | n + 1,.lst xs=>xs.all (Xaa n)
 | _,_=>false
theorem Xgl:∀ {xs ys:List D},eqDs xs ys = true -> xs.length = ys.length
 | [],[],_=>rfl
 | [],_ :: _,h=>by simp [eqDs] at h
 | _ :: _,[],h=>by simp [eqDs] at h
 | x :: xs,y :: ys,h=>by
  simp only [eqDs,Bool.and_eq_true] at h;simp [Xgl h.2]
theorem Xda:∀ (xs ys:List D),xs.length = ys.length -> (List.range xs.length).all (λj=>eqD (xs.getD j .non) (ys.getD j .non)) = eqDs xs ys
 | [],[],_=>rfl
 | [],_ :: _,h=>by simp at h
 | _ :: _,[],h=>by simp at h
 | x :: xs,y :: ys,h=>by
  have ih:=Xda xs ys (by simpa using h);rw [List.length_cons,List.range_succ_eq_map,List.all_cons,List.all_map,eqDs];rw [<- ih];rfl
mutual
theorem Xki:∀ (n:Nat) (d:D),Xaa n d = true -> eqD d d = true
 | _,.non,_=>by simp [eqD]
 | _,.bl _,_=>by simp [eqD]
 | _,.int _,_=>by simp [eqD]
 | _,.str _,_=>by simp [eqD]
 | 0,.tup _,h=>by simp [Xaa] at h
 | 0,.lst _,h=>by simp [Xaa] at h
 | n + 1,.tup xs,h=>by simp only [Xaa] at h;simp only [eqD];exact Xem n xs h
 | n + 1,.lst xs,h=>by simp only [Xaa] at h;simp only [eqD];exact Xem n xs h
 | n,.dK _,h=>by cases n <;> simp [Xaa] at h
 | n,.dT _,h=>by cases n <;> simp [Xaa] at h
 | n,.adr _,h=>by cases n <;> simp [Xaa] at h
 | n,.exc _ _,h=>by cases n <;> simp [Xaa] at h
theorem Xem:∀ (n:Nat) (xs:List D),xs.all (Xaa n) = true -> eqDs xs xs = true
 | _,[],_=>by simp [eqDs]
 | n,x :: xs,h=>by
  rw [List.all_cons,Bool.and_eq_true] at h;simp only [eqDs,Bool.and_eq_true];exact ⟨Xki n x h.1,Xem n xs h.2⟩
end
section
variable {X:Cx} {pins:List (Addr × Obj)} {σ:L2.St} {H G:Hp} {s:Shared}
open SeqAt
theorem Xay {K:PySem.W.Frag} {a:Addr} {xs ys:List V} (I:L2.Inv X pins σ H s) (h1:SqL X.K H a xs) (h2:SqT X.K H a ys):False:=by
 obtain ⟨its,r,pl,_⟩:=I.list h1;obtain ⟨its',r',pt,_⟩:=I.tuple h2;exact ne_of_list_tuple pl.isList pt rfl
mutual
theorem Xmn (I:L2.Inv X pins σ H s):∀ (n:Nat) (d d':D) (v:V),Xaa n d = true -> Xaa n d' = true -> Rep X.K H d v -> Rep X.K H d' v -> eqD d d' = true:=λn d d' v p p' r r'=>by
 cases d with
 | adr _=>cases n <;> simp [Xaa] at p
 | exc _ _=>cases n <;> simp [Xaa] at p
 | dK _=>cases n <;> simp [Xaa] at p
 | dT _=>cases n <;> simp [Xaa] at p
 | non=>cases d' <;> simp_all [Rep,eqD]
 | bl b=>cases d' <;> simp_all [Rep,eqD]
 | int b=>cases d' <;> simp_all [Rep,eqD]
 | str b=>cases d' <;> simp_all [Rep,eqD]
 | tup xs =>
  simp only [Rep] at r;obtain ⟨a,vs,rfl,h1,h2⟩:=r
  cases d' with
  | tup ys =>
   simp only [Rep] at r';obtain ⟨a',ws,e,h3,h4⟩:=r';cases e;obtain rfl:=I.tuple_inj (SqT.of h1) (SqT.of h3)
   cases n with
   | zero=>simp [Xaa] at p
   | succ n =>
    simp only [Xaa] at p p';simp only [eqD];exact Xim I n xs ys _ p p' h2 h4
  | lst ys =>
   simp only [Rep] at r';obtain ⟨a',ws,e,h3,h4⟩:=r';cases e;exact (Xay (K:=X.K) I h3 (SqT.of h1)).elim
  | dK _=>cases n <;> simp [Xaa] at p'
  | dT _=>cases n <;> simp [Xaa] at p'
  | adr _=>cases n <;> simp [Xaa] at p'
  | exc _ _=>cases n <;> simp [Xaa] at p'
  | _=>simp [Rep] at r'
 | lst xs =>
  simp only [Rep] at r;obtain ⟨a,vs,rfl,h1,h2⟩:=r
  cases d' with
  | lst ys =>
   simp only [Rep] at r';obtain ⟨a',ws,e,h3,h4⟩:=r';cases e;obtain rfl:=I.list_inj h1 h3
   cases n with
   | zero=>simp [Xaa] at p
   | succ n =>
    simp only [Xaa] at p p';simp only [eqD];exact Xim I n xs ys _ p p' h2 h4
  | tup ys =>
   simp only [Rep] at r';obtain ⟨a',ws,e,h3,h4⟩:=r';cases e;exact (Xay (K:=X.K) I h1 (SqT.of h3)).elim
  | dK _=>cases n <;> simp [Xaa] at p'
  | dT _=>cases n <;> simp [Xaa] at p'
  | adr _=>cases n <;> simp [Xaa] at p'
  | exc _ _=>cases n <;> simp [Xaa] at p'
  | _=>simp [Rep] at r'
termination_by n=>(n,0)
theorem Xim (I:L2.Inv X pins σ H s):∀ (n:Nat) (xs ys:List D) (vs:List V),xs.all (Xaa n) = true -> ys.all (Xaa n) = true -> Reps X.K H xs vs -> Reps X.K H ys vs -> eqDs xs ys = true
 | n,[],ys,vs,_,_,h1,h2=>by
  simp only [Reps] at h1;subst h1
  cases ys with
  | nil=>simp [eqDs]
  | cons y ys=>simp [Reps] at h2
 | n,x :: xs,ys,vs,p,p',h1,h2=>by
  simp only [Reps] at h1;obtain ⟨v,r,rfl,h3,h4⟩:=h1
  cases ys with
  | nil=>simp [Reps] at h2
  | cons y ys =>
   simp only [Reps] at h2;obtain ⟨v',r',e,h5,h6⟩:=h2;cases e;rw [List.all_cons,Bool.and_eq_true] at p p';simp only [eqDs,Bool.and_eq_true];exact ⟨Xmn I n x y v p.1 p'.1 h3 h5,Xim I n xs ys r p.2 p'.2 h4 h6⟩
termination_by n xs=>(n,xs.length + 1)
end
end
section
variable {X:Cx} {pins:List (Addr × Obj)} {σ:L2.St} {H G:Hp} {s:Shared}
open SeqAt
theorem Xkd {A:Around} {n:Nat} {xs ys:List D} {vs ws:List V} {its its2:List Value} (hx:Reps X.K H xs vs) (hy:Reps X.K H ys ws) (rx:Vals vs its) (ry:Vals ws its2) (px:xs.all (Xaa n) = true) (py:ys.all (Xaa n) = true)
(ih:∀ d d' v v' u u',Xaa n d = true -> Xaa n d' = true -> Rep X.K H d v -> Rep X.K H d' v' -> L2.RelV v u -> L2.RelV v' u' -> EqAt A s u u' (eqD d d')) :
∀ j (h1:j < its.toArray.size) (h2:j < its2.toArray.size),EqAt A s its.toArray[j] its2.toArray[j] (eqD (xs.getD j .non) (ys.getD j .non)):=by
 intro j h1 h2;have l1:its.length = xs.length:=by rw [<- rx.length,hx.length]
 have l2:its2.length = ys.length:=by rw [<- ry.length,hy.length]
 have h1':j < xs.length:=by simpa [l1] using h1
 have h2':j < ys.length:=by simpa [l2] using h2
 obtain ⟨v,ev,rv⟩:=hx.get (i:=j) (d:=xs[j]) (by simp [h1']);obtain ⟨v',ev',rv'⟩:=hy.get (i:=j) (d:=ys[j]) (by simp [h2']);obtain ⟨u,eu,ru⟩:=rx.get ev;obtain ⟨u',eu',ru'⟩:=ry.get ev';have e1:its.toArray[j] = u:=by
  have : its[j]? = some its[j]:=by simp [l1,h1']
  rw [this] at eu;simpa using eu
 have e2:its2.toArray[j] = u':=by
  have : its2[j]? = some its2[j]:=by simp [l2,h2']
  rw [this] at eu';simpa using eu'
 have g1:xs.getD j .non = xs[j]:=by simp [List.getD,h1']
 have g2:ys.getD j .non = ys[j]:=by simp [List.getD,h2']
 rw [e1,e2,g1,g2];exact ih _ _ v v' u u' (List.all_eq_true.mp px _ (List.getElem_mem h1')) (List.all_eq_true.mp py _ (List.getElem_mem h2')) rv rv' ru ru'
theorem Xpq {A:Around} {n:Nat} {xs ys:List D} {vs ws:List V} {a b:Addr} (I:L2.Inv X pins σ H s) (ha:SqL X.K H a vs) (hb:SqL X.K H b ws) (hx:Reps X.K H xs vs) (hy:Reps X.K H ys ws) (px:xs.all (Xaa n) = true) (py:ys.all (Xaa n) = true) (hu:A.units < cLine)
(ih:∀ d d' v v' u u',Xaa n d = true -> Xaa n d' = true -> Rep X.K H d v -> Rep X.K H d' v' -> L2.RelV v u -> L2.RelV v' u' -> EqAt A.in1 s u u' (eqD d d')):RcAt A s (.ref a) (.ref b) (eqDs xs ys) /\ RcNeAt A s (.ref a) (.ref b) (!eqDs xs ys):=by
 obtain ⟨its,rx,pl,_⟩:=I.list ha;obtain ⟨its2,ry,pl2,_⟩:=I.list hb;have l1:its.length = xs.length:=by rw [<- rx.length,hx.length]
 have l2:its2.length = ys.length:=by rw [<- ry.length,hy.length]
 by_cases hl:xs.length = ys.length
 ·have e:=Xda xs ys hl
  have it:=Xkd hx hy rx ry px py ih;rw [<- e,<- l1];exact ⟨RcAt.lists pl.isList pl2.isList (by simp [l1,l2,hl]) hu it,RcNeAt.lists pl.isList pl2.isList (by simp [l1,l2,hl]) hu it⟩
 ·have e:eqDs xs ys = false:=by
   cases q:eqDs xs ys with
   | false=>rfl
   | true=>exact absurd (Xgl q) hl
  rw [e];exact ⟨RcAt.lists_lengths pl.isList pl2.isList (by simp [l1,l2,hl]) hu,RcNeAt.lists_lengths pl.isList pl2.isList (by simp [l1,l2,hl]) hu⟩
theorem Xly {A:Around} {n:Nat} {xs ys:List D} {vs ws:List V} {a b:Addr} (I:L2.Inv X pins σ H s) (ha:SqT X.K H a vs) (hb:SqT X.K H b ws) (hx:Reps X.K H xs vs) (hy:Reps X.K H ys ws) (px:xs.all (Xaa n) = true) (py:ys.all (Xaa n) = true) (hu:A.units < cLine)
(ih:∀ d d' v v' u u',Xaa n d = true -> Xaa n d' = true -> Rep X.K H d v -> Rep X.K H d' v' -> L2.RelV v u -> L2.RelV v' u' -> EqAt A.in1 s u u' (eqD d d')):RcAt A s (.ref a) (.ref b) (eqDs xs ys) /\ RcNeAt A s (.ref a) (.ref b) (!eqDs xs ys):=by
 obtain ⟨its,rx,pl,_⟩:=I.tuple ha;obtain ⟨its2,ry,pl2,_⟩:=I.tuple hb;have l1:its.length = xs.length:=by rw [<- rx.length,hx.length]
 have l2:its2.length = ys.length:=by rw [<- ry.length,hy.length]
 have it:=Xkd hx hy rx ry px py ih;have e:((List.range (min its.toArray.size its2.toArray.size)).all (λj=>eqD (xs.getD j .non) (ys.getD j .non)) && its.toArray.size == its2.toArray.size) = eqDs xs ys:=by
  simp only [List.size_toArray,l1,l2]
  by_cases hl:xs.length = ys.length
  ·rw [<- Xda xs ys hl,<- hl,Nat.min_self];simp
  ·have e:eqDs xs ys = false:=by
    cases q:eqDs xs ys with
    | false=>rfl
    | true=>exact absurd (Xgl q) hl
   rw [e,beq_false_of_ne hl,Bool.and_false]
 have r1:=RcAt.tuples pl pl2 hu it;have r2:=RcNeAt.tuples pl pl2 hu it;rw [e] at r1;refine ⟨r1,?_⟩
 first | (rw [e] at r2;exact r2) | (rw [<- e];exact r2)
theorem Xjc (I:L2.Inv X pins σ H s):∀ (n:Nat) (A:Around) (d d':D) (v v':V) (u u':Value),A.units + n < cLine -> Xaa n d = true -> Xaa n d' = true -> Rep X.K H d v -> Rep X.K H d' v' -> L2.RelV v u -> L2.RelV v' u' ->
(RcAt A s u u' (eqD d d') /\ RcNeAt A s u u' (!eqD d d')) /\ EqAt A s u u' (eqD d d'):=by
 intro n
 induction n with
 | zero =>
  intro A d d' v v' u u' hu p p' r r' ru ru'
  cases d <;> (try simp [Xaa] at p) <;> cases d' <;> (try simp [Xaa] at p')
  all_goals
   simp only [Rep] at r r';subst r r';simp only [L2.RelV] at ru ru'
   first | (subst ru) | (obtain ⟨t,rfl⟩:=ru)
   first | (subst ru') | (obtain ⟨t',rfl⟩:=ru')
   simp only [eqD]
  ·exact ⟨⟨.none_none,.none_none⟩,.same _⟩
  ·exact ⟨⟨.none_bool _,.none_bool _⟩,.none_bool _⟩
  ·exact ⟨⟨.none_int _ _,.none_int _ _⟩,.none_int _ _⟩
  ·exact ⟨⟨.none_str _ _,.none_str _ _⟩,.none_str _ _⟩
  ·exact ⟨⟨.bool_none _,.bool_none _⟩,.bool_none _⟩
  ·exact ⟨⟨.bool_bool _ _,.bool_bool _ _⟩,.bool_bool _ _⟩
  ·exact ⟨⟨.bool_int _ _ _,.bool_int _ _ _⟩,.bool_int _ _ _⟩
  ·exact ⟨⟨.bool_str _ _ _,.bool_str _ _ _⟩,.bool_str _ _ _⟩
  ·exact ⟨⟨.int_none _ _,.int_none _ _⟩,.int_none _ _⟩
  ·exact ⟨⟨.int_bool _ _ _,.int_bool _ _ _⟩,.int_bool _ _ _⟩
  ·exact ⟨⟨.int_int _ _ _ _,.int_int _ _ _ _⟩,.int_int _ _ _ _⟩
  ·exact ⟨⟨.int_str _ _ _ _,.int_str _ _ _ _⟩,.int_str _ _ _ _⟩
  ·exact ⟨⟨.str_none _ _,.str_none _ _⟩,.str_none _ _⟩
  ·exact ⟨⟨.str_bool _ _ _,.str_bool _ _ _⟩,.str_bool _ _ _⟩
  ·exact ⟨⟨.str_int _ _ _ _,.str_int _ _ _ _⟩,.str_int _ _ _ _⟩
  ·exact ⟨⟨.str_str _ _ _ _,.str_str _ _ _ _⟩,.str_str _ _ _ _⟩
 | succ n ih =>
  intro A d d' v v' u u' hu p p' r r' ru ru';have hu0:A.units < cLine:=by omega
  have ihe:∀ d d' v v' u u',Xaa n d = true -> Xaa n d' = true -> Rep X.K H d v -> Rep X.K H d' v' -> L2.RelV v u -> L2.RelV v' u' -> EqAt A.in1 s u u' (eqD d d'):=λd d' v v' u u' a b c e f g=>(ih A.in1 d d' v v' u u' (by show A.units + 1 + n < cLine;omega) a b c e f g).2
  have refs:∀ {a b:Addr} {k:Bool},RcAt A s (.ref a) (.ref b) k -> (a = b -> k = true) -> EqAt A s (.ref a) (.ref b) k:=λ{a b k} h e=>by
   by_cases hab:a = b
   ·subst hab;rw [e rfl];exact .same _
   ·exact .of_refs hab h
  cases d with
  | dK _=>simp [Xaa] at p
  | dT _=>simp [Xaa] at p
  | adr _=>simp [Xaa] at p
  | exc _ _=>simp [Xaa] at p
  | tup xs =>
   have r0:=r;simp only [Rep] at r;obtain ⟨a,vs,rfl,h1,h2⟩:=r;simp only [L2.RelV] at ru;subst ru;obtain ⟨its,rx,pt,_⟩:=I.tuple (SqT.of h1);simp only [Xaa] at p
   cases d' with
   | dK _=>simp [Xaa] at p'
   | dT _=>simp [Xaa] at p'
   | adr _=>simp [Xaa] at p'
   | exc _ _=>simp [Xaa] at p'
   | tup ys =>
    have r0':=r';have p0':=p';simp only [Rep] at r';obtain ⟨b,ws,rfl,h3,h4⟩:=r';simp only [L2.RelV] at ru';subst ru';simp only [Xaa] at p';have t:=Xly I (SqT.of h1) (SqT.of h3) h2 h4 p p' hu0 ihe;simp only [eqD];refine ⟨t,refs t.1 λe=>?_⟩;subst e;have:=Xmn I (n + 1) (.tup xs) (.tup ys) _ (by simpa only [Xaa] using p) p0' r0 r0'
    simpa only [eqD] using this
   | lst ys =>
    simp only [Rep] at r';obtain ⟨b,ws,rfl,h3,h4⟩:=r';simp only [L2.RelV] at ru';subst ru';obtain ⟨its2,ry,pl,_⟩:=I.list h3;simp only [eqD];exact ⟨⟨.tuple_list pt pl.isList hu0,.tuple_list pt pl.isList hu0⟩,.tuple_list pt pl.isList hu0⟩
   | non=>simp only [Rep] at r';subst r';simp only [L2.RelV] at ru';subst ru';simp only [eqD];exact ⟨⟨.tuple_none pt hu0,.tuple_none pt hu0⟩,.tuple_none pt hu0⟩
   | bl b=>simp only [Rep] at r';subst r';simp only [L2.RelV] at ru';subst ru';simp only [eqD];exact ⟨⟨.tuple_bool _ pt hu0,.tuple_bool _ pt hu0⟩,.tuple_bool _ pt hu0⟩
   | int b=>simp only [Rep] at r';subst r';simp only [L2.RelV] at ru';obtain ⟨t',rfl⟩:=ru';simp only [eqD];exact ⟨⟨.tuple_int _ _ pt hu0,.tuple_int _ _ pt hu0⟩,.tuple_int _ _ pt hu0⟩
   | str b=>simp only [Rep] at r';subst r';simp only [L2.RelV] at ru';obtain ⟨t',rfl⟩:=ru';simp only [eqD];exact ⟨⟨.tuple_str _ _ pt hu0,.tuple_str _ _ pt hu0⟩,.tuple_str _ _ pt hu0⟩
  | lst xs =>
   have r0:=r;simp only [Rep] at r;obtain ⟨a,vs,rfl,h1,h2⟩:=r;simp only [L2.RelV] at ru;subst ru;obtain ⟨its,rx,pl,_⟩:=I.list h1;have pt:=pl.isList;simp only [Xaa] at p
   cases d' with
   | dK _=>simp [Xaa] at p'
   | dT _=>simp [Xaa] at p'
   | adr _=>simp [Xaa] at p'
   | exc _ _=>simp [Xaa] at p'
   | lst ys =>
    have r0':=r';have p0':=p';simp only [Rep] at r';obtain ⟨b,ws,rfl,h3,h4⟩:=r';simp only [L2.RelV] at ru';subst ru';simp only [Xaa] at p';have t:=Xpq I h1 h3 h2 h4 p p' hu0 ihe;simp only [eqD];refine ⟨t,refs t.1 λe=>?_⟩;subst e;have:=Xmn I (n + 1) (.lst xs) (.lst ys) _ (by simpa only [Xaa] using p) p0' r0 r0'
    simpa only [eqD] using this
   | tup ys =>
    simp only [Rep] at r';obtain ⟨b,ws,rfl,h3,h4⟩:=r';simp only [L2.RelV] at ru';subst ru';obtain ⟨its2,ry,pt2,_⟩:=I.tuple (SqT.of h3);simp only [eqD];exact ⟨⟨.list_tuple pt pt2 hu0,.list_tuple pt pt2 hu0⟩,.list_tuple pt pt2 hu0⟩
   | non=>simp only [Rep] at r';subst r';simp only [L2.RelV] at ru';subst ru';simp only [eqD];exact ⟨⟨.list_none pt hu0,.list_none pt hu0⟩,.list_none pt hu0⟩
   | bl b=>simp only [Rep] at r';subst r';simp only [L2.RelV] at ru';subst ru';simp only [eqD];exact ⟨⟨.list_bool _ pt hu0,.list_bool _ pt hu0⟩,.list_bool _ pt hu0⟩
   | int b=>simp only [Rep] at r';subst r';simp only [L2.RelV] at ru';obtain ⟨t',rfl⟩:=ru';simp only [eqD];exact ⟨⟨.list_int _ _ pt hu0,.list_int _ _ pt hu0⟩,.list_int _ _ pt hu0⟩
   | str b=>simp only [Rep] at r';subst r';simp only [L2.RelV] at ru';obtain ⟨t',rfl⟩:=ru';simp only [eqD];exact ⟨⟨.list_str _ _ pt hu0,.list_str _ _ pt hu0⟩,.list_str _ _ pt hu0⟩
  | non =>
   cases d' with
   | tup ys =>
    simp only [Rep] at r r';subst r;obtain ⟨b,ws,rfl,h3,h4⟩:=r';simp only [L2.RelV] at ru ru';subst ru ru';obtain ⟨_,_,pt,_⟩:=I.tuple (SqT.of h3);simp only [eqD];exact ⟨⟨.none_tuple pt hu0,.none_tuple pt hu0⟩,.none_tuple pt hu0⟩
   | lst ys =>
    simp only [Rep] at r r';subst r;obtain ⟨b,ws,rfl,h3,h4⟩:=r';simp only [L2.RelV] at ru ru';subst ru ru';obtain ⟨_,_,pl,_⟩:=I.list h3;simp only [eqD];exact ⟨⟨.none_list pl.isList hu0,.none_list pl.isList hu0⟩,.none_list pl.isList hu0⟩
   | dK _=>simp [Xaa] at p'
   | dT _=>simp [Xaa] at p'
   | adr _=>simp [Xaa] at p'
   | exc _ _=>simp [Xaa] at p'
   | _=>exact ih A _ _ v v' u u' (by omega) (by cases n <;> rfl) (by cases n <;> rfl) r r' ru ru'
  | bl x =>
   cases d' with
   | tup ys =>
    simp only [Rep] at r r';subst r;obtain ⟨b,ws,rfl,h3,h4⟩:=r';simp only [L2.RelV] at ru ru';subst ru ru';obtain ⟨_,_,pt,_⟩:=I.tuple (SqT.of h3);simp only [eqD];exact ⟨⟨.bool_tuple _ pt hu0,.bool_tuple _ pt hu0⟩,.bool_tuple _ pt hu0⟩
   | lst ys =>
    simp only [Rep] at r r';subst r;obtain ⟨b,ws,rfl,h3,h4⟩:=r';simp only [L2.RelV] at ru ru';subst ru ru';obtain ⟨_,_,pl,_⟩:=I.list h3;simp only [eqD];exact ⟨⟨.bool_list _ pl.isList hu0,.bool_list _ pl.isList hu0⟩,.bool_list _ pl.isList hu0⟩
   | dK _=>simp [Xaa] at p'
   | dT _=>simp [Xaa] at p'
   | adr _=>simp [Xaa] at p'
   | exc _ _=>simp [Xaa] at p'
   | _=>exact ih A _ _ v v' u u' (by omega) (by cases n <;> rfl) (by cases n <;> rfl) r r' ru ru'
  | int x =>
   cases d' with
   | tup ys =>
    simp only [Rep] at r r';subst r;obtain ⟨b,ws,rfl,h3,h4⟩:=r';simp only [L2.RelV] at ru ru';obtain ⟨t,rfl⟩:=ru;subst ru';obtain ⟨_,_,pt,_⟩:=I.tuple (SqT.of h3);simp only [eqD];exact ⟨⟨.int_tuple _ _ pt hu0,.int_tuple _ _ pt hu0⟩,.int_tuple _ _ pt hu0⟩
   | lst ys =>
    simp only [Rep] at r r';subst r;obtain ⟨b,ws,rfl,h3,h4⟩:=r';simp only [L2.RelV] at ru ru';obtain ⟨t,rfl⟩:=ru;subst ru';obtain ⟨_,_,pl,_⟩:=I.list h3;simp only [eqD];exact ⟨⟨.int_list _ _ pl.isList hu0,.int_list _ _ pl.isList hu0⟩,.int_list _ _ pl.isList hu0⟩
   | dK _=>simp [Xaa] at p'
   | dT _=>simp [Xaa] at p'
   | adr _=>simp [Xaa] at p'
   | exc _ _=>simp [Xaa] at p'
   | _=>exact ih A _ _ v v' u u' (by omega) (by cases n <;> rfl) (by cases n <;> rfl) r r' ru ru'
  | str x =>
   cases d' with
   | tup ys =>
    simp only [Rep] at r r';subst r;obtain ⟨b,ws,rfl,h3,h4⟩:=r';simp only [L2.RelV] at ru ru';obtain ⟨t,rfl⟩:=ru;subst ru';obtain ⟨_,_,pt,_⟩:=I.tuple (SqT.of h3);simp only [eqD];exact ⟨⟨.str_tuple _ _ pt hu0,.str_tuple _ _ pt hu0⟩,.str_tuple _ _ pt hu0⟩
   | lst ys =>
    simp only [Rep] at r r';subst r;obtain ⟨b,ws,rfl,h3,h4⟩:=r';simp only [L2.RelV] at ru ru';obtain ⟨t,rfl⟩:=ru;subst ru';obtain ⟨_,_,pl,_⟩:=I.list h3;simp only [eqD];exact ⟨⟨.str_list _ _ pl.isList hu0,.str_list _ _ pl.isList hu0⟩,.str_list _ _ pl.isList hu0⟩
   | dK _=>simp [Xaa] at p'
   | dT _=>simp [Xaa] at p'
   | adr _=>simp [Xaa] at p'
   | exc _ _=>simp [Xaa] at p'
   | _=>exact ih A _ _ v v' u u' (by omega) (by cases n <;> rfl) (by cases n <;> rfl) r r' ru ru'
end
section
variable {X:Cx}
def rEqU (K:PySem.W.Frag) (neg:Bool):R2:=λx y H Q=>∃ d d',Xaa 60 d = true /\ Xaa 60 d' = true /\ Rep K H d x /\ Rep K H d' y /\ Q (.bl (neg != eqD d d')) H
theorem Xrc (hu:X.A.units + 64 < cLine):OpR X (compareOp .Eq) (rEqU X.K false):=by
 intro pins s σ H x y v u Q I rx ry h;obtain ⟨d,d',p,p',r,r',q⟩:=h;exact (Xjc I 60 X.A d d' x y v u (by omega) p p' r r' rx ry).1.1 X.prog X.w X.xe _ ⟨.bl _,H,I,rfl,by simpa using q⟩
theorem Xdz (hu:X.A.units + 64 < cLine):OpR X (compareOp .NotEq) (rEqU X.K true):=by
 intro pins s σ H x y v u Q I rx ry h;obtain ⟨d,d',p,p',r,r',q⟩:=h;exact (Xjc I 60 X.A d d' x y v u (by omega) p p' r r' rx ry).1.2 X.prog X.w X.xe _ ⟨.bl _,H,I,rfl,by simpa using q⟩
def dEqU (neg:Bool) (x y:D) (Q:D -> Prop):Prop:=Xaa 60 x = true /\ Xaa 60 y = true /\ Q (.bl (neg != eqD x y))
theorem Xcm {K:PySem.W.Frag} {neg:Bool}:Lf2 K (rEqU K neg) (dEqU neg):=λH0 σ δ G H x y dx dy Qd Q hs rx ry h k =>
 ⟨dx,dy,h.1,h.2.1,rx.all hs.sub,ry.all hs.sub,k _ H G _ (Nx.refl hs) (by simp only [Rep]) h.2.2⟩
end
def kindD:D -> String
 | .non => "NoneType"
 | .bl _ => "bool"
 | .int _ => "int"
 | .str _ => "str"
 | .tup _ => "tuple"
 | .lst _ => "list"
 | .dK _ => "dict"
 | .dT _ => "dict"
 | .adr _ => "adr"
 | .exc _ _ => "adr"
def noAdr (d:D) (P:Prop):Prop:=match d with
 | .adr _=>False
 | .exc _ _=>False
 | _=>P
theorem Xjt {d:D} {P:Prop} (h:noAdr d P):kindD d ≠ "adr" /\ P:=by
 cases d <;> first | exact h.elim | exact ⟨by simp [kindD],h⟩
def Xke (k T:String):Bool:=k == T || (k == "bool" && T == "int")
structure KindOk (K:PySem.W.Frag) (T:String):Prop where
 h:∀ k ∈ ["NoneType", "bool", "int", "str", "tuple", "list", "dict"],PySem.W.kitOne K (.type k) (.type T) = some (Xke k T)
section
variable {X:Cx} {H0:Hp} {e:Expr} {t:RE} {pos p p2:Pos} {T:String} {x:Str}
theorem Xwm {pins:List (Addr × Obj)} {σ:L2.St} {H:Hp} {s:Shared} {d:D} {v:V} {u:Value} {Q:Value -> Shared -> Prop} {E:Value -> Shared -> Prop} {A:Around} (k:KindOk X.K T) (I:L2.Inv X pins σ H s) (nk:kindD d ≠ "adr") (r:Rep X.K H d v) (ru:L2.RelV v u) (h:∀ tk,Q (.bool (Xke (kindD d) T)) { s with toks:=tk }) :
wpAny (model X.prog X.w) A (call (.builtin "isinstance") [u,.type T]) Q E s:=by
 cases d with
 | adr p=>exact absurd rfl nk
 | exc _ _=>exact absurd rfl nk
 | non=>simp only [Rep] at r;subst r;cases (show u = Value.none from ru);exact PySem.W.kia_one PySem.W.kitx_none I.kIn True.intro (k.h _ (by simp)) (λz=>nomatch z) h
 | bl b=>simp only [Rep] at r;subst r;cases (show u = Value.bool b from ru);exact PySem.W.kia_one PySem.W.kitx_bool I.kIn True.intro (k.h _ (by simp)) (λz=>nomatch z) h
 | int b=>simp only [Rep] at r;subst r;obtain ⟨t,q⟩:=(show ∃ t,u = Value.int b t from ru);cases q;exact PySem.W.kia_one PySem.W.kitx_int I.kIn True.intro (k.h _ (by simp)) (λz=>nomatch z) h
 | str b=>simp only [Rep] at r;subst r;obtain ⟨t,q⟩:=(show ∃ t,u = Value.str b t from ru);cases q;exact PySem.W.kia_one PySem.W.kitx_str I.kIn True.intro (k.h _ (by simp)) (λz=>nomatch z) h
 | tup xs =>
  simp only [Rep] at r;obtain ⟨a,vs,rfl,h1,_⟩:=r;cases (show u = Value.ref a from ru);obtain ⟨_,_,⟨o,h2,h3,_⟩,_⟩:=I.tuple (SqT.of h1);exact PySem.W.kia_one PySem.W.kitx_tuple I.kIn ⟨o,h2,h3⟩ (k.h _ (by simp)) (λz=>nomatch z) h
 | lst xs =>
  simp only [Rep] at r;obtain ⟨a,vs,rfl,h1,_⟩:=r;cases (show u = Value.ref a from ru);obtain ⟨_,_,⟨o,n,h2,h3,_⟩,_⟩:=I.list h1;exact PySem.W.kia_one PySem.W.kitx_list I.kIn ⟨o,h2,h3⟩ (k.h _ (by simp)) (λz=>nomatch z) h
 | dK xs =>
  simp only [Rep] at r;obtain ⟨a,vs,rfl,h1,_⟩:=r;cases (show u = Value.ref a from ru);obtain ⟨_,_,_,_,o,_,_,h2,h3,_⟩:=dk_rd I.hok h1;exact PySem.W.kia_one PySem.W.kitx_dict I.kIn ⟨o,h2,h3.1⟩ (k.h _ (by simp)) (λz=>nomatch z) h
 | dT xs =>
  simp only [Rep] at r;obtain ⟨a,vs,rfl,h1,_⟩:=r;cases (show u = Value.ref a from ru);obtain ⟨_,_,_,_,o,_,_,h2,h3,_⟩:=dt_rd I.hok h1;exact PySem.W.kia_one PySem.W.kitx_dict I.kIn ⟨o,h2,h3.1⟩ (k.h _ (by simp)) (λz=>nomatch z) h
def rIsiV (K:PySem.W.Frag) (T:String):List V -> Hp -> VK -> Prop:=λxs H Q=>∃ d v,xs = [v,.ty T] /\ kindD d ≠ "adr" /\ Rep K H d v /\ Q (.bl (Xke (kindD d) T)) H
theorem Xqi (k:KindOk X.K T):CallR X (.builtin "isinstance") (rIsiV X.K T):=by
 intro pins s σ H xs us Q I r h;obtain ⟨d,v,rfl,nk,rd,q⟩:=h
 cases r with
 | cons r1 r =>
  cases r with
  | cons r2 r =>
   cases r with
   | nil =>
    cases (show _ = Value.type T from r2);exact Xwm k I nk rd r1 λtk=>⟨.bl _,H,I.tok _,rfl,q⟩
def rIsi (T:String) (te:RE) (δ:List Sl) (Q:D -> Prop):Prop:=te δ λd=>noAdr d (Q (.bl (Xke (kindD d) T)))
theorem e_isi (k:KindOk X.K T) (hm:X.mg "isinstance" = none) (hm2:X.mg x = none) (ha:PB2 X H0 e t) (hv:bootBuiltins x = some (.type T):=by rfl) (hg:Gl X "isinstance" := by rfl) (hg2:Gl X x:=by rfl) (hn:x ≠ "__name__" := by decide) (hdb:(x == ("__debug__" : Str)) = false:=by decide)
(he:starEach (e :: [.Name x p2]) X.env = (false,eval e X.env) :: starEach [.Name x p2] X.env:=by rfl) (he2:starEach [.Name x p2] X.env = (false,eval (.Name x p2) X.env) :: starEach [] X.env:=by rfl)
(hpl:(backTo pos (starEach [.Name x p2] X.env)).any (·.1) = false:=by rfl):PE2 X H0 (.Call (.Name "isinstance" p) [e,.Name x p2] [] pos) (rIsi T t) :=
 PE.weak (Xci (Xqi k) hg hm rfl (Xbc ha (Xbc (Xsr hg2 hm2 hv (v:=.ty T) rfl hn hdb) Xcj he2) he) (by decide) (by decide) he hpl) λσ H Q ⟨δ,G,Qd,hs,ht,kk⟩ =>
  ⟨δ,G,_,hs,ht,λv H1 G1 d n1 r1 q1=>⟨d,v,rfl,(Xjt q1).1,r1.all n1.hs.sub,kk _ H1 G1 _ n1 (by simp only [Rep]) (Xjt q1).2⟩⟩
end
theorem vals_ints:∀ {ns:List Int} {us:List Value},Vals (ns.map V.int) us -> ∃ xs:List (Int × Tok),us = xs.map (λp=>.int p.1 p.2) /\ xs.map (·.1) = ns
 | [],us,r=>by cases r;exact ⟨[],rfl,rfl⟩
 | n :: ns,us,r=>by
  cases r with
  | cons r1 r2 =>
   obtain ⟨t,rfl⟩:=(show ∃ t,_ = Value.int n t from r1);obtain ⟨xs,rfl,h⟩:=vals_ints r2;exact ⟨(n,t) :: xs,rfl,by simp [h]⟩
theorem Xdw (xs:List (Int × Tok)):∀ k,preSum (numAt xs.toArray) k = ((xs.take k).map (·.1)).sum
 | 0=>rfl
 | k + 1=>by
  rw [preSum,Xdw xs k]
  by_cases h:k < xs.length
  ·have e:xs.take (k + 1) = xs.take k ++ [xs[k]]:=by rw [List.take_succ];simp [h]
   rw [e,List.map_append,List.sum_append];simp [numAt,h]
  ·rw [List.take_of_length_le (by omega),List.take_of_length_le (by omega)]
   simp [numAt,Nat.le_of_not_lt h]
section
variable {X:Cx} {H0:Hp} {e:Expr} {es:List Expr} {tr:RA} {pos p:Pos}
def rSumV (K:PySem.W.Frag):List V -> Hp -> VK -> Prop:=λxs H Q=>∃ a ns,xs = [.ref a] /\ SqL K H a (List.map V.int ns) /\ Q (.int ns.sum) H
theorem Xqh (hc:X.calm = true):CallR X (.builtin "sum") (rSumV X.K):=by
 intro pins s σ H xs us Q I r h;obtain ⟨a,ns,rfl,hq,q⟩:=h
 cases r with
 | cons r1 r =>
  cases r;cases (show _ = Value.ref a from r1);obtain ⟨its,rv,pl,_⟩:=I.list hq;obtain ⟨ps,rfl,hp⟩:=vals_ints rv;refine sum_intListG (xs:=ps.toArray) (I.ok.hd hc) (by simpa [intItems] using pl.isList) λh' tk t' hk=>⟨.int ns.sum,H,?_,⟨t',?_⟩,q⟩
  ·exact I.kept (t':=tk) hk
  ·rw [Xdw,List.take_of_length_le (by simp),hp]
def dSum (ds:List D) (Q:D -> Prop):Prop:=∃ ns:List Int,ds = [.lst (ns.map D.int)] /\ Q (.int ns.sum)
theorem Xvw {K:PySem.W.Frag}:LfC K (rSumV K) dSum:=λH0 σ δ G H vs ds Qd Q hs r h k=>by
 obtain ⟨ns,rfl,q⟩:=h;obtain ⟨v,rr,rfl,⟨a,ws,rfl,h2,h3⟩,h4⟩:=r;obtain rfl:rr = []:=h4;rw [Reps.ints_inv h3] at h2;exact ⟨a,ns,rfl,h2,k _ H G _ (Nx.refl hs) (by simp only [Rep]) q⟩
theorem e_sum (hc:X.calm = true) (hm:X.mg "sum" = none) (ha:PAB2 X H0 (e :: es) tr) (hg:Gl X "sum" := by rfl)
(he:starEach (e :: es) X.env = (false,eval e X.env) :: starEach es X.env:=by rfl) (hpl:(backTo pos (starEach es X.env)).any (·.1) = false:=by rfl):PE2 X H0 (.Call (.Name "sum" p) (e :: es) [] pos) (rCB dSum tr) :=
 Xen (Xqh hc) Xvw hm rfl ha hg (by decide) (by decide) he hpl
end
section
variable {X:Cx} {H0:Hp} {e:Expr} {te:RE} {pos pos':Pos} {x:Str}
def rAug (f:Int -> Int -> Int) (i:Nat) (te:RE) (E:Ends2) (δ:List Sl):Prop:=match δ[i]? with
 | some (.fr (.int a))=>te δ λd=>match d with
  | .int b=>E.nx (δ.set i (.fr (.int (f a b))))
  | _=>False
 | _=>False
theorem s_aug {op:Operator} {f:Int -> Int -> Int} (ho:PIp X op (ipI f)) (i:Nat) (hN:X.N.Nodup) (he:PE2 X H0 e te) (hi:X.N[i]? = some x:=by rfl) (hx:Loc X.env.scope x:=by first | exact Or.inl rfl | exact Or.inr rfl)
(hf:X.fn x = true \/ X.env.scope.names.lookup x = some .local:=by first | exact .inl rfl | exact .inr rfl | assumption):PS2 X H0 (.AugAssign (.Name x pos') op e pos) (rAug f i te) :=
 PS.weak (Xux hN hi hx he ho hf) λD σ H ⟨δ,G,E,hs,ht,g⟩=>by
  unfold rAug at ht
  split at ht
  ·rename_i a ea
   obtain ⟨v,e1,r⟩:=hs.fr i _ ea;obtain rfl:v = .int a:=by simpa only [Rep] using r
   refine ⟨_,e1,δ,G,_,hs,ht,λv H1 G1 d n1 r1 q1=>?_⟩
   cases d with
   | int b =>
    obtain rfl:v = .int b:=by simpa only [Rep] using r1
    obtain ⟨G',h',s'⟩:=n1.hs.put (d:=.int (f a b)) (v:=.int (f a b)) ea rfl (by simp only [Rep]);exact ⟨a,b,rfl,rfl,g.nx _ H1 _ G' h' (n1.g.trans s') q1⟩
   | _=>exact q1.elim
  ·exact ht.elim
theorem s_augadd (i:Nat) (hN:X.N.Nodup) (he:PE2 X H0 e te) (hi:X.N[i]? = some x:=by rfl) (hx:Loc X.env.scope x:=by first | exact Or.inl rfl | exact Or.inr rfl)
 (hf:X.fn x = true \/ X.env.scope.names.lookup x = some .local:=by first | exact .inl rfl | exact .inr rfl | assumption):PS2 X H0 (.AugAssign (.Name x pos') .Add e pos) (rAug (λi j=>i + j) i te):=s_aug Xwo i hN he hi hx hf
end
theorem mem7 {P:String -> Prop} (h1:P "NoneType") (h2:P "bool") (h3:P "int") (h4:P "str") (h5:P "tuple") (h6:P "list") (h7:P "dict"):∀ k ∈ ["NoneType", "bool", "int", "str", "tuple", "list", "dict"],P k:=by
 intro k hk;simp only [List.mem_cons,List.not_mem_nil,or_false] at hk
 rcases hk with rfl | rfl | rfl | rfl | rfl | rfl | rfl
 all_goals assumption
theorem Xpv (K:PySem.W.Frag):KindOk K "int" := ⟨mem7 (by first | rfl | kernel_rfl) (by first | rfl | kernel_rfl) (by first | rfl | kernel_rfl) (by first | rfl | kernel_rfl) (by first | rfl | kernel_rfl) (by first | rfl | kernel_rfl) (by first | rfl | kernel_rfl)⟩
theorem Xns (K:PySem.W.Frag):KindOk K "bool" := ⟨mem7 (by first | rfl | kernel_rfl) (by first | rfl | kernel_rfl) (by first | rfl | kernel_rfl) (by first | rfl | kernel_rfl) (by first | rfl | kernel_rfl) (by first | rfl | kernel_rfl) (by first | rfl | kernel_rfl)⟩
theorem Xpu (K:PySem.W.Frag):KindOk K "str" := ⟨mem7 (by first | rfl | kernel_rfl) (by first | rfl | kernel_rfl) (by first | rfl | kernel_rfl) (by first | rfl | kernel_rfl) (by first | rfl | kernel_rfl) (by first | rfl | kernel_rfl) (by first | rfl | kernel_rfl)⟩
theorem Xfk (K:PySem.W.Frag):KindOk K "tuple" := ⟨mem7 (by first | rfl | kernel_rfl) (by first | rfl | kernel_rfl) (by first | rfl | kernel_rfl) (by first | rfl | kernel_rfl) (by first | rfl | kernel_rfl) (by first | rfl | kernel_rfl) (by first | rfl | kernel_rfl)⟩
theorem Xnr (K:PySem.W.Frag):KindOk K "list" := ⟨mem7 (by first | rfl | kernel_rfl) (by first | rfl | kernel_rfl) (by first | rfl | kernel_rfl) (by first | rfl | kernel_rfl) (by first | rfl | kernel_rfl) (by first | rfl | kernel_rfl) (by first | rfl | kernel_rfl)⟩
theorem Xik {len dflt n:Nat}:HT.sIx len dflt (some (n:Int)) = min n len:=by
 unfold HT.sIx
 first | (simp;omega) | (simp;done) | (split <;> omega) | skip
theorem Xqg {xs:List D} {n:Nat}:cutD xs (some (n:Int)) none = xs.drop n:=by
 unfold cutD;rw [Xik];have : HT.sIx xs.length xs.length none = xs.length:=rfl;rw [this]
 by_cases h:n <= xs.length
 ·rw [Nat.min_eq_left h,List.take_of_length_le (by simp)]
 ·rw [Nat.min_eq_right (by omega),List.drop_length,List.drop_of_length_le (by omega)];simp
theorem Xtx {xs:List D} {a b:Nat}:cutD xs (some (a:Int)) (some (b:Int)) = (xs.drop a).take (b - a):=by
 unfold cutD;rw [Xik,Xik]
 by_cases h:a <= xs.length
 ·rw [Nat.min_eq_left h]
  by_cases h2:b <= xs.length
  ·rw [Nat.min_eq_left h2]
  ·rw [Nat.min_eq_right (by omega),List.take_of_length_le (by simp),List.take_of_length_le (by simp;omega)]
 ·have e:min a xs.length = xs.length:=by omega
  rw [e,List.drop_length,List.drop_of_length_le (by omega)];simp
theorem Xba {d:D} (h:Xaa 60 d = true):eqD d d = true:=Xki 60 d h
section
variable {κ:Type} [DecidableEq κ]
def valD (kvs:List (κ × D)) (k:κ):Option D:=(kvs.find? λkv=>decide (kv.1 = k)).map (·.2)
def putD (kvs:List (κ × D)) (k:κ) (d:D):List (κ × D) :=
 if (kvs.any λkv=>decide (kv.1 = k)) = true then kvs.map (λkv=>if kv.1 = k then (kv.1,d) else kv) else kvs ++ [(k,d)]
theorem Xjh {k:κ}:valD ([]:List (κ × D)) k = none:=rfl
theorem Xav {p:κ × D} {r:List (κ × D)} {k:κ} (e:p.1 = k):valD (p :: r) k = some p.2:=by simp [valD,List.find?_cons,e]
theorem Xaw {p:κ × D} {r:List (κ × D)} {k:κ} (e:¬ p.1 = k):valD (p :: r) k = valD r k:=by simp [valD,List.find?_cons,e]
theorem Xcb (k:κ):∀ kvs:List (κ × D),(kvs.any λkv=>decide (kv.1 = k)) = (valD kvs k).isSome
 | []=>rfl
 | p :: r=>by
  rw [List.any_cons]
  by_cases e:p.1 = k
  ·rw [Xav e];simp [e]
  ·rw [Xaw e];simp [e,Xcb k r]
theorem Xex (k j:κ) (d:D):∀ kvs:List (κ × D),valD (kvs.map λkv=>if kv.1 = k then (kv.1,d) else kv) j = (valD kvs j).map λx=>if j = k then d else x
 | []=>rfl
 | p :: r=>by
  have ih:=Xex k j d r;rw [List.map_cons]
  by_cases h1:p.1 = k
  ·rw [if_pos h1]
   by_cases h2:p.1 = j
   ·rw [Xav (p:=(p.1,d)) h2,Xav h2]
    simp [<- h2,h1]
   ·rw [Xaw (p:=(p.1,d)) h2,Xaw h2,ih]
  ·rw [if_neg h1]
   by_cases h2:p.1 = j
   ·have : ¬ j = k:=λz=>h1 (h2.trans z)
    rw [Xav h2,Xav h2];simp [this]
   ·rw [Xaw h2,Xaw h2,ih]
theorem Xih (k:κ) (a b:List (κ × D)):valD (a ++ b) k = (valD a k).or (valD b k):=by
 induction a with
 | nil=>simp [Xjh]
 | cons p r ih =>
  rw [List.cons_append]
  by_cases e:p.1 = k
  ·rw [Xav e,Xav e];rfl
  ·rw [Xaw e,Xaw e,ih]
theorem Xca (kvs:List (κ × D)) (k j:κ) (d:D):valD (putD kvs k d) j = if j = k then some d else valD kvs j:=by
 unfold putD
 split
 ·rename_i h
  rw [Xcb] at h;rw [Xex]
  by_cases e:j = k
  ·subst e
   rw [if_pos rfl];obtain ⟨x,hx⟩:=Option.isSome_iff_exists.mp h;rw [hx];simp
  ·rw [if_neg e]
   cases valD kvs j with
   | none=>rfl
   | some x=>simp [e]
 ·rename_i h
  rw [Xcb] at h;rw [Xih]
  by_cases e:j = k
  ·subst e
   rw [if_pos rfl];have : valD kvs j = none:=by
    cases q:valD kvs j with
    | none=>rfl
    | some x=>rw [q] at h;simp at h
   rw [this,Xav (p:=(j,d)) rfl];rfl
  ·rw [if_neg e,Xaw (p:=(k,d)) (λz=>e z.symm),Xjh];cases valD kvs j <;> rfl
theorem Xaz (kvs:List (κ × D)) (k:κ) (d:D):(putD kvs k d).length <= kvs.length + 1:=by
 unfold putD
 split
 ·simp
 ·simp
end
section
variable {K:PySem.W.Frag} {H:Hp}
theorem RepK.val:∀ {kvs:List (Key × D)} {kws:List (Key × V)},RepK K H kvs kws -> ∀ k,match valD kvs k with
  | some d=>∃ v,valV kws k = some v /\ Rep K H d v
  | none=>valV kws k = none
 | [],kws,h,k=>by simp only [RepK] at h;subst h;rfl
 | (k0,d) :: r,kws,h,k=>by
  simp only [RepK] at h;obtain ⟨v,q,rfl,h1,h2⟩:=h
  by_cases e:k0 = k
  ·rw [Xav (p:=(k0,d)) e]
   exact ⟨v,Xby (p:=(k0,v)) e,h1⟩
  ·rw [Xaw (p:=(k0,d)) e,Xbz (p:=(k0,v)) e]
   exact RepK.val h2 k
theorem RepK.valS {kvs:List (Key × D)} {kws:List (Key × V)} (h:RepK K H kvs kws) {k:Key} {d:D} (e:valD kvs k = some d):∃ v,valV kws k = some v /\ Rep K H d v:=by
 have:=h.val k;rw [e] at this;exact this
theorem RepK.valN {kvs:List (Key × D)} {kws:List (Key × V)} (h:RepK K H kvs kws) {k:Key} (e:valD kvs k = none):valV kws k = none:=by
 have:=h.val k;rw [e] at this;exact this
theorem RepK.isSome {kvs:List (Key × D)} {kws:List (Key × V)} (h:RepK K H kvs kws) (k:Key):(valV kws k).isSome = (valD kvs k).isSome:=by
 cases e:valD kvs k with
 | none=>rw [h.valN e];rfl
 | some d=>obtain ⟨v,e',_⟩:=h.valS e;rw [e'];rfl
theorem RepK.map {k:Key} {d:D} {v:V} (r:Rep K H d v):∀ {kvs:List (Key × D)} {kws:List (Key × V)},RepK K H kvs kws -> RepK K H (kvs.map λkv=>if kv.1 = k then (kv.1,d) else kv) (kws.map λkv=>if kv.1 = k then (kv.1,v) else kv)
 | [],kws,h=>by simp only [RepK] at h;subst h;simp [RepK]
 | (k0,d0) :: r0,kws,h=>by
  simp only [RepK] at h;obtain ⟨v0,q,rfl,h1,h2⟩:=h;rw [List.map_cons,List.map_cons]
  by_cases e:k0 = k
  ·rw [if_pos e,if_pos e];simp only [RepK];exact ⟨v,_,rfl,r,RepK.map r h2⟩
  ·rw [if_neg e,if_neg e];simp only [RepK];exact ⟨v0,_,rfl,h1,RepK.map r h2⟩
theorem RepK.append:∀ {kvs es:List (Key × D)} {kws fs:List (Key × V)},RepK K H kvs kws -> RepK K H es fs -> RepK K H (kvs ++ es) (kws ++ fs)
 | [],es,kws,fs,h,g=>by simp only [RepK] at h;subst h;exact g
 | (k0,d0) :: r0,es,kws,fs,h,g=>by
  simp only [RepK] at h;obtain ⟨v0,q,rfl,h1,h2⟩:=h;rw [List.cons_append,List.cons_append];simp only [RepK];exact ⟨v0,_,rfl,h1,RepK.append h2 g⟩
theorem RepK.put {kvs:List (Key × D)} {kws:List (Key × V)} {k:Key} {d:D} {v:V} (h:RepK K H kvs kws) (r:Rep K H d v):RepK K H (putD kvs k d) (putK kws k v):=by
 unfold putD putK;rw [Xcb,Xdq,h.isSome]
 split
 ·exact h.map r
 ·exact h.append (by simp only [RepK];exact ⟨v,[],rfl,r,rfl⟩)
end
section
variable {K:PySem.W.Frag} {H:Hp}
theorem RepT.val:∀ {kvs:List (List Key × D)} {kws:List (List Key × V)},RepT K H kvs kws -> ∀ k,match valD kvs k with
  | some d=>∃ v,valV kws k = some v /\ Rep K H d v
  | none=>valV kws k = none
 | [],kws,h,k=>by simp only [RepT] at h;subst h;rfl
 | (k0,d) :: r,kws,h,k=>by
  simp only [RepT] at h;obtain ⟨v,q,rfl,h1,h2⟩:=h
  by_cases e:k0 = k
  ·rw [Xav (p:=(k0,d)) e]
   exact ⟨v,Xby (p:=(k0,v)) e,h1⟩
  ·rw [Xaw (p:=(k0,d)) e,Xbz (p:=(k0,v)) e]
   exact RepT.val h2 k
theorem RepT.valS {kvs:List (List Key × D)} {kws:List (List Key × V)} (h:RepT K H kvs kws) {k:List Key} {d:D} (e:valD kvs k = some d):∃ v,valV kws k = some v /\ Rep K H d v:=by
 have:=h.val k;rw [e] at this;exact this
theorem RepT.valN {kvs:List (List Key × D)} {kws:List (List Key × V)} (h:RepT K H kvs kws) {k:List Key} (e:valD kvs k = none):valV kws k = none:=by
 have:=h.val k;rw [e] at this;exact this
theorem RepT.isSome {kvs:List (List Key × D)} {kws:List (List Key × V)} (h:RepT K H kvs kws) (k:List Key):(valV kws k).isSome = (valD kvs k).isSome:=by
 cases e:valD kvs k with
 | none=>rw [h.valN e];rfl
 | some d=>obtain ⟨v,e',_⟩:=h.valS e;rw [e'];rfl
theorem RepT.map {k:List Key} {d:D} {v:V} (r:Rep K H d v):∀ {kvs:List (List Key × D)} {kws:List (List Key × V)},RepT K H kvs kws -> RepT K H (kvs.map λkv=>if kv.1 = k then (kv.1,d) else kv) (kws.map λkv=>if kv.1 = k then (kv.1,v) else kv)
 | [],kws,h=>by simp only [RepT] at h;subst h;simp [RepT]
 | (k0,d0) :: r0,kws,h=>by
  simp only [RepT] at h;obtain ⟨v0,q,rfl,h1,h2⟩:=h;rw [List.map_cons,List.map_cons]
  by_cases e:k0 = k
  ·rw [if_pos e,if_pos e];simp only [RepT];exact ⟨v,_,rfl,r,RepT.map r h2⟩
  ·rw [if_neg e,if_neg e];simp only [RepT];exact ⟨v0,_,rfl,h1,RepT.map r h2⟩
theorem RepT.append:∀ {kvs es:List (List Key × D)} {kws fs:List (List Key × V)},RepT K H kvs kws -> RepT K H es fs -> RepT K H (kvs ++ es) (kws ++ fs)
 | [],es,kws,fs,h,g=>by simp only [RepT] at h;subst h;exact g
 | (k0,d0) :: r0,es,kws,fs,h,g=>by
  simp only [RepT] at h;obtain ⟨v0,q,rfl,h1,h2⟩:=h;rw [List.cons_append,List.cons_append];simp only [RepT];exact ⟨v0,_,rfl,h1,RepT.append h2 g⟩
theorem RepT.put {kvs:List (List Key × D)} {kws:List (List Key × V)} {k:List Key} {d:D} {v:V} (h:RepT K H kvs kws) (r:Rep K H d v):RepT K H (putD kvs k d) (putK kws k v):=by
 unfold putD putK;rw [Xcb,Xdq,h.isSome]
 split
 ·exact h.map r
 ·exact h.append (by simp only [RepT];exact ⟨v,[],rfl,r,rfl⟩)
end
theorem DGet.kr {H:Hp} {a:Addr} {kvs:List (Key × V)} {k:Key} (e:Rd H a (.dK kvs)):DGet H a (kV k) (valV kvs k):=.inl ⟨kvs,k,e,rfl,rfl⟩
theorem DGet.tr {H:Hp} {a b:Addr} {kvs:List (List Key × V)} {k:List Key} (e:Rd H a (.dT kvs)) (eb:H b = some (.tup (k.map kV))):DGet H a (.ref b) (valV kvs k):=.inr ⟨kvs,k,b,e,rfl,eb,rfl⟩
def kD:Key -> D
 | .inl i=>.int i
 | .inr x=>.str x
def dkey (y:D) (Q:Key -> Prop):Prop:=match y with
 | .int i=>Q (.inl i)
 | .str x=>Q (.inr x)
 | _=>False
def tkey (y:D) (Q:List Key -> Prop):Prop:=match y with
 | .tup ds=>∃ ks:List Key,ds = ks.map kD /\ Q ks
 | _=>False
theorem Xeo {K:PySem.W.Frag} {G:Hp} {y:D} {v:V} {Q:Key -> Prop} (h:dkey y Q) (r:Rep K G y v):∃ k,v = kV k /\ Q k:=by
 cases y with
 | int i=>simp only [Rep] at r;exact ⟨.inl i,r,h⟩
 | str x=>simp only [Rep] at r;exact ⟨.inr x,r,h⟩
 | _=>exact h.elim
theorem Reps.keys_inv {K:PySem.W.Frag} {H:Hp}:∀ {ks:List Key} {vs:List V},Reps K H (ks.map kD) vs -> vs = ks.map kV
 | [],vs,h=>by simp only [List.map_nil,Reps] at h;exact h
 | k :: ks,vs,h=>by
  simp only [List.map_cons,Reps] at h;obtain ⟨v,r,rfl,h2,h3⟩:=h;rw [Reps.keys_inv h3]
  cases k with
  | inl i=>rw [show v = .int i by simpa only [kD,Rep] using h2];rfl
  | inr x=>rw [show v = .str x by simpa only [kD,Rep] using h2];rfl
theorem Xdu {K:PySem.W.Frag} {G:Hp} {y:D} {v:V} {Q:List Key -> Prop} (h:tkey y Q) (r:Rep K G y v):∃ ks b,v = .ref b /\ G b = some (.tup (ks.map kV)) /\ Q ks:=by
 cases y with
 | tup ds =>
  obtain ⟨ks,rfl,q⟩:=h;simp only [Rep] at r;obtain ⟨b,vs,rfl,h1,h2⟩:=r;rw [Reps.keys_inv h2] at h1;exact ⟨ks,b,rfl,h1,q⟩
 | _=>exact h.elim
def Xqt:R2:=λx y H Q=>∃ a v,x = .ref a /\ DGet H a y (some v) /\ Q v H
def dDGet (x y:D) (Q:D -> Prop):Prop:=match x with
 | .dK kvs=>dkey y λk=>∃ d,valD kvs k = some d /\ Q d
 | .dT kvs=>tkey y λk=>∃ d,valD kvs k = some d /\ Q d
 | _=>False
theorem Xti {K:PySem.W.Frag}:Lf2 K Xqt dDGet:=λH0 σ δ G H x y dx dy Qd Q hs rx ry h k=>by
 cases dx with
 | dK kvs =>
  obtain ⟨a,kws,rfl,h1,h2⟩:=rx;replace h:dkey dy (λk=>∃ d,valD kvs k = some d /\ Qd d):=h;obtain ⟨key,rfl,d,e,q⟩:=Xeo h (ry.all hs.sub);obtain ⟨v,e',r'⟩:=h2.valS e;refine ⟨a,v,rfl,?_,k v H G d (Nx.refl hs) r' q⟩;rw [<- e'];exact DGet.kr h1
 | dT kvs =>
  obtain ⟨a,kws,rfl,h1,h2⟩:=rx;replace h:tkey dy (λk=>∃ d,valD kvs k = some d /\ Qd d):=h;obtain ⟨key,b,rfl,hb,d,e,q⟩:=Xdu h (ry.all hs.sub);obtain ⟨v,e',r'⟩:=h2.valS e;refine ⟨a,v,rfl,?_,k v H G d (Nx.refl hs) r' q⟩;rw [<- e'];exact DGet.tr h1 hb
 | _=>exact h.elim
def rDInV (neg:Bool):R2:=λy x H Q=>∃ a o,x = .ref a /\ DGet H a y o /\ Q (.bl (neg != o.isSome)) H
def dDIn (neg:Bool) (y x:D) (Q:D -> Prop):Prop:=match x with
 | .dK kvs=>dkey y λk=>Q (.bl (neg != (valD kvs k).isSome))
 | .dT kvs=>tkey y λk=>Q (.bl (neg != (valD kvs k).isSome))
 | _=>False
theorem Xre {K:PySem.W.Frag} {neg:Bool}:Lf2 K (rDInV neg) (dDIn neg):=λH0 σ δ G H y x dy dx Qd Q hs ry rx h k=>by
 cases dx with
 | dK kvs =>
  obtain ⟨a,kws,rfl,h1,h2⟩:=rx;replace h:dkey dy (λk=>Qd (.bl (neg != (valD kvs k).isSome))):=h;obtain ⟨key,rfl,q⟩:=Xeo h (ry.all hs.sub);exact ⟨a,_,rfl,DGet.kr h1,k _ H G _ (Nx.refl hs) (by simp only [Rep];rw [h2.isSome]) q⟩
 | dT kvs =>
  obtain ⟨a,kws,rfl,h1,h2⟩:=rx;replace h:tkey dy (λk=>Qd (.bl (neg != (valD kvs k).isSome))):=h;obtain ⟨key,b,rfl,hb,q⟩:=Xdu h (ry.all hs.sub);exact ⟨a,_,rfl,DGet.tr h1 hb,k _ H G _ (Nx.refl hs) (by simp only [Rep];rw [h2.isSome]) q⟩
 | _=>exact h.elim
section
variable {X:Cx} {H0:Hp} {a b e f value o:Expr} {ta tb te tf:RE} {pos pos' apos cpos p:Pos} {x:Str}
theorem e_dget (hu:X.A.units + 1 < cLine) (ha:PB2 X H0 a ta) (hb:PB2 X H0 b tb) (hs:NoSl b:=by intro _ _;rfl):PE2 X H0 (.Subscript a b pos) (rOp dDGet ta tb) :=
 PE.weak (Xsp hu ha hb hs) (Xbv (r:=Xqt) Xti)
theorem Xbq {K:PySem.W.Frag} {t:RE} {σ:L2.St} {H:Hp} {Q Q':VK} (k:∀ v H,Q v H -> Q' v H) (h:liftB K H0 t σ H Q):liftB K H0 t σ H Q':=by
 obtain ⟨δ,G,Qd,hs,ht,kk⟩:=h;exact ⟨δ,G,Qd,hs,ht,λv H' G' d n r q=>k _ _ (kk v H' G' d n r q)⟩
theorem Xvh (hu:X.A.units + 1 < cLine) (ha:PB2 X H0 a ta) (hb:PB2 X H0 b tb):PC X .In a b (tOp (rDInV false) (liftB X.K H0 ta) (liftB X.K H0 tb)):=λpins s σ H Q I h =>
 Xvj hu ha hb pins s σ H Q I (Xbq (λy H1 h1=>Xbq (λz H2 ⟨a,o,e,g,q⟩=>⟨a,o,e,g,by simpa using q⟩) h1) h)
theorem Xmw (hu:X.A.units + 1 < cLine) (ha:PB2 X H0 a ta) (hb:PB2 X H0 b tb):PC X .NotIn a b (tOp (rDInV true) (liftB X.K H0 ta) (liftB X.K H0 tb)):=λpins s σ H Q I h =>
 Xmy hu ha hb pins s σ H Q I (Xbq (λy H1 h1=>Xbq (λz H2 ⟨a,o,e,g,q⟩=>⟨a,o,e,g,by simpa using q⟩) h1) h)
theorem t_din (hu:X.A.units + 1 < cLine) (ha:PB2 X H0 a ta) (hb:PB2 X H0 b tb) (h1:behindInMarks .In b = false:=by rfl):PT2 X H0 (.Compare a [.In] [b] pos) (rTest (rOp (dDIn false) ta tb)) :=
 PT.weak (Xqy (Xvh hu ha hb) h1) (Xcl (Xbv Xre))
theorem t_dnotin (hu:X.A.units + 1 < cLine) (ha:PB2 X H0 a ta) (hb:PB2 X H0 b tb) (h1:behindInMarks .NotIn b = false:=by rfl):PT2 X H0 (.Compare a [.NotIn] [b] pos) (rTest (rOp (dDIn true) ta tb)) :=
 PT.weak (Xqy (Xmw hu ha hb) h1) (Xcl (Xbv Xre))
theorem Xkf {κ:Type} [DecidableEq κ] {K:PySem.W.Frag} {G:Hp} {kvs:List (κ × D)} {kws:List (κ × V)} {k:κ} {z:D} {vz:V} (hS:∀ {d:D},valD kvs k = some d -> ∃ v,valV kws k = some v /\ Rep K G d v) (hN:valD kvs k = none -> valV kws k = none) (rz:Rep K G z vz):Rep K G ((valD kvs k).getD z) ((valV kws k).getD vz):=by
 cases e:valD kvs k with
 | none=>rw [hN e];exact rz
 | some d=>obtain ⟨v,e',r⟩:=hS e;rw [e'];exact r
def rDPut (i:Nat) (tk tv:RE) (E:Ends2) (δ:List Sl):Prop:=match δ[i]? with
 | some (.ow (.dK kvs))=>tv δ λd=>tk δ λy=>dkey y λk=>kvs.length < sizeLine /\ E.nx (δ.set i (.ow (.dK (putD kvs k d))))
 | some (.lk q (.dK kvs))=>tv δ λd=>tk δ λy=>dkey y λk=>kvs.length < sizeLine /\ E.nx (δ.set i (.lk q (.dK (putD kvs k d))))
 | some (.ow (.dT kvs))=>tv δ λd=>tk δ λy=>tkey y λk=>kvs.length < sizeLine /\ E.nx (δ.set i (.ow (.dT (putD kvs k d))))
 | _=>False
theorem s_dput (i:Nat) (hu:X.A.units + 1 < cLine) (hk:PE2 X H0 e te) (hv:PE2 X H0 value tf) (hN:X.N[i]? = some x:=by rfl) (hvs:Vis X.env.scope x:=by first | exact Or.inl rfl | exact Or.inr (Or.inl rfl) | exact Or.inr (Or.inr rfl)) (hd:(x == ("__debug__" : Str)) = false:=by decide)
(hcd:(x == ("__classdict__" : Str)) = false:=by decide) (hs:swapsWith value (some (.Subscript (.Name x p) e pos')) pos.line X.env = pure false:=by rfl) :
PS2 X H0 (.Assign [.Subscript (.Name x p) e pos'] value pos) (rDPut i te tf) :=
 PS.weak (Xsi hu (Xhi hN hvs hd hcd) hk hv hs) λD σ H ⟨δ,G,E,hs,ht,go⟩=>by
  unfold rDPut at ht
  split at ht
  ·rename_i kvs e0
   refine ⟨δ,G,_,hs,ht,λv H1 G1 d n1 r1 q1=>?_⟩;obtain ⟨a,e1,_⟩:=n1.hs.ow i _ e0;refine ⟨_,e1,δ,G1,_,n1.hs,q1,λy H2 G2 dy n2 r2 q2=>?_⟩;obtain ⟨a',e1',kws,h1,h2⟩:=n2.hs.ow i _ e0;rw [e1] at e1';cases e1';obtain ⟨k,rfl,hl,q⟩:=Xeo q2 r2;exact ⟨a,_,rfl,DPut.k h1 (by rw [<- h2.length];exact hl),go.nx _ _ _ G2 (n2.hs.write (d':=.dK (putD kvs k d)) e0 e1 ⟨_,Xac,h2.put (Rep.mono n2.g _ _ r1)⟩) (n1.g.trans n2.g) q⟩
  ·rename_i b kvs e0
   refine ⟨δ,G,_,hs,ht,λv H1 G1 d n1 r1 q1=>?_⟩;obtain ⟨e1,_⟩:=n1.hs.lk i _ _ e0;refine ⟨_,e1,δ,G1,_,n1.hs,q1,λy H2 G2 dy n2 r2 q2=>?_⟩;obtain ⟨_,kws,h1,h2⟩:=n2.hs.lk i _ _ e0;obtain ⟨k,rfl,hl,q⟩:=Xeo q2 r2;exact ⟨b,_,rfl,DPut.k h1 (by rw [<- h2.length];exact hl),go.nx _ _ _ G2 (n2.hs.writeL (d':=.dK (putD kvs k d)) e0 e1 ⟨_,Xac,h2.put (Rep.mono n2.g _ _ r1)⟩) (n1.g.trans n2.g) q⟩
  ·rename_i kvs e0
   refine ⟨δ,G,_,hs,ht,λv H1 G1 d n1 r1 q1=>?_⟩;obtain ⟨a,e1,_⟩:=n1.hs.ow i _ e0;refine ⟨_,e1,δ,G1,_,n1.hs,q1,λy H2 G2 dy n2 r2 q2=>?_⟩;obtain ⟨a',e1',kws,h1,h2⟩:=n2.hs.ow i _ e0;rw [e1] at e1';cases e1';obtain ⟨k,b,rfl,hb,hl,q⟩:=Xdu q2 r2;exact ⟨a,_,rfl,DPut.t h1 (n2.hs.sub _ _ hb) (by rw [<- h2.length];exact hl),go.nx _ _ _ G2 (n2.hs.write (d':=.dT (putD kvs k d)) e0 e1 ⟨_,Xac,h2.put (Rep.mono n2.g _ _ r1)⟩) (n1.g.trans n2.g) q⟩
  ·exact ht.elim
variable {es:List Expr} {tr:RA}
end
open PySem PySem.Spec PyProof.Rows L2 SeqAt
section
variable {κ:Type} [DecidableEq κ]
end
section
variable {X:Cx}
theorem Xla {κ:Type} [DecidableEq κ] {kvs:List (κ × D)} {k:κ} {d:D} (h:(kvs.map (·.1)).Nodup):((putD kvs k d).map (·.1)).Nodup:=by
 unfold putD
 split
 ·have e:(kvs.map λkv=>if kv.1 = k then (kv.1,d) else kv).map (·.1) = kvs.map (·.1):=by
   rw [List.map_map];apply List.map_congr_left;intro p _;simp only [Function.comp]
   split <;> rfl
  rw [e];exact h
 ·rename_i hn
  rw [List.map_append,List.nodup_append];refine ⟨h,by simp,?_⟩;intro a ha b hb e;simp at hb;subst e hb;obtain ⟨p,hp,e⟩:=List.mem_map.mp ha;exact hn (List.any_eq_true.mpr ⟨p,hp,by simpa using e⟩)
end
section
variable {X:Cx} {H0:Hp} {c:Expr} {body:List Stmt} {tc:RT} {tb:RS} {pos:Pos}
def Xmo (c:RT) (tb:RS) (E:Ends2) (δ:List Sl):Prop:=∃ W:Nat -> List Sl -> Prop,(∃ m,W m δ) /\ ∀ m δ,W m δ -> c δ λb=>Two b (tb { nx:=λδ2=>∃ δ3,Fg δ2 δ3 /\ ∃ m',m' < m /\ W m' δ3,rt:=E.rt,bk:=E.nx,ct:=λδ2=>∃ δ3,Fg δ2 δ3 /\ ∃ m',m' < m /\ W m' δ3 } δ) (E.nx δ)
theorem s_while (hp:PassesOwn (model X.prog X.w) X.A X.env X.xe) (hc:PT2 X H0 c tc) (hb:PSs2 X H0 body tb):PS2 X H0 (.While c body [] pos) (Xmo tc tb) :=
 PS.weak (Xpg hp hc hb) λD σ H ⟨δ,G,E,hs,⟨W,⟨m0,w0⟩,step⟩,go⟩ =>
  ⟨λm σ' H'=>∃ δ' G',Hs X.K H0 σ' δ' G' H' /\ Same G G' /\ W m δ',⟨m0,δ,G,hs,Same.refl _,w0⟩,λm σ' H' ⟨δ',G',h',s',w⟩=>⟨δ',G',_,h',step m δ' w,λb H1 G1 n1 q1=>by
   cases b with
   | true =>
    rw [if_pos rfl]
    refine ⟨λσ2 H2=>∃ m',m' < m /\ ∃ δ2 G2,Hs X.K H0 σ2 δ2 G2 H2 /\ Same G G2 /\ W m' δ2,λσ2 H2 z=>z,δ',G1,_,n1.hs,q1.yes rfl,⟨λσ3 H3 δ3 G3 h3 s3 ⟨δ4,f4,m',hm,w'⟩=>⟨m',hm,δ4,G3,h3.forget f4,(s'.trans n1.g).trans s3,w'⟩,go.rt,λσ3 H3 δ3 G3 h3 s3 q3=>go.nx σ3 H3 δ3 G3 h3 ((s'.trans n1.g).trans s3) q3,
     λσ3 H3 δ3 G3 h3 s3 ⟨δ4,f4,m',hm,w'⟩=>⟨m',hm,δ4,G3,h3.forget f4,(s'.trans n1.g).trans s3,w'⟩⟩⟩
   | false =>
    rw [if_neg Bool.false_ne_true]
    exact go.nx σ' H1 δ' G1 n1.hs (s'.trans n1.g) (q1.no rfl)⟩⟩
theorem Xlq {E:Ends2} {δ:List Sl} (W:Nat -> List Sl -> Prop) (m:Nat) (h0:W m δ)
(step:∀ m δ (L:List Sl -> Prop),(∀ δ2 δ3 m',W m' δ3 -> m' < m -> Fg δ2 δ3 -> L δ2) -> W m δ -> tc δ λb=>Two b (tb { nx:=L,rt:=E.rt,bk:=E.nx,ct:=L } δ) (E.nx δ)):Xmo tc tb E δ :=
 ⟨W,⟨m,h0⟩,λm δ w=>step m δ _ (λδ2 δ3 m' w' hm f=>⟨δ3,f,m',hm,w'⟩) w⟩
end
abbrev Sp3:=List D -> D -> (D -> D -> Prop) -> Prop
def Xng (K:PySem.W.Frag) (sp:Sp3):Sp:=λvs H Q _=>∃ ws p G d ds Qd,vs = ws ++ [.ref p] /\ G p = none /\ (∀ b,b ≠ p -> G b = H b) /\ Own K G H p d /\ Reps K G ds ws /\ sp ds d Qd /\
 ∀ v H' G' x d',Same G G' -> G' p = none -> (∀ b,b ≠ p -> G' b = H' b) -> Own K G' H' p d' -> Rep K G' x v -> Qd x d' -> Q v H'
section
variable {K:PySem.W.Frag} {H0:Hp} {σ:L2.St} {δ:List Sl} {G H:Hp}
end
section
variable {P:Program} {w:World} {K:PySem.W.Frag} {mg:Str -> Option Value} {base:Heap}
end
section
variable {X:Cx} {H0:Hp} {pins:List (Addr × Obj)} {σ:L2.St} {δ:List Sl} {G H:Hp} {s:Shared}
end
structure Fn3 (P:Program) (w:World) (K:PySem.W.Frag) (mg:Str -> Option Value) (base:Heap) (k:Nat) (x:Str) (sp:Sp3):Prop where
 ex:∃ (f:Addr) (fd:FuncData) (ps:List Str),FnOk P w K mg base CX0 k f fd ps (Xng K sp) /\ mg x = some (.ref f) /\ PySem.W.keepIn K (.ref f) = true /\ Binds K fd ps []
def Xvu (K:PySem.W.Frag) (H0:Hp) (i:Nat) (tr:RA):TA:=λσ H Q=>∃ δ G Qd a,Hs K H0 σ δ G H /\ σ[i]? = some (some (.ref a)) /\ tr δ Qd /\ ∀ ws H' G' ds,Nx K H0 σ δ G H G' H' -> Reps K G' ds ws -> Qd ds -> Q (ws ++ [.ref a]) H'
def PAL (X:Cx) (H0:Hp) (i:Nat) (es:List Expr) (tr:RA):Prop:=PA X es (Xvu X.K H0 i tr)
section
variable {X:Cx} {H0:Hp} {k:Nat} {x:Str} {sp:Sp3} {e:Expr} {es:List Expr} {t:RE} {tr:RA} {p pos:Pos} {i:Nat}
variable {tg:Expr} {g:RG}
end
theorem Xaq {α β:Type} (f:α -> β) {xs ys:List β} (h:xs.Perm ys):∀ L:List α,ys = L.map f -> ∃ L':List α,L'.Perm L /\ xs = L'.map f:=by
 induction h with
 | nil=>intro L e;cases L with
  | nil=>exact ⟨[],.refl _,rfl⟩
  | cons a L=>cases e
 | cons x _ ih =>
  intro L e
  cases L with
  | nil=>cases e
  | cons a L =>
   cases e;obtain ⟨L',p,rfl⟩:=ih L rfl;exact ⟨a :: L',p.cons a,rfl⟩
 | swap x y l =>
  intro L e
  cases L with
  | nil=>cases e
  | cons a L =>
   cases L with
   | nil=>cases e
   | cons b L=>cases e;exact ⟨b :: a :: L,.swap _ _ _,rfl⟩
 | trans _ _ ih1 ih2 =>
  intro L e;obtain ⟨L2,p2,e2⟩:=ih2 L e;obtain ⟨L1,p1,e1⟩:=ih1 L2 e2;exact ⟨L1,p1.trans p2,e1⟩
section
variable {X:Cx} {pins:List (Addr × Obj)} {σ:L2.St} {H:Hp} {s:Shared} {h':Heap}
theorem Inv.track {a:Addr} {o:HO} {t':Nat} (I:L2.Inv X pins σ H s) (f:FpOk X pins H a) (k:∀ b u,b ≠ a -> s.heap.get? b = some u -> h'.get? b = some u)
(new:ObjOk X.prog X.w (upd H a o) h' a o):L2.Inv X pins σ (upd H a o) { s with heap:=h',toks:=t' }:=by
 obtain ⟨f0,f1,f2,f3,f4,f5⟩:=f;have na:∀ b u,H b = some u -> b ≠ a:=λb u e z=>by rw [z,f0] at e;cases e
 refine I.step (g':=s.gens) (d':=s.drawn) (ch:=[a]) (λb hb=>?_) (λb o _ _ hc e _=>k b o (λz=>hc (by simp [z])) e) (λb o _ _ hc e _=>⟨o.slots,k b o (λz=>hc (by simp [z])) e⟩) (λb o hc e n=>?_)
  (λb o hc e=>⟨o,k b o (λz=>hc (by simp [z])) e⟩) (λb xs e=>?_) (λb o u e=>?_) (λb ps e=>⟨#[],?_⟩) (λm hm=>?_) (λb u e=>?_) I.bare
 ·have e:b = a:=by simpa using hb
  subst e;exact ⟨f3,f1,f4,f5⟩
 ·rw [Xad (λz=>hc (by simp [z]))];exact n
 ·rw [Xad (na b _ e)];exact e
 ·rw [Xad (na b _ e)];exact e
 ·rw [Xad (na b _ e),e];simp
 ·obtain ⟨o,es,ep,ho,r⟩:=hm
  exact ⟨o,es,ep,k _ o f1.symm ho,r⟩
 ·by_cases hb:b = a
  ·subst hb
   rw [Xac] at e;cases e;exact new
  ·rw [Xad hb] at e
   refine (I.hok b u e).stay (λc v hc z=>?_) (λc z=>?_) (λc ys z=>?_)
   ·rcases hc with y | y
    ·rw [y] at z ⊢;exact k b v hb z
    ·exact k c v (na c _ y) z
   ·rw [Xad (na _ _ z)];exact z
   ·rw [Xad (na _ _ z)];exact z
end
structure Out (X:Cx) (pins:List (Addr × Obj)) (b:Addr):Prop where
 l:b ≠ X.env.locals
 f:b ∉ X.fs
 x:b ∈ X.ex \/ X.s₀.heap.objs.size <= b
 c:∀ x c,X.env.cells.lookup x = some c -> c ≠ b
 p:∀ p ∈ X.pn ++ pins,p.1 ≠ b
theorem Out.fp {X:Cx} {pins:List (Addr × Obj)} {b:Addr} {H:Hp} (o:Out X pins b) (h:H b = none):FpOk X pins H b:=⟨h,o.l,o.f,o.x,o.c,o.p⟩
theorem Xvk {X:Cx} {pins:List (Addr × Obj)} {σ:L2.St} {H:Hp} {s:Shared} {b:Addr} (I:L2.Inv X pins σ H s) (hb:s.heap.objs.size <= b):Out X pins b:=by
 obtain ⟨_,a1,a2,a3,a4,a5⟩:=I.fpOk (H':=λ_=>none) hb rfl;exact ⟨a1,a2,a3,a4,a5⟩
def Sorts (prog:Program) (w:World) (A:Around) (s:Shared) (keys items:Array Value) (R:Array Keyed -> Prop):Prop :=
 ∀ (E:Value -> Shared -> Prop) (Q:Unit × SortSt -> Shared -> Prop),(∀ (st:SortSt) (tk:Nat),(arrOf st).Perm (keys.zip items) -> failedOf st = none -> R (arrOf st) -> Q ((),st) { s with toks:=tk }) ->
  wpAny (model prog w) A (if items.size < 2 then pure general' else keyKind' keys) (λkind s1=>wpAny (model prog w) A ((if items.size < 2 then pure () else sortRuns').run (SortSt.mk' kind (keys.zip items) #[] 7 none)) Q E s1) E s
section
variable {X:Cx} {pins:List (Addr × Obj)} {σ:L2.St} {H:Hp} {s:Shared} {A:Around} {E:Value -> Shared -> Prop} {P:PySem.Fin -> Shared -> Prop} {kS a:Addr} {kA:Array Value} {e e1:Nat}
end
section
variable {X:Cx} {pins:List (Addr × Obj)} {σ:L2.St} {H:Hp} {s:Shared} {E:Value -> Shared -> Prop} {P:PySem.Fin -> Shared -> Prop} {kS a:Addr} {e1:Nat}
end
section
variable {K:PySem.W.Frag} {H0:Hp} {σ:L2.St} {δ:List Sl} {G H H':Hp}
open Classical in
noncomputable def grown (G H H':Hp):Hp:=λb=>if H b = none then H' b else G b
end
abbrev SR:=List D -> (D -> D) -> (List D -> Prop) -> Prop
section
variable {X:Cx} {H0:Hp} {k:Nat} {fx:Str} {sp:Sp2} {e:Expr} {te:RE} {p p2 pos kp:Pos} {S:SR}
end
theorem Xnl:∀ a:List Int,HT.lexLt a a = false
 | []=>rfl
 | x :: a=>by rw [HT.lexLt_cons,if_pos rfl];exact Xnl a
theorem Xis:∀ a b:List Int,a ≠ b -> HT.lexLt a b = false -> HT.lexLt b a = true
 | [],[],h,_=>(h rfl).elim
 | [],_ :: _,_,h=>by cases h
 | _ :: _,[],_,_=>rfl
 | x :: a,y :: b,n,h=>by
  rw [HT.lexLt_cons] at h ⊢
  by_cases e:x = y
  ·subst e
   rw [if_pos rfl] at h ⊢;exact Xis a b (λz=>n (by rw [z])) h
  ·rw [if_neg e] at h
   rw [if_neg (λz=>e z.symm)];simp only [decide_eq_false_iff_not,decide_eq_true_eq] at h ⊢;omega
theorem Xec:∀ a b c:List Int,HT.lexLt a b = true -> HT.lexLt b c = true -> HT.lexLt a c = true
 | [],[],_,h,_=>by cases h
 | [],_ :: _,[],_,h=>by cases h
 | [],_ :: _,_ :: _,_,_=>rfl
 | _ :: _,[],_,h,_=>by cases h
 | _ :: _,_ :: _,[],_,h=>by cases h
 | x :: a,y :: b,z :: c,h,h'=>by
  rw [HT.lexLt_cons] at h h' ⊢
  by_cases e:x = y
  ·subst e
   rw [if_pos rfl] at h
   by_cases e2:x = z
   ·rw [if_pos e2] at h' ⊢;exact Xec a b c h h'
   ·rw [if_neg e2] at h' ⊢;exact h'
  ·rw [if_neg e] at h
   by_cases e2:y = z
   ·subst e2;rw [if_neg e];exact h
   ·rw [if_neg e2] at h'
    simp only [decide_eq_true_eq] at h h';rw [if_neg (by omega)];simp only [decide_eq_true_eq];omega
theorem Xps {a b:List Int} (h:HT.lexLt a b = true):HT.lexLt b a = false:=by
 cases e:HT.lexLt b a with
 | false=>rfl
 | true=>have:=Xec _ _ _ h e;rw [Xnl] at this;cases this
theorem Xvz {a b c:List Int} (h:HT.lexLt b a = false) (h':HT.lexLt c b = false):HT.lexLt c a = false:=by
 cases e:HT.lexLt c a with
 | false=>rfl
 | true =>
  by_cases e1:b = c
  ·subst e1;rw [h] at e;cases e
  ·have:=Xis c b (λz=>e1 z.symm) h'
   have:=Xec _ _ _ this e;rw [h] at this;cases this
def IK (h:Heap) (v:Value) (zs:List Int):Prop:=∃ a its,v = .ref a /\ IsTup h a its /\ IntsAre its.toList zs
theorem Xiv:∀ {vs:List Value} {xs ys:List Int},IntsAre vs xs -> IntsAre vs ys -> xs = ys
 | _,_,_,.nil,.nil=>rfl
 | _,_,_,.cons n t r,.cons _ _ r'=>by rw [Xiv r r']
theorem IK.fn {h:Heap} {v:Value} {xs ys:List Int} (a:IK h v xs) (b:IK h v ys):xs = ys:=by
 obtain ⟨a1,i1,rfl,t1,r1⟩:=a;obtain ⟨a2,i2,e,t2,r2⟩:=b;cases e;obtain ⟨o1,g1,_,n1,d1⟩:=t1;obtain ⟨o2,g2,_,n2,d2⟩:=t2;rw [g1] at g2;cases g2;rw [d1] at d2;cases d2;exact Xiv r1 r2
section
variable {prog:Program} {w:World} {A:Around} {E:Value -> Shared -> Prop} {s:Shared}
theorem Xat:∀ {vs:List Value} {xs:List Int},IntsAre vs xs -> vs.length = xs.length
 | _,_,.nil=>rfl
 | _,_,.cons n t r=>by rw [List.length_cons,List.length_cons,Xat r]
theorem Xnk {Q:Bool -> Shared -> Prop}:∀ (vs us:List Value) (xs ys:List Int) (i:Nat),IntsAre vs xs -> IntsAre us ys -> Q (HT.lexLt xs ys) s -> PySem.W.KatLex prog w A true (decide (xs.length < ys.length)) Q (vs.zip us) i s
 | [],us,_,ys,i,.nil,r,h=>by
  cases r with
  | nil=>exact h
  | cons n t r =>
   rw [List.zip_nil_left];refine PySem.W.kat_nil ?_;rw [decide_eq_true (by simp)];exact h
 | _ :: vs,[],_,_,i,.cons n t r,.nil,h=>by
  rw [List.zip_nil_right];refine PySem.W.kat_nil ?_;rw [decide_eq_false (by simp)];exact h
 | _ :: vs,_ :: us,_,_,i,.cons (ns:=xs) n t r,.cons (ns:=ys) m u r',h=>by
  rw [HT.lexLt_cons] at h;refine PySem.W.kat_cons (wpAny_eqBool_int ?_)
  by_cases e:n = m
  ·rw [if_pos e] at h
   rw [show (n == m) = true by simpa using e];refine PySem.W.kat_yes ?_;have:=Xnk vs us xs ys (i + 1) r r' h;rw [show decide ((n :: xs).length < (m :: ys).length) = decide (xs.length < ys.length) by simp];exact this
  ·rw [if_neg e] at h
   rw [show (n == m) = false by simpa using e];refine PySem.W.kat_no ?_
   cases hb:(true && i == 0) with
   | true=>exact oneLt_int h
   | false=>exact PySem.W.kat_one _ _ (wpAny_lt_int h)
theorem Xvr {x y:Value} {xs ys:List Int} {Q:Bool -> Shared -> Prop} (hx:IK s.heap x xs) (hy:IK s.heap y ys) (h:Q (HT.lexLt xs ys) s):wpAny (model prog w) A (keyLt' (tuples' true) x y) Q E s:=by
 obtain ⟨a1,i1,rfl,⟨o1,g1,_,n1,d1⟩,r1⟩:=hx;obtain ⟨a2,i2,rfl,⟨o2,g2,_,n2,d2⟩,r2⟩:=hy;refine PySem.W.kat_lt g1 d1 g2 d2 ?_;have:=Xnk (prog:=prog) (w:=w) (A:=A) (s:=s) i1.toList i2.toList xs ys 0 r1 r2 h;rw [<- Xat r1,<- Xat r2] at this
 simpa using this
end
section
variable {X:Cx} {pins:List (Addr × Obj)} {σ:L2.St} {H:Hp} {s:Shared}
theorem Xei {K:PySem.W.Frag} {H:Hp}:∀ {zs:List Int} {vs:List V} {us:List Value},Reps K H (zs.map D.int) vs -> Vals vs us -> IntsAre us zs
 | [],_,us,r,t=>by
  simp only [List.map_nil,Reps] at r;subst r;cases t;exact .nil
 | z :: zs,_,us,r,t=>by
  simp only [List.map_cons,Reps] at r;obtain ⟨v,vs,rfl,h1,h2⟩:=r;simp only [Rep] at h1;subst h1
  cases t with
  | cons q r =>
   obtain ⟨tk,rfl⟩:=q;exact .cons _ _ (Xei h2 r)
theorem ik_of (I:L2.Inv X pins σ H s) {zs:List Int} {v:V} {u:Value} (r:Rep X.K H (.tup (zs.map D.int)) v) (q:L2.RelV v u):IK s.heap u zs:=by
 simp only [Rep] at r;obtain ⟨a,vs,rfl,e,r⟩:=r;obtain ⟨_,its,t,ht⟩:=I.hok a _ e;exact ⟨a,its.toArray,q,ht,by simpa using Xei r t⟩
theorem Xfl {h:Heap}:∀ (zss:List (List Int)) (us:List Value),zss.length = us.length -> (∀ zs ∈ zss,zs ≠ []) -> (∀ (i:Nat) zs u,zss[i]? = some zs -> us[i]? = some u -> IK h u zs) -> ∃ fs,PySem.W.KatTups h us fs /\ fs.length = us.length /\ ∀ f ∈ fs,∃ i t,f = Value.int i t
 | [],[],_,_,_=>⟨[],.nil,rfl,λf hf=>nomatch hf⟩
 | [],_ :: _,e,_,_=>by cases e
 | _ :: _,[],e,_,_=>by cases e
 | zs :: zss,u :: us,e,hn,hk=>by
  obtain ⟨fs,t,l,hf⟩:=Xfl zss us (by simpa using e) (λzs h=>hn zs (.tail _ h)) λi zs u e1 e2=>hk (i + 1) zs u (by simpa using e1) (by simpa using e2)
  obtain ⟨a,its,rfl,⟨o,g,c,n,d⟩,r⟩:=hk 0 zs u rfl rfl
  cases hz:zs with
  | nil=>exact (hn zs (.head _) hz).elim
  | cons z zr =>
   subst hz;obtain ⟨its⟩:=its
   cases r with
   | cons _ tk r =>
    refine ⟨.int z tk :: fs,.cons g c d rfl t,by rw [List.length_cons,List.length_cons,l],λf hq=>?_⟩
    rcases List.mem_cons.mp hq with rfl | hq
    ·exact ⟨z,tk,rfl⟩
    ·exact hf f hq
end
theorem Xlp {α β:Type} {xs:List α} {ys:List β} {p:α × β} (h:p ∈ xs.zip ys):∃ i:Nat,xs[i]? = some p.1 /\ ys[i]? = some p.2:=by
 obtain ⟨i,hi,e⟩:=List.mem_iff_getElem.mp h;refine ⟨i,?_,?_⟩
 ·rw [List.getElem?_eq_getElem (by rw [List.length_zip] at hi;omega),<- e];simp
 ·rw [List.getElem?_eq_getElem (by rw [List.length_zip] at hi;omega),<- e];simp
theorem Xpp {α:Type} {xs:List α} (nd:xs.Nodup) {i j:Nat} {x:α} (h1:xs[i]? = some x) (h2:xs[j]? = some x):i = j:=by
 obtain ⟨a1,b1⟩:=List.getElem?_eq_some_iff.mp h1;obtain ⟨a2,b2⟩:=List.getElem?_eq_some_iff.mp h2;exact (List.getElem_inj nd).mp (b1.trans b2.symm)
theorem Xpc {α:Type} {R:α -> α -> Prop} (l:List α) (h:l.length < 2):l.Pairwise R:=by
 cases l with
 | nil=>exact .nil
 | cons x l =>
  cases l with
  | nil=>exact List.pairwise_singleton _ _
  | cons y l=>exact absurd h (Nat.not_lt_of_le (Nat.le_add_left 2 l.length))
section
variable {X:Cx} {H0:Hp} {a b e:Expr} {ta tb:RE} {pos:Pos}
def rCatL (K:PySem.W.Frag):R2:=λx y H Q=>∃ l b xs zs,x = .ref l /\ y = .ref b /\ SqL K H l xs /\ SqL K H b zs /\ xs.length + zs.length <= sizeLine /\ ∀ p,H p = none -> Q (.ref p) (upd H p (.lst (xs ++ zs)))
theorem Xsu:OpR X (binaryOp .Add) (rCatL X.K):=by
 intro pins s σ H x y v u Q I rx ry h;obtain ⟨l,b,xs,zs,rfl,rfl,hl,hb,hz,q⟩:=h;cases rx;cases ry;obtain ⟨its,r,⟨⟨cls,dd,data,sl⟩,n,ho,hc,hd,hs⟩,z⟩:=I.list hl;obtain ⟨its2,r2,⟨⟨cls2,dd2,data2,sl2⟩,n2,ho2,hc2,hd2,hs2⟩,z2⟩:=I.list hb;simp only at hc hd hs hc2 hd2 hs2;subst hc hd hs hc2 hd2 hs2;have e:its.toArray ++ its2.toArray = (its ++ its2).toArray:=by simp
 have l1:=r.length;have l2:=r2.length;refine concat_meets ⟨_,ho,rfl⟩ ⟨_,ho2,rfl⟩ noFill_list_add seq_list_add PySem.F.slot_list_add PySem.F.entry_list_add (PySem.F.args_list_add_2 _ _) (list_addW l b its.toArray its2.toArray n n2 none none sl sl2 (by simp;omega)) ⟨ho,ho2,?_⟩;rw [e];exact ⟨.ref _,_,I.lnew (t':=s.toks) (r.append r2) (by rw [List.length_append];omega),rfl,q _ I.fresh⟩
def rCat2 (ta tb:RE) (δ:List Sl) (Q:D -> Prop):Prop:=ta δ λx=>tb δ λy=>match x,y with
 | .lst xs,.lst ys=>xs.length + ys.length <= sizeLine /\ Q (.lst (xs ++ ys))
 | _,_=>False
theorem n_cat (ha:PB2 X H0 a ta) (hb:PB2 X H0 b tb):PN2 X H0 (.BinOp a .Add b pos) (rCat2 ta tb) :=
 PE.weak (pe_op Xsu ha hb) λσ H Q ⟨δ,G,Qd,hs,ht,k⟩=>⟨δ,G,_,hs,ht,λv H1 G1 d n1 r1 q1=>⟨δ,G1,_,n1.hs,q1,λv2 H2 G2 d2 n2 r2 q2=>by
  cases d with
  | lst xs =>
   cases d2 with
   | lst ys =>
    obtain ⟨hz,q⟩:=q2;obtain ⟨a,vs,rfl,h2,h3⟩:=r1.mono n2.g n2.h;obtain ⟨b,ws,rfl,g2,g3⟩:=r2;refine ⟨a,b,vs,ws,rfl,rfl,h2,g2,by rw [<- h3.length,<- g3.length];exact hz,λp hp=>k _ _ G2 (.lst (xs ++ ys)) (n2.hs.fresh hp ⟨_,Xac,Reps.append h3 g3⟩) (n1.trans n2).g ((n1.trans n2).h.trans (Xal hp)) q⟩
   | _=>exact q2.elim
  | _=>exact q2.elim⟩⟩
variable {x:Str} {p apos cpos:Pos}
end
open Classical in
noncomputable def kzc (keys:List Value) (ks:List (List Int)) (u:Value):List Int:=if e:∃ (zs:List Int) (i:Nat),keys[i]? = some u /\ ks[i]? = some zs then e.choose else []
theorem Xnq {keys:List Value} {ks:List (List Int)} (fn:∀ (i j:Nat) u x y,keys[i]? = some u -> keys[j]? = some u -> ks[i]? = some x -> ks[j]? = some y -> x = y) {u:Value} {zs:List Int} {i:Nat} (h1:keys[i]? = some u) (h2:ks[i]? = some zs):kzc keys ks u = zs:=by
 have e:∃ (zs:List Int) (i:Nat),keys[i]? = some u /\ ks[i]? = some zs:=⟨zs,i,h1,h2⟩;unfold kzc;rw [dif_pos e];obtain ⟨j,g1,g2⟩:=e.choose_spec;exact fn j i u _ _ g1 h1 g2 h2
theorem Xfb {prog:Program} {w:World} {A:Around} {s':Shared} {keys its:List Value} {ds:List D} {key:D -> List Int} {κ:SortKind} (hl:ds.length = keys.length) (hl2:its.length = ds.length)
 (fn:∀ (i j:Nat) u x y,keys[i]? = some u -> keys[j]? = some u -> (ds.map key)[i]? = some x -> (ds.map key)[j]? = some y -> x = y)
 (kind:2 <= its.length -> ∀ (E:Value -> Shared -> Prop) (Q:SortKind -> Shared -> Prop),Q κ s' -> wpAny (model prog w) A (keyKind' keys.toArray) Q E s')
 (run:∀ (i j:Nat) u v x y,keys[i]? = some u -> keys[j]? = some v -> (ds.map key)[i]? = some x -> (ds.map key)[j]? = some y -> ∀ (E:Value -> Shared -> Prop) (Q:Bool -> Shared -> Prop),Q (HT.lexLt x y) s' -> wpAny (model prog w) A (keyLt' κ u v) Q E s') :
 Sorts prog w A s' keys.toArray its.toArray λout=>∀ L:List (D × Value × Value),L.Perm (ds.zip (keys.zip its)) -> out.toList = L.map (·.2) -> (L.map (·.1)).Pairwise λa b=>HT.lexLt (key b) (key a) = false:=λE Q k=>by
  have gk:∀ {i:Nat} {d:D},ds[i]? = some d -> (ds.map key)[i]? = some (key d):=λh=>by rw [List.getElem?_map,h];rfl
  have hR:∀ out:Array Keyed,out.toList.Pairwise (λx y=>HT.lexLt (kzc keys (ds.map key) y.1) (kzc keys (ds.map key) x.1) = false) -> ∀ L:List (D × Value × Value),L.Perm (ds.zip (keys.zip its)) -> out.toList = L.map (·.2) -> (L.map (·.1)).Pairwise λa b=>HT.lexLt (key b) (key a) = false:=by
    intro out hp L pL eL;have hq:∀ q ∈ L,kzc keys (ds.map key) q.2.1 = key q.1:=λq hq=>by
      obtain ⟨i,g1,g2⟩:=Xlp (pL.mem_iff.mp hq);have g5:keys[i]? = some q.2.1:=by
        obtain ⟨b1,b2⟩:=List.getElem?_eq_some_iff.mp g2;rw [List.getElem_zip] at b2;rw [List.getElem?_eq_getElem (by rw [List.length_zip] at b1;omega),<- b2]
      exact Xnq fn g5 (gk g1)
    rw [eL,List.pairwise_map] at hp;rw [List.pairwise_map];refine hp.imp_of_mem λ{a b} ha hb h=>?_
    rw [hq a ha,hq b hb] at h;exact h
  by_cases h:its.toArray.size < 2
  · rw [if_pos h]
    refine wpAny_pure ?_;rw [if_pos h,StateT.run_pure];refine wpAny_pure (k (SortSt.mk' general' (keys.toArray.zip its.toArray) #[] 7 none) s'.toks (Array.Perm.refl _) rfl (hR _ ?_));have hz:(keys.toArray.zip its.toArray).toList.length < 2:=by
      simp at h ⊢;omega
    show List.Pairwise _ (keys.toArray.zip its.toArray).toList
    exact Xpc _ hz
  · rw [if_neg h]
    refine kind (by simpa using h) E _ ?_;rw [if_neg h];have hid:∀ x ∈ keys.zip its,∃ (i:Nat) (d:D),ds[i]? = some d /\ keys[i]? = some x.1:=λx hx=>by
      obtain ⟨i,g1,g2⟩:=Xlp hx;have hi:i < ds.length:=by
        have:=(List.getElem?_eq_some_iff.mp g1).1;omega
      exact ⟨i,ds[i],List.getElem?_eq_getElem hi,g1⟩
    have hz:(keys.toArray.zip its.toArray).toList = keys.zip its:=by simp
    have O:T.Ord prog w A s' κ (λx=>x ∈ keys.zip its) (λx y=>HT.lexLt (kzc keys (ds.map key) x.1) (kzc keys (ds.map key) y.1)) :=
      { run:=λx y hx hy E Q h=>by
          obtain ⟨i,d,a1,a2⟩:=hid x hx;obtain ⟨j,d',b1,b2⟩:=hid y hy;rw [Xnq fn a2 (gk a1),Xnq fn b2 (gk b1)] at h;exact run i j _ _ _ _ a2 b2 (gk a1) (gk b1) E Q h
        asym:=λx y _ _ h=>Xps h
        le:=λx y z _ _ _ h h'=>Xvz h h' }
    have W:=T.wpS_sortRuns (E:=E) (st:=SortSt.mk' κ (keys.toArray.zip its.toArray) #[] 7 none) (Q:=λ_ st=>Q ((),st) s') O ⟨rfl,rfl,λx hx=>by rw [<- hz];exact hx⟩ rfl λst' p1 p2 p3=>k st' s'.toks (Array.perm_iff_toList_perm.mpr p1) p3 (hR _ p2)
    exact wpAny_mono W (λr s2 hq=>by obtain ⟨rfl,q⟩:=hq;exact q) λ_ _ z=>z
theorem Xky {prog:Program} {w:World} {A:Around} {s':Shared} {keys its:List Value} {ds:List D} {key:D -> List Int} {κ:SortKind} (hl:ds.length = keys.length) (hl2:its.length = ds.length) (nd:(ds.map key).Nodup)
(fn:∀ (i j:Nat) u x y,keys[i]? = some u -> keys[j]? = some u -> (ds.map key)[i]? = some x -> (ds.map key)[j]? = some y -> x = y)
(kind:2 <= its.length -> ∀ (E:Value -> Shared -> Prop) (Q:SortKind -> Shared -> Prop),Q κ s' -> wpAny (model prog w) A (keyKind' keys.toArray) Q E s')
(run:∀ (i j:Nat) u v x y,keys[i]? = some u -> keys[j]? = some v -> (ds.map key)[i]? = some x -> (ds.map key)[j]? = some y -> (x = y -> i = j) -> ∀ (E:Value -> Shared -> Prop) (Q:Bool -> Shared -> Prop),Q (HT.lexLt x y) s' -> wpAny (model prog w) A (keyLt' κ u v) Q E s') :
Sorts prog w A s' keys.toArray its.toArray λout=>∀ L:List (D × Value × Value),L.Perm (ds.zip (keys.zip its)) -> out.toList = L.map (·.2) -> (L.map (·.1)).Pairwise λa b=>HT.lexLt (key a) (key b) = true:=λE Q k =>
 Xfb hl hl2 fn kind (λi j u v x y a b c d=>run i j u v x y a b c d λe=>Xpp nd c (by rw [d,e])) E Q λst tk p f hR=>k st tk p f λL pL eL=>by
  have hp:=hR L pL eL;have nd2:((L.map (·.1)).map key).Nodup:=by
   have e:=pL.map (·.1);rw [List.map_fst_zip (by rw [List.length_zip];omega)] at e;exact ((e.map key).nodup_iff).mpr nd
  rw [List.Nodup,List.pairwise_map] at nd2;exact (hp.and nd2).imp λ{a b} h=>Xis _ _ (λz=>h.2 z.symm) h.1
def Xkt (K:PySem.W.Frag) (H:Hp) (vs:List V) (ds:List D) (R:List D -> Prop) (X:Cx):Prop:=∀ (A:Around) (σ:L2.St) (pins:List (Addr × Obj)) (s:Shared) (its:List Value),L2.Inv X pins σ H s -> Vals vs its ->
 Sorts X.prog X.w A s its.toArray its.toArray λout=>∀ L:List (D × Value × Value),L.Perm (ds.zip (its.zip its)) -> out.toList = L.map (·.2) -> R (L.map (·.1))
theorem zip3 {α β γ:Type}:∀ (ds:List α) (vs:List β) (us:List γ),ds.length = vs.length -> vs.length = us.length -> (ds.zip (vs.zip us)).map (λq=>(q.1,q.2.2,q.2.2)) = ds.zip (us.zip us)
 | [],[],[],_,_=>rfl
 | _ :: ds,_ :: vs,_ :: us,h1,h2=>by simp [zip3 ds vs us (by simpa using h1) (by simpa using h2)]
 | [],_ :: _,_,h,_=>by cases h
 | _ :: _,[],_,h,_=>by cases h
 | _,[],_ :: _,_,h=>by cases h
 | _,_ :: _,[],_,h=>by cases h
theorem zip3b {α β γ:Type}:∀ (ds:List α) (vs:List β) (us:List γ),ds.length = vs.length -> vs.length = us.length -> (ds.zip (vs.zip us)).map (λq=>(q.1,q.2.1)) = ds.zip vs
 | [],[],[],_,_=>rfl
 | _ :: ds,_ :: vs,_ :: us,h1,h2=>by simp [zip3b ds vs us (by simpa using h1) (by simpa using h2)]
 | [],_ :: _,_,h,_=>by cases h
 | _ :: _,[],_,h,_=>by cases h
 | _,[],_ :: _,_,h=>by cases h
 | _,_ :: _,[],_,h=>by cases h
section
variable {X:Cx} {pins:List (Addr × Obj)} {σ:L2.St} {H:Hp} {s:Shared}
theorem Xfc {x:Value} {ds:List D} {vs:List V} {R:List D -> Prop} {Q:VK} (hlen0:ds.length = vs.length) (hz:vs.length <= sizeLine)
(col:∀ (A:Around) (Q':List Value -> Shared -> Prop) (E':Value -> Shared -> Prop),A.handled = X.A.handled -> (∀ its s1,L2.Inv X pins σ H s1 -> Vals vs its -> Q' its s1) -> wpAny (model X.prog X.w) A (collect x) Q' E' s) (sorts:Xkt X.K H vs ds R X)
(h:∀ a (L:List (D × V)),H a = none -> L.Perm (ds.zip vs) -> R (L.map (·.1)) -> Q (.ref a) (upd H a (.lst (L.map (·.2))))) :
wpAny (model X.prog X.w) X.A (call (.builtin "sorted") [x]) (EP X pins σ Q) X.xe s:=by
 refine Calls.call_function_entry kind_sorted plain_sorted entry_sorted (args_sorted1 _) ?_;unfold Builtin.«sorted»;refine wpAny_bind (m:=checkCount "sorted" 1 1 _) (wpAny_pure ?_);refine wpAny_bind (col _ _ _ rfl λits s I rv=>?_);have hl2:=rv.length;have hlen:its.length <= sizeLine:=by rw [<- rv.length];exact hz
 refine wpAny_bind (wpAny_newList ?_ hlen);have hoL:(s.heap.push (seqObj "list" its.toArray 0)).get? s.heap.objs.size = some (seqObj "list" its.toArray 0):=Heap.get?_push_size _ rfl;have keep:∀ b o,s.heap.get? b = some o -> (s.heap.push (seqObj "list" its.toArray 0)).get? b = some o:=λb o q=>Heap.get?_push_of_some _ q
 have oD:Out X pins s.heap.objs.size:=Xvk I (Nat.le_refl _);have nD:H s.heap.objs.size = none:=I.hok.fresh (Nat.le_refl _);generalize hh2:s.heap.push (seqObj "list" its.toArray 0) = h2 at hoL keep
 show wpAny _ _ _ _ _ { s with heap:=h2 }
 dsimp only
 have I1:L2.Inv X pins σ H { s with heap:=h2,toks:=s.toks }:=I.kept (t':=s.toks) keep;generalize s.heap.objs.size = a at hoL oD nD;refine wpAny_bind (wpAny_holding (wpAny_call_entry slot_list_sort ⟨_,hoL,rfl⟩ entry_list_sort ?body (args_list_sort _)))
 case body =>
  rw [list_sort_plain];have s1:=Heap.SameBut.update h2 a (Obj.mapSeq λ_=>(#[]:Array Value));obtain ⟨e1,ho1⟩:∃ e1,(h2.update a (Obj.mapSeq λ_=>(#[]:Array Value))).get? a = some (seqObj "list" #[] e1):=⟨_,get?_update_seq hoL λ_=>#[]⟩
  have I2:L2.Inv X pins σ H { s with heap:=h2.update a (Obj.mapSeq λ_=>(#[]:Array Value)),toks:=s.toks }:=I1.turned (s:={ s with heap:=h2,toks:=s.toks }) (h':=h2.update a (Obj.mapSeq λ_=>(#[]:Array Value))) (t':=s.toks) (it:=a) (λb u hb q=>(s1.2 b hb).trans q) nD oD.l oD.x oD.c oD.p;refine wpAny_bind (listItems_at hoL rfl ?_);refine wpAny_bind (listUpdate_at hoL rfl ?_ (by simpa using hlen) (Nat.zero_le _));refine wpAny_bind (seqEpoch_at ho1 rfl ?_);refine wpAny_bind (wpAny_newTuple ?_ (by simpa using hlen));refine wpAny_bind (wpAny_newList ?_ (Nat.zero_le _));refine wpAny_holding ?_;have I3:=I2.kept (h':=(h2.update a (Obj.mapSeq λ_=>(#[]:Array Value))).push (seqObj "tuple" its.toArray 0)) (t':=s.toks) λb u q=>Heap.get?_push_of_some _ q
  have I4:=I3.kept (h':=((h2.update a (Obj.mapSeq λ_=>(#[]:Array Value))).push (seqObj "tuple" its.toArray 0)).push (seqObj "list" #[] 0)) (t':=s.toks) λb u q=>Heap.get?_push_of_some _ q
  have ho6:(((h2.update a (Obj.mapSeq λ_=>(#[]:Array Value))).push (seqObj "tuple" its.toArray 0)).push (seqObj "list" #[] 0)).get? a = some (seqObj "list" #[] e1):=Heap.get?_push_of_some _ (Heap.get?_push_of_some _ ho1);generalize hh6:((h2.update a (Obj.mapSeq λ_=>(#[]:Array Value))).push (seqObj "tuple" its.toArray 0)).push (seqObj "list" #[] 0) = h6 at I4 ho6
  show wpAny _ _ _ _ _ { s with heap:=h6 }
  dsimp only;have so:=λ(A:Around)=>sorts A σ pins _ its I4 rv
  have tailOk:∀ (A:Around) (E:Value -> Shared -> Prop) (st:SortSt) (tk:Nat),(arrOf st).Perm (its.toArray.zip its.toArray) -> failedOf st = none -> (∀ L:List (D × Value × Value),L.Perm (ds.zip (its.zip its)) -> (arrOf st).toList = L.map (·.2) -> R (L.map (·.1))) ->
    ∀ {P:PySem.Fin -> Shared -> Prop},(∀ s',EP X pins σ Q (.ref a) s' -> P (.done (.ret .none)) s') -> wpAny (model X.prog X.w) A (do
     let touched:=(<- seqEpoch a) != e1
     Builtin.List.listUpdate (.ref a) λ_=>(arrOf st).map (·.2)
     if let some e:=failedOf st then rule "list.sort.comparison-raised"; throw e
     if touched then rule "list.sort.modified"; raiseError "ValueError" "list modified during sort"
     ret .none) P E { s with heap:=h6,toks:=tk }:=by
   intro A E st tk hp hf hR P hP;have hpl:(arrOf st).toList.Perm (its.zip its):=by
    have:=Array.perm_iff_toList_perm.mp hp
    simpa using this
   have hmap:(ds.zip (vs.zip its)).map (λq=>(q.2.2,q.2.2)) = its.zip its:=by
    have:=congrArg (List.map Prod.snd) (zip3 ds vs its hlen0 hl2);rw [List.map_map,List.map_snd_zip (by rw [List.length_zip];omega)] at this;exact this
   obtain ⟨L,pL,eL⟩:=Xaq (λq:D × V × Value=>(q.2.2,q.2.2)) hpl (ds.zip (vs.zip its)) hmap.symm;have hR2:R (L.map (·.1)):=by
    have:=hR (L.map λq=>(q.1,q.2.2,q.2.2)) (by rw [<- zip3 ds vs its hlen0 hl2];exact pL.map _) (by rw [List.map_map];exact eL);rw [List.map_map] at this;exact this
   obtain ⟨out,hout⟩:∃ out:Array Value,out = (arrOf st).map (·.2):=⟨_,rfl⟩;have hos:out.size <= sizeLine:=by
    rw [hout,Array.size_map,<- Array.length_toList,hpl.length_eq,List.length_zip];omega
   have hol:out.toList = L.map λq=>q.2.2:=by
    rw [hout,Array.toList_map,eL,List.map_map];rfl
   rw [<- hout];refine wpAny_bind (seqEpoch_at ho6 rfl ?_);refine wpAny_bind (listUpdate_at (f:=λ_=>out) ho6 rfl ?_ (Nat.zero_le _) (Nat.le_succ_of_le hos));rw [hf];simp only [bne_self_eq_false,Bool.false_eq_true,if_false];have s2:=Heap.SameBut.update h6 a (Obj.mapSeq λ_=>out);obtain ⟨c2,hc2⟩:∃ c2,(h6.update a (Obj.mapSeq λ_=>out)).get? a = some (seqObj "list" out c2):=⟨_,get?_update_seq ho6 λ_=>out⟩;have hov:Vals (L.map λq=>q.2.1) (L.map λq=>q.2.2):=by
    have hall:∀ (cs:List V) (bs:List Value) (as:List D),Vals cs bs -> ∀ q ∈ as.zip (cs.zip bs),L2.RelV q.2.1 q.2.2:=by
     intro cs bs as r
     induction r generalizing as with
     | nil=>intro q hq;simp at hq
     | cons r1 r2 ih =>
      intro q hq
      cases as with
      | nil=>simp at hq
      | cons x as =>
       rcases List.mem_cons.mp hq with rfl | hq
       ·exact r1
       ·exact ih as q hq
    have hq:∀ q ∈ L,L2.RelV q.2.1 q.2.2:=λq hq=>hall vs its ds rv q (pL.mem_iff.mp hq)
    clear hR2 hol eL pL
    induction L with
    | nil=>exact .nil
    | cons q L ih=>exact .cons (hq q (.head _)) (ih λq hq'=>hq q (.tail _ hq'))
   have ll:(L.map λq=>q.2.1).length <= sizeLine:=by
    rw [List.length_map,pL.length_eq,List.length_zip,List.length_zip];omega
   have I9:L2.Inv X pins σ (upd H a (.lst (L.map λq=>q.2.1))) { s with heap:=h6.update a (Obj.mapSeq λ_=>out),toks:=tk } :=
    Inv.track (s:={ s with heap:=h6,toks:=s.toks }) I4 (oD.fp nD) (λb u hb q=>(s2.2 b hb).trans q) ⟨ll,L.map λq=>q.2.2,c2,hov,by rw [hc2,<- hol]⟩
   refine wpAny_pure (hP _ ⟨.ref a,_,I9,rfl,?_⟩);have:=h a (L.map λq=>(q.1,q.2.1)) nD (by rw [<- zip3b ds vs its hlen0 hl2];exact pL.map _) (by rw [List.map_map];exact hR2);rw [List.map_map] at this;exact this
  by_cases h2':its.toArray.size < 2
  ·have g1:=so X.A.in1.in1 X.xe
   simp only [if_pos h2'] at g1 ⊢;refine wpAny_bind (wpAny_mono (g1 (λp s2=>wpAny (model X.prog X.w) _ _ _ _ s2) λst tk p1 p2 p3=>tailOk _ _ st tk p1 p2 p3 λs' hs'=>⟨_,rfl,wpAny_pure ⟨_,rfl,hs'⟩⟩) (λκ s1 h1=>wpAny_bind (wpAny_mono h1 (λp s2 h2=>h2) λ_ _ z=>z)) λ_ _ z=>z)
  ·have g1:=so X.A.in1.in1 X.xe
   simp only [if_neg h2'] at g1 ⊢;refine wpAny_bind (wpAny_mono (g1 (λp s2=>wpAny (model X.prog X.w) _ _ _ _ s2) λst tk p1 p2 p3=>tailOk _ _ st tk p1 p2 p3 λs' hs'=>⟨_,rfl,wpAny_pure ⟨_,rfl,hs'⟩⟩) (λκ s1 h1=>wpAny_bind (wpAny_mono h1 (λp s2 h2=>h2) λ_ _ z=>z)) λ_ _ z=>z)
theorem Xgv {l:Addr} {ds:List D} {vs:List V} {R:List D -> Prop} {Q:VK} (I:L2.Inv X pins σ H s) (hl:SqL X.K H l vs) (hlen0:ds.length = vs.length) (sorts:Xkt X.K H vs ds R X)
(h:∀ a (L:List (D × V)),H a = none -> L.Perm (ds.zip vs) -> R (L.map (·.1)) -> Q (.ref a) (upd H a (.lst (L.map (·.2))))) :
wpAny (model X.prog X.w) X.A (call (.builtin "sorted") [.ref l]) (EP X pins σ Q) X.xe s:=by
 obtain ⟨its,rv,pl,hz⟩:=I.list hl;refine Xfc hlen0 hz (λA Q' E' _ k=>collect_list pl.isList (k its _ (I.kept (t':=s.toks) λb o q=>?_) rv) (by rw [<- rv.length];exact hz)) sorts h;have hlt:b < s.heap.objs.size:=Heap.lt_size q;rw [Heap.get?_update_ne _ _ _ _ (Nat.ne_of_lt hlt),Heap.get?_push_ne _ _ _ (Nat.ne_of_lt hlt)];exact q
end
inductive FlatsAre:List Value -> List Key -> Prop
 | nil:FlatsAre [] []
 | int (n:Int) (t:Tok) {vs ks}:FlatsAre vs ks -> FlatsAre (.int n t :: vs) (.inl n :: ks)
 | str (x:Str) (t:Tok) {vs ks}:FlatsAre vs ks -> FlatsAre (.str x t :: vs) (.inr x :: ks)
def IKm (h:Heap) (v:Value) (zs:List Int) (ks:List Key):Prop:=∃ a its us ws,v = .ref a /\ IsTup h a its /\ its.toList = us ++ ws /\ IntsAre us zs /\ FlatsAre ws ks
section
variable {prog:Program} {w:World} {A:Around} {E:Value -> Shared -> Prop} {s:Shared}
theorem Xco:∀ {vs:List Value} {ks:List Key},FlatsAre vs ks -> vs.length = ks.length
 | _,_,.nil=>rfl
 | _,_,.int _ _ r=>by rw [List.length_cons,List.length_cons,Xco r]
 | _,_,.str _ _ r=>by rw [List.length_cons,List.length_cons,Xco r]
theorem Xel {Q:Bool -> Shared -> Prop}:∀ (vs us:List Value) (ks:List Key) (i:Nat),FlatsAre vs ks -> FlatsAre us ks -> Q false s -> PySem.W.KatLex prog w A true false Q (vs.zip us) i s
 | _,_,_,i,.nil,.nil,h=>PySem.W.kat_nil h
 | _,_,_,i,.int (vs:=vs) (ks:=ks) n t r,.int (vs:=us) _ u r',h=>PySem.W.kat_cons (wpAny_eqBool_int (by
   rw [show (n == n) = true by simp]
   exact PySem.W.kat_yes (Xel vs us ks (i + 1) r r' h)))
 | _,_,_,i,.str (vs:=vs) (ks:=ks) x t r,.str (vs:=us) _ u r',h=>PySem.W.kat_cons (wpAny_eqBool_str (by
   rw [show decide (x = x) = true by simp]
   exact PySem.W.kat_yes (Xel vs us ks (i + 1) r r' h)))
theorem Xka {Q:Bool -> Shared -> Prop} {fin:Bool} {vt ut:List Value}:∀ (vs us:List Value) (xs ys:List Int) (i:Nat),IntsAre vs xs -> IntsAre us ys -> xs.length = ys.length -> Q (HT.lexLt xs ys) s -> (xs = ys -> fin = false /\ ∃ ks,FlatsAre vt ks /\ FlatsAre ut ks) ->
 PySem.W.KatLex prog w A true fin Q ((vs ++ vt).zip (us ++ ut)) i s
  | _,_,_,_,i,.nil,.nil,_,h,e=>by
    obtain ⟨e1,ks,f1,f2⟩:=e rfl;rw [e1];exact Xel vt ut ks i f1 f2 h
  | _,_,_,_,i,.nil,.cons _ _ _,hl,_,_=>by cases hl
  | _,_,_,_,i,.cons _ _ _,.nil,hl,_,_=>by cases hl
  | _,_,_,_,i,.cons (vs:=vs) (ns:=xs) n t r,.cons (vs:=us) (ns:=ys) m u r',hl,h,e=>by
    rw [HT.lexLt_cons] at h;refine PySem.W.kat_cons (wpAny_eqBool_int ?_)
    by_cases e':n = m
    · rw [if_pos e'] at h
      rw [show (n == m) = true by simpa using e'];exact PySem.W.kat_yes (Xka vs us xs ys (i + 1) r r' (by simpa using hl) h λz=>e (by rw [e',z]))
    · rw [if_neg e'] at h
      rw [show (n == m) = false by simpa using e'];refine PySem.W.kat_no ?_
      cases hb:(true && i == 0) with
      | true=>exact oneLt_int h
      | false=>exact PySem.W.kat_one _ _ (wpAny_lt_int h)
theorem Xsz {x y:Value} {xs ys:List Int} {ks js:List Key} {Q:Bool -> Shared -> Prop} (hx:IKm s.heap x xs ks) (hy:IKm s.heap y ys js) (hl:xs.length = ys.length) (he:xs = ys -> ks = js) (h:Q (HT.lexLt xs ys) s):wpAny (model prog w) A (keyLt' (tuples' true) x y) Q E s:=by
 obtain ⟨a1,i1,u1,w1,rfl,⟨o1,g1,_,n1,d1⟩,e1,r1,f1⟩:=hx;obtain ⟨a2,i2,u2,w2,rfl,⟨o2,g2,_,n2,d2⟩,e2,r2,f2⟩:=hy;refine PySem.W.kat_lt g1 d1 g2 d2 ?_;rw [e1,e2];refine Xka u1 u2 xs ys 0 r1 r2 hl h λz=>⟨?_,ks,f1,?_⟩
 ·have l1:=congrArg List.length e1
  have l2:=congrArg List.length e2;rw [List.length_append,Xat r1,Xco f1] at l1;rw [List.length_append,Xat r2,Xco f2,<- he z,<- hl] at l2;simp only [Array.length_toList] at l1 l2;exact decide_eq_false (by omega)
 ·rw [he z];exact f2
end
theorem IKm.fn {h:Heap} {v:Value} {xs ys:List Int} {ks js:List Key} (a:IKm h v xs ks) (b:IKm h v ys js) (hl:xs.length = ys.length):xs = ys:=by
 obtain ⟨a1,i1,u1,w1,rfl,t1,e1,r1,_⟩:=a;obtain ⟨a2,i2,u2,w2,e,t2,e2,r2,_⟩:=b;cases e;obtain ⟨o1,g1,_,n1,d1⟩:=t1;obtain ⟨o2,g2,_,n2,d2⟩:=t2;rw [g1] at g2;cases g2;rw [d1] at d2;cases d2;rw [e1] at e2;have hu:u1 = u2:=List.append_inj_left e2 (by rw [Xat r1,Xat r2,hl]);subst hu;exact Xiv r1 r2
section
variable {X:Cx} {pins:List (Addr × Obj)} {σ:L2.St} {H:Hp} {s:Shared}
theorem Xcz {K:PySem.W.Frag} {H:Hp}:∀ {ks:List Key} {vs:List V} {us:List Value},Reps K H (ks.map kD) vs -> Vals vs us -> FlatsAre us ks
 | [],_,us,r,t=>by
  simp only [List.map_nil,Reps] at r;subst r;cases t;exact .nil
 | .inl z :: ks,_,us,r,t=>by
  simp only [List.map_cons,Reps] at r;obtain ⟨v,vs,rfl,h1,h2⟩:=r;simp only [kD,Rep] at h1;subst h1
  cases t with
  | cons q r =>
   obtain ⟨tk,rfl⟩:=q;exact .int _ _ (Xcz h2 r)
 | .inr z :: ks,_,us,r,t=>by
  simp only [List.map_cons,Reps] at r;obtain ⟨v,vs,rfl,h1,h2⟩:=r;simp only [kD,Rep] at h1;subst h1
  cases t with
  | cons q r =>
   obtain ⟨tk,rfl⟩:=q;exact .str _ _ (Xcz h2 r)
theorem Reps.split {K:PySem.W.Frag} {H:Hp}:∀ {as bs:List D} {vs:List V},Reps K H (as ++ bs) vs -> ∃ us ws,vs = us ++ ws /\ Reps K H as us /\ Reps K H bs ws
 | [],bs,vs,h=>⟨[],vs,rfl,Reps.nil,h⟩
 | a :: as,bs,vs,h=>by
  rw [List.cons_append] at h;simp only [Reps] at h;obtain ⟨v,r,rfl,h1,h2⟩:=h;obtain ⟨us,ws,rfl,h3,h4⟩:=Reps.split h2;exact ⟨v :: us,ws,rfl,Reps.cons h1 h3,h4⟩
theorem Vals.split:∀ {us ws:List V} {xs:List Value},Vals (us ++ ws) xs -> ∃ ys zs,xs = ys ++ zs /\ Vals us ys /\ Vals ws zs
 | [],ws,xs,h=>⟨[],xs,rfl,.nil,h⟩
 | u :: us,ws,xs,h=>by
  cases h with
  | cons r t =>
   obtain ⟨ys,zs,rfl,h1,h2⟩:=Vals.split t;exact ⟨_ :: ys,zs,rfl,.cons r h1,h2⟩
theorem Xwp (I:L2.Inv X pins σ H s) {zs:List Int} {ks:List Key} {v:V} {u:Value} (r:Rep X.K H (.tup (zs.map D.int ++ ks.map kD)) v) (q:L2.RelV v u):IKm s.heap u zs ks:=by
 simp only [Rep] at r;obtain ⟨a,vs,rfl,e,r⟩:=r;obtain ⟨_,its,t,ht⟩:=I.hok a _ e;obtain ⟨us,ws,rfl,r1,r2⟩:=Reps.split r;obtain ⟨ys,zs',rfl,t1,t2⟩:=Vals.split t;exact ⟨a,_,ys,zs',q,ht,rfl,Xei r1 t1,Xcz r2 t2⟩
end
theorem Xrf:∀ {ks js:List Key},ks.map kD = js.map kD -> ks = js
 | [],[],_=>rfl
 | [],_ :: _,h=>by cases h
 | _ :: _,[],h=>by cases h
 | k :: ks,j :: js,h=>by
  rw [List.map_cons,List.map_cons] at h
  injection h with h1 h2
  rw [Xrf h2]
  cases k <;> cases j <;> simp only [kD] at h1 <;> first | (injection h1 with h1;rw [h1]) | cases h1
def SMix (key:D -> List Int) (m:Nat) (ds:List D):Prop:=0 < m /\ (∀ d ∈ ds,(key d).length = m /\ ∃ ks:List Key,d = .tup ((key d).map D.int ++ ks.map kD)) /\ (ds.map key).Nodup
theorem Xmd {X:Cx} {H:Hp} {vs:List V} {ds:List D} {key:D -> List Int} {m:Nat} (h:SMix key m ds) (rd:Reps X.K H ds vs):Xkt X.K H vs ds (λods=>ods.Pairwise λa b=>HT.lexLt (key a) (key b) = true) X:=λA σ pins s its I rv=>by
 obtain ⟨hm,hk,nd⟩:=h;have l1:=rd.length;have l2:=rv.length;have at':∀ (i:Nat) u x,its[i]? = some u -> (ds.map key)[i]? = some x -> x.length = m /\ ∃ ks d,ds[i]? = some d /\ x = key d /\ IKm s.heap u x ks /\ d = .tup (x.map D.int ++ ks.map kD):=λi u x h1 h2=>by
  rw [List.getElem?_map] at h2;obtain ⟨d,hd,rfl⟩:=Option.map_eq_some_iff.mp h2;obtain ⟨hl,ks,e⟩:=hk d (List.mem_of_getElem? hd);obtain ⟨v,ev,rep⟩:=rd.get hd;obtain ⟨u',eu,ru⟩:=rv.get ev;rw [h1] at eu;cases eu;refine ⟨hl,ks,d,hd,rfl,Xwp I ?_ ru,e⟩;rw [<- e];exact rep
 refine Xky (κ:=tuples' true) (by omega) (by omega) nd (λi j u x y a b c d=>?_) (λh2 E Q q=>?_) (λi j u v x y a b c d hne E Q q=>?_)
 ·obtain ⟨z1,k1,_,_,_,z2,_⟩:=at' i u x a c
  obtain ⟨y1,k2,_,_,_,y2,_⟩:=at' j u y b d;exact z2.fn y2 (by rw [z1,y1])
 ·have tk:∀ (as:List D) (us:List Value),as.length = us.length -> (∀ (i:Nat) d u,as[i]? = some d -> us[i]? = some u -> ∃ z zs ks,IKm s.heap u (z :: zs) ks) -> ∃ fs,PySem.W.KatTups s.heap us fs /\ fs.length = us.length /\ ∀ f ∈ fs,∃ i t,f = Value.int i t:=by
   intro as
   induction as with
   | nil =>
    intro us e _
    cases us with
    | nil=>exact ⟨[],.nil,rfl,λf hf=>nomatch hf⟩
    | cons u us=>cases e
   | cons d as ih =>
    intro us e hh
    cases us with
    | nil=>cases e
    | cons u us =>
     obtain ⟨fs,t,l,hf⟩:=ih us (by simpa using e) λi d' u' e1 e2=>hh (i + 1) d' u' (by simpa using e1) (by simpa using e2)
     obtain ⟨z,zs,ks,a,its,us',ws',rfl,⟨o,g,c,n,dd⟩,ee,r,_⟩:=hh 0 d u rfl rfl
     cases r with
     | cons _ tk r =>
      obtain ⟨its⟩:=its;simp only at ee;refine ⟨.int z tk :: fs,.cons g c dd (by rw [ee];rfl) t,by rw [List.length_cons,List.length_cons,l],λf hq=>?_⟩
      rcases List.mem_cons.mp hq with rfl | hq
      ·exact ⟨z,tk,rfl⟩
      ·exact hf f hq
  obtain ⟨fs,kt,lf,hf⟩:=tk ds its (by omega) λi d u e1 e2=>by
   obtain ⟨z1,k1,d',_,_,z2,_⟩:=at' i u (key d) e2 (by rw [List.getElem?_map,e1];rfl)
   cases hz:key d with
   | nil=>rw [hz] at z1;simp at z1;omega
   | cons z zs=>rw [hz] at z2;exact ⟨z,zs,k1,z2⟩
  refine PySem.W.kat_kind kt (by omega) (T:=Value.type "int") (λv hv=>?_) rfl q;obtain ⟨i,t,rfl⟩:=hf v hv;exact .now
 ·obtain ⟨z1,k1,d1,g1,e1,z2,f1⟩:=at' i u x a c
  obtain ⟨y1,k2,d2,g2,e2,y2,f2⟩:=at' j v y b d;refine Xsz z2 y2 (by rw [z1,y1]) (λe=>?_) q;have:=hne e;subst this;rw [a] at b;cases b;rw [g1] at g2;cases g2;subst e;rw [f1] at f2
  injection f2 with f2
  have f3:=List.append_cancel_left f2;exact Xrf f3
def Xqp (K:PySem.W.Frag) (xs:List V) (H:Hp) (Q:VK):Prop:=∃ l vs ds key m,xs = [.ref l] /\ SqL K H l vs /\ Reps K H ds vs /\ SMix key m ds /\ ∀ p (L:List (D × V)),H p = none -> L.Perm (ds.zip vs) -> (L.map (·.1)).Pairwise (λa b=>HT.lexLt (key a) (key b) = true) -> Q (.ref p) (upd H p (.lst (L.map (·.2))))
theorem Xjb {X:Cx}:CallR X (.builtin "sorted") (Xqp X.K):=by
 intro pins s σ H xs us Q I r h;obtain ⟨l,vs,ds,key,m,rfl,hl,rd,hk,q⟩:=h
 cases r with
 | cons r1 r2 =>
  cases r2;cases (show _ = Value.ref l from r1);exact Xgv I hl rd.length (Xmd hk rd) λa L hn hp hR=>q a L hn hp hR
def dSort (ds:List D) (Q:D -> Prop):Prop:=match ds with
 | [.lst xs]=>∃ key m,SMix key m xs /\ ∀ ods:List D,ods.Perm xs -> ods.Pairwise (λa b=>HT.lexLt (key a) (key b) = true) -> Q (.lst ods)
 | _=>False
theorem Xfd {K:PySem.W.Frag} {G:Hp}:∀ {ds:List D} {vs:List V},Reps K G ds vs -> ∀ q ∈ ds.zip vs,Rep K G q.1 q.2
 | [],vs,_,q,hq=>by simp at hq
 | d :: ds,vs,h,q,hq=>by
  simp only [Reps] at h;obtain ⟨v,r,rfl,h1,h2⟩:=h
  rcases List.mem_cons.mp hq with rfl | hq
  ·exact h1
  ·exact Xfd h2 q hq
theorem Xcf {K:PySem.W.Frag} {G:Hp}:∀ {L:List (D × V)},(∀ q ∈ L,Rep K G q.1 q.2) -> Reps K G (L.map (·.1)) (L.map (·.2))
 | [],_=>Reps.nil
 | q :: L,h=>Reps.cons (h q (.head _)) (Xcf λq hq=>h q (.tail _ hq))
theorem Xtd {K:PySem.W.Frag}:LfN K (Xqp K) dSort:=λH0 σ δ G H vs ds Qd Q hs r h k=>by
 unfold dSort at h
 split at h
 ·rename_i xs
  obtain ⟨key,m,hk,q⟩:=h;obtain ⟨v,rr,rfl,⟨a,ws,rfl,h2,h3⟩,h4⟩:=r;obtain rfl:rr = []:=h4;refine ⟨a,ws,xs,key,m,rfl,h2,Reps.mono hs.sub _ _ h3,hk,λp L hp pL hR=>k _ _ G (.lst (L.map (·.1))) (hs.fresh hp ⟨_,Xac,Xcf λq hq=>Xfd h3 q (pL.mem_iff.mp hq)⟩) (Same.refl _) (Xal hp) (q _ ?_ hR)⟩;have:=pL.map (·.1);rw [List.map_fst_zip (by rw [h3.length];exact Nat.le_refl _)] at this;exact this
 ·exact h.elim
section
variable {X:Cx} {H0:Hp} {e:Expr} {es:List Expr} {tr:RA} {pos p:Pos}
theorem n_sort (hm:X.mg "sorted" = none) (ha:PAB2 X H0 (e :: es) tr) (hg:Gl X "sorted" := by rfl)
(he:starEach (e :: es) X.env = (false,eval e X.env) :: starEach es X.env:=by rfl) (hpl:(backTo pos (starEach es X.env)).any (·.1) = false:=by rfl):PN2 X H0 (.Call (.Name "sorted" p) (e :: es) [] pos) (rCB dSort tr) :=
 PE.weak (Xci Xjb hg hm rfl ha (by decide) (by decide) he hpl) (Xjy Xtd)
end
theorem Drawn.five {s1 s2 s3 s4 s5:Int} {P:List Int -> Prop} (h:∀ a b c d e:Int,0 <= a -> a < s1 -> 0 <= b -> b < s2 -> 0 <= c -> c < s3 -> 0 <= d -> d < s4 -> 0 <= e -> e < s5 -> P [a,b,c,d,e]):∀ out,Drawn out [s1,s2,s3,s4,s5] -> P out:=λout w=>by
 cases w with | cons a0 a1 w=>cases w with | cons b0 b1 w=>cases w with | cons c0 c1 w=>cases w with | cons d0 d1 w=>cases w with | cons e0 e1 w=>cases w with | nil=>exact h _ _ _ _ _ a0 a1 b0 b1 c0 c1 d0 d1 e0 e1
section
variable {K:PySem.W.Frag} {H0:Hp} {σ:L2.St} {δ:List Sl} {G H:Hp}
end
section
variable {X:Cx} {H0:Hp} {tg:Expr} {g:RG} {body:List Stmt} {tb:RS} {pos p:Pos} {x:Str}
end
section
variable {X:Cx} {pins:List (Addr × Obj)} {σ:L2.St} {H:Hp} {s:Shared} {h':Heap}
theorem Xez {t':Nat} {ch:List Addr} (I:L2.Inv X pins σ H s) (hf:∀ b ∈ ch,FpOk X pins H b) (k:∀ b o,b ∉ ch -> s.heap.get? b = some o -> h'.get? b = some o):L2.Inv X pins σ H { s with heap:=h',toks:=t' }:=by
 have nit:∀ b u,H b = some u -> b ∉ ch:=λb u e z=>by rw [(hf b z).1] at e;cases e
 refine I.step (g':=s.gens) (d':=s.drawn) (ch:=ch) (λb hb=>?_) (λb o _ _ hc e _=>k b o hc e) (λb o _ _ hc e _=>⟨o.slots,k b o hc e⟩) (λ_ _ _ _ n=>n)
  (λb o hc e=>⟨o,k b o hc e⟩) (λ_ _ e=>e) (λ_ _ _ e=>e) (λb ps e=>⟨#[],by rw [e];simp⟩) (λm hm=>?_) (λb u e=>?_) I.bare
 ·obtain ⟨f0,f1,f2,f3,f4,f5⟩:=hf b hb
  exact ⟨f3,f1,f4,f5⟩
 ·obtain ⟨o,es,ep,ho,r⟩:=hm
  exact ⟨o,es,ep,k _ o (λz=>(hf _ z).2.1 rfl) ho,r⟩
 ·refine (I.hok b u e).stay (λc v hc q=>k c v ?_ q) (λ_ q=>q) λ_ _ q=>q
  rcases hc with z | z
  ·rw [z];exact nit b u e
  ·exact nit c _ z
end
section
variable {X:Cx} {H0:Hp}
variable {ts:List Expr} {k:Nat} {tp p pos pos2:Pos} {a b:Expr} {tr:RA} {g:RG} {tb:RS} {body:List Stmt}
end
section
variable {X:Cx} {H0:Hp} {pins:List (Addr × Obj)} {σ:L2.St} {H:Hp} {s:Shared}
mutual
theorem Xmm (I:L2.Inv X pins σ H s):∀ (n:Nat) (d d':D) (v:V),Xaa n d = true -> Xaa n d' = true -> Rep X.K H d v -> Rep X.K H d' v -> d = d':=λn d d' v p p' r r'=>by
 cases d with
 | dK _=>cases n <;> simp [Xaa] at p
 | dT _=>cases n <;> simp [Xaa] at p
 | adr _=>cases n <;> simp [Xaa] at p
 | exc _ _=>cases n <;> simp [Xaa] at p
 | non=>cases d' <;> simp_all [Rep]
 | bl b=>cases d' <;> simp_all [Rep]
 | int b=>cases d' <;> simp_all [Rep]
 | str b=>cases d' <;> simp_all [Rep]
 | tup xs =>
  simp only [Rep] at r;obtain ⟨a,vs,rfl,h1,h2⟩:=r
  cases d' with
  | tup ys =>
   simp only [Rep] at r';obtain ⟨a',ws,e,h3,h4⟩:=r';cases e;obtain rfl:=I.tuple_inj (SqT.of h1) (SqT.of h3)
   cases n with
   | zero=>simp [Xaa] at p
   | succ n =>
    simp only [Xaa] at p p';rw [Xgc I n xs ys _ p p' h2 h4]
  | lst ys =>
   simp only [Rep] at r';obtain ⟨a',ws,e,h3,h4⟩:=r';cases e;exact (Xay (K:=X.K) I h3 (SqT.of h1)).elim
  | dK _=>cases n <;> simp [Xaa] at p'
  | dT _=>cases n <;> simp [Xaa] at p'
  | adr _=>cases n <;> simp [Xaa] at p'
  | exc _ _=>cases n <;> simp [Xaa] at p'
  | _=>simp [Rep] at r'
 | lst xs =>
  simp only [Rep] at r;obtain ⟨a,vs,rfl,h1,h2⟩:=r
  cases d' with
  | lst ys =>
   simp only [Rep] at r';obtain ⟨a',ws,e,h3,h4⟩:=r';cases e;obtain rfl:=I.list_inj h1 h3
   cases n with
   | zero=>simp [Xaa] at p
   | succ n =>
    simp only [Xaa] at p p';rw [Xgc I n xs ys _ p p' h2 h4]
  | tup ys =>
   simp only [Rep] at r';obtain ⟨a',ws,e,h3,h4⟩:=r';cases e;exact (Xay (K:=X.K) I h1 (SqT.of h3)).elim
  | dK _=>cases n <;> simp [Xaa] at p'
  | dT _=>cases n <;> simp [Xaa] at p'
  | adr _=>cases n <;> simp [Xaa] at p'
  | exc _ _=>cases n <;> simp [Xaa] at p'
  | _=>simp [Rep] at r'
termination_by n=>(n,0)
theorem Xgc (I:L2.Inv X pins σ H s):∀ (n:Nat) (xs ys:List D) (vs:List V),xs.all (Xaa n) = true -> ys.all (Xaa n) = true -> Reps X.K H xs vs -> Reps X.K H ys vs -> xs = ys
 | n,[],ys,vs,_,_,h1,h2=>by
  simp only [Reps] at h1;subst h1
  cases ys with
  | nil=>rfl
  | cons y ys=>simp [Reps] at h2
 | n,x :: xs,ys,vs,p,p',h1,h2=>by
  simp only [Reps] at h1;obtain ⟨v,r,rfl,h3,h4⟩:=h1
  cases ys with
  | nil=>simp [Reps] at h2
  | cons y ys =>
   simp only [Reps] at h2;obtain ⟨v',r',e,h5,h6⟩:=h2;cases e;rw [List.all_cons,Bool.and_eq_true] at p p';rw [Xmm I n x y v p.1 p'.1 h3 h5,Xgc I n xs ys r p.2 p'.2 h4 h6]
termination_by n xs=>(n,xs.length + 1)
end
theorem Xpa {v v':V} {u:Value} (h:L2.RelV v u) (h':L2.RelV v' u):v = v':=by
 cases v <;> cases v' <;> simp only [L2.RelV] at h h' <;> first
  | (obtain ⟨t,rfl⟩:=h;obtain ⟨t',e⟩:=h';cases e;done)
  | (obtain ⟨t,rfl⟩:=h;obtain ⟨t',e⟩:=h';cases e;rfl)
  | (obtain ⟨t,rfl⟩:=h;cases h';done)
  | (obtain ⟨t',rfl⟩:=h';cases h;done)
  | (subst h;cases h';done)
  | (subst h;cases h';rfl)
  | rfl
def inD (x:D) (ys:List D):Bool:=ys.any λy=>eqD y x
noncomputable def inE (K:PySem.W.Frag) (H:Hp) (x:D) (ds:List D) (u:Value):Bool:=@decide (∃ d ∈ ds,∃ v,Rep K H d v /\ L2.RelV v u /\ eqD d x = true) (Classical.propDecidable _)
theorem Xrg (I:L2.Inv X pins σ H s) {x d:D} {ds:List D} {v:V} {u:Value} (hp:ds.all (Xaa 50) = true) (hd:d ∈ ds) (r:Rep X.K H d v) (ru:L2.RelV v u):inE X.K H x ds u = eqD d x:=by
 unfold inE;rw [List.all_eq_true] at hp
 cases e:eqD d x with
 | true=>exact @decide_eq_true _ (Classical.propDecidable _) ⟨d,hd,v,r,ru,e⟩
 | false =>
  refine @decide_eq_false _ (Classical.propDecidable _) λ⟨d',hd',v',r',ru',e'⟩=>?_
  rw [Xpa ru' ru] at r';rw [Xmm I 50 d' d v (hp d' hd') (hp d hd) r' r,e] at e';cases e'
theorem Xjj {K:PySem.W.Frag}:∀ {ds:List D} {ys:List V} {its:List Value},Reps K H ds ys -> L2.Vals ys its -> ∀ u ∈ its,∃ d ∈ ds,∃ v,Rep K H d v /\ L2.RelV v u
 | [],_,_,h,r,u,hu=>by
  simp only [Reps] at h;subst h;cases r;cases hu
 | d :: ds,_,_,h,r,u,hu=>by
  simp only [Reps] at h;obtain ⟨v,t,rfl,h1,h2⟩:=h
  cases r with
  | cons ru rt =>
   rcases List.mem_cons.mp hu with rfl | hu
   ·exact ⟨d,.head _,v,h1,ru⟩
   ·obtain ⟨d',m,v',a,b⟩:=Xjj h2 rt u hu
    exact ⟨d',.tail _ m,v',a,b⟩
theorem Xoo (I:L2.Inv X pins σ H s) {x:D} {all:List D} (hp:all.all (Xaa 50) = true):∀ {ds:List D} {ys:List V} {its:List Value},(∀ d ∈ ds,d ∈ all) -> Reps X.K H ds ys -> L2.Vals ys its -> its.any (inE X.K H x all) = inD x ds
 | [],_,_,_,h,r=>by
  simp only [Reps] at h;subst h;cases r;rfl
 | d :: ds,_,_,m,h,r=>by
  simp only [Reps] at h;obtain ⟨v,t,rfl,h1,h2⟩:=h
  cases r with
  | cons ru rt =>
   unfold inD;rw [List.any_cons,List.any_cons,Xrg I hp (m d (.head _)) h1 ru];exact congrArg (eqD d x || ·) (Xoo I hp (λd' hd'=>m d' (.tail _ hd')) h2 rt)
variable {e:Expr} {es:List Expr} {tr:RA} {p pos:Pos}
variable {k i:Nat} {x:Str} {sp:Sp3} {b1 b2:List Stmt} {t u:RS} {p2 p3 p4:Pos}
end
def compX (X:Cx) (scope:Scope) (N':List Str) (s3:Shared) (H3:Hp) (C:Addr) (cl:List (Str × Addr)) (fp:List Addr):Cx :=
  { X with N:=N',s₀:=s3,H₀:=H3,env:=compEnvC scope cl C X.env,outer:=X.stack,ex:=fp,fn:=λ_=>false,pn:=[],xe:=λ_ _=>False }
section
variable {X:Cx} {pins:List (Addr × Obj)} {σ:L2.St} {H:Hp} {s:Shared} {scope:Scope} {N':List Str} {C:Addr} {cl:List (Str × Addr)} {fp:List Addr}
structure ClOk (X:Cx) (scope:Scope) (cl:List (Str × Addr)):Prop where
 sub:∀ x c,cl.lookup x = some c -> X.env.cells.lookup x = some c
 has:∀ x,((relabel scope X.env).names.lookup x = some .cell \/ (relabel scope X.env).names.lookup x = some .free) -> ∃ c,cl.lookup x = some c
theorem Xty (I:L2.Inv X pins σ H s) (hc:X.calm = true) (hk:scope.kind = .function) (hcl:ClOk X scope cl) (hC:s.heap.objs.size <= C) (hf:∀ b ∈ fp,FpOk X pins H b) (hb:∀ b ∈ fp,b < s.heap.objs.size) :
(compX X scope N' s H C cl fp).Ok where
 mod:=I.ok.mod
 kind:=hk
 glob:=I.ok.glob
 blt:=I.ok.blt
 above:=hC
 inj:=λx y c e1 e2=>I.ok.inj x y c (hcl.sub x c e1) (hcl.sub y c e2)
 has:=λx h=>hcl.has x h
 cab:=λx c h=>by cases h
 hd:=λ_=>I.ok.hd hc
 frames:=I.ok.frames
 stk:=.inl rfl
 exf:=λb hb'=>⟨Nat.ne_of_lt (Nat.lt_of_lt_of_le (hb b hb') hC),λx c e=>(hf b hb').2.2.2.2.1 x c (hcl.sub x c e)⟩
 bs:=I.bs
 bsz:=Nat.le_trans I.ok.bsz I.sz
 noex:=λb o e hb'=>by
  rcases (hf b hb').2.2.2.1 with z | z
  ·exact I.ok.noex b o e z
  ·exact absurd (Nat.lt_of_lt_of_le (Heap.lt_size e) (Nat.le_trans I.ok.bsz z)) (Nat.lt_irrefl _)
 exfs:=λb hb' z=>by
  rcases List.mem_cons.mp (I.stkSub b z) with e | e
  ·exact (hf b hb').2.1 e
  ·exact (hf b hb').2.2.1 e
 funs:=I.stack
 frf:=I.stkFree
def CapOk (X:Cx) (scope:Scope) (nT:Nat) (N':List Str):Prop :=
 N'.length = nT + 1 + X.N.length /\ (∀ x,N'[nT]? = some x -> ¬ Vis (relabel scope X.env) x) /\
  ∀ (j:Nat) (x:Str),N'[nT + 1 + j]? = some x -> Vis (relabel scope X.env) x -> X.N[j]? = some x /\ X.env.kindOf x = some .cell /\ ((relabel scope X.env).names.lookup x = some .cell \/ (relabel scope X.env).names.lookup x = some .free)
theorem Xgp {nT:Nat} {D:Addr} {h1:Heap} {t':Nat} (I:L2.Inv X pins σ H s) (hc:X.calm = true) (hk:scope.kind = .function) (hcl:ClOk X scope cl) (hC:s.heap.objs.size <= C) (hf:∀ b ∈ fp,FpOk X pins H b) (hb:∀ b ∈ fp,b < s.heap.objs.size)
(cap:CapOk X scope nT N') (k:∀ b o,s.heap.get? b = some o -> h1.get? b = some o) (ns:h1.Ns C λ_=>none) :
L2.Inv (compX X scope N' s H C cl fp) [] (List.replicate nT none ++ some (.ref D) :: σ) H { s with heap:=h1,toks:=t' }:=by
 refine ⟨Xty I hc hk hcl hC hf hb,rfl,I.bare,Un.kept k,⟨_,ns,λi x v e1 e2 hv=>?_⟩,λx c e=>?_,I.hok.fresh hC,λx c e=>I.freeC x c (hcl.sub x c e),(λp hp=>nomatch hp),I.hok.kept k,?_⟩
 ·obtain ⟨c1,c2,c3⟩:=cap
  rcases Nat.lt_trichotomy i nT with z | z | z
  ·rw [List.getElem?_append_left (by simpa using z),List.getElem?_replicate,if_pos z] at e2
   cases e2
  ·subst z
   exact absurd hv (c2 x e1)
  ·obtain ⟨j,rfl⟩:∃ j,i = nT + 1 + j:=⟨i - nT - 1,by omega⟩
   rw [List.getElem?_append_right (by simp;omega),List.length_replicate,show nT + 1 + j - nT = j + 1 by omega,List.getElem?_cons_succ] at e2;obtain ⟨d1,d2,d3⟩:=c3 j x e1 hv;obtain ⟨m,_,hl⟩:=I.loc;obtain ⟨u,ru,lk⟩:=hl j x v d1 e2 (Or.inr (Or.inl d2));refine ⟨u,ru,.inr ⟨d3,?_⟩⟩;obtain ⟨c,ec⟩:=hcl.has x d3;refine ⟨c,ec,?_⟩
   rcases lk with ⟨q,_⟩ | ⟨_,c',ec',hcell⟩
   ·rw [d2] at q;cases q
   ·have e3:=hcl.sub x c ec
    rw [ec'] at e3;cases e3;obtain ⟨o,ho,hd⟩:=hcell;exact ⟨o,k _ _ ho,hd⟩
 ·obtain ⟨v,o,ho,hd⟩:=I.cell x c (hcl.sub x c e)
  exact ⟨v,o,k _ _ ho,hd⟩
 ·rw [List.length_append,List.length_replicate,List.length_cons,I.len]
  show nT + (X.N.length + 1) = N'.length
  rw [cap.1];omega
theorem Xcr {nT:Nat} {σ':L2.St} {H':Hp} {s':Shared} {h':Heap} {pins':List (Addr × Obj)} (I:L2.Inv X pins σ H s) (hC:s.heap.objs.size <= C) (hf:∀ b ∈ fp,FpOk X pins H b) (I':L2.Inv (compX X scope N' s H C cl fp) pins' σ' H' s') (hs:Heap.SameBut C s'.heap h') (t':Nat) :
L2.Inv X pins σ H' { s' with heap:=h',toks:=t' }:=by
 have hn:H' C = none:=I'.free;have k:∀ b u,b ≠ C -> s'.heap.get? b = some u -> h'.get? b = some u:=λb u hb e=>hs.extBut b u hb e
 have u2:Un (frs X.stack) fp H H' s.heap h':=by
  have u:=I'.base;have ne:∀ b o,s.heap.get? b = some o -> b ≠ C:=λb o e=>Nat.ne_of_lt (Nat.lt_of_lt_of_le (Heap.lt_size e) hC)
  refine ⟨λb o e n a c=>k b o (ne b o e) (u.keep b o e n a c),λb o e n a c=>?_,u.free,λb o e c=>?_,u.tups,u.frzs,u.tbls⟩
  ·obtain ⟨sl,z⟩:=u.slot b o e n a c
   exact ⟨sl,k b _ (ne b o e) z⟩
  ·obtain ⟨o',z⟩:=u.there b o e c
   exact ⟨o',k b _ (ne b o e) z⟩
 have hok:HOk X.prog X.w H' h':=λb o e=>(I'.hok b o e).stay (λc v hc q=>k c v (by
  rcases hc with z | z
  ·rw [z];exact Xaf e hn
  ·exact Xaf z hn) q) (λ_ q=>q) λ_ _ q=>q
 have r:=I.call (g':=s'.gens) (t':=t') (d':=s'.drawn) (ch:=fp) u2 hok I'.bare (λb hb=>by
  obtain ⟨f0,f1,f2,f3,f4,f5⟩:=hf b hb
  exact ⟨f3,f1,f4,f5⟩)
 have e:({ s' with heap:=h',toks:=t' }:Shared) = { s with heap:=h',gens:=s'.gens,drawn:=s'.drawn,toks:=t' }:=by
  have:=I'.os;cases s';cases s;simp only [compX] at this;subst this;rfl
 rw [e];exact r
end
section
variable {prog:Program} {w:World} {A:Around} {R:Result -> Shared -> Prop} {s:Shared}
theorem Xht {elt target iter:Expr} {ifs:List Expr} {scope:Scope} {pos:Pos} {it acc:Value} {env:Env} (I:Nat -> Shared -> Prop)
(turn:∀ n s,I n s -> wpAny (model prog w) A (pyNext it) (λr s1=>match r with
   | none=>R (.ok .next) s1
   | some v=>wpAny (model prog w) A (letOwnedTupleGo target it v) (λ_ s1'=>wpAny (model prog w) A (assign target env v) (λ_ s2 =>
wpAny (model prog w) A (forIn ifs true λc r=>if r = true then do let ok <- isTrue c env (eval c env);pure (ForInStep.yield ok) else pure (ForInStep.yield r)) (λok s3 =>
if ok = true then wpAny (model prog w) A (eval elt env) (λx s4 =>
wpAny (model prog w) A (call (.builtin "list.append") [acc,x]) (λ_ s5=>∃ m,m < n /\ I m s5) (notedBy (model prog w) A env λe s'=>R (.error e) s') s4) (notedBy (model prog w) A env λe s'=>R (.error e) s') s3
else ∃ m,m < n /\ I m s3) (notedBy (model prog w) A env λe s'=>R (.error e) s') s2) (notedBy (model prog w) A env λe s'=>R (.error e) s') s1') (notedBy (model prog w) A env λe s'=>R (.error e) s') s1) (notedBy (model prog w) A env λe s'=>R (.error e) s') s)
(n:Nat) (h:I n s):codeAny (model prog w) A (.compLoop (.ListComp elt [⟨target,iter,ifs,0⟩] scope pos) 0 it acc env) R s:=by
 refine codeAny_loop rfl I (λn s hI=>?_) n h
 show wpAny _ A ((compTurn (.ListComp elt [⟨target,iter,ifs,0⟩] scope pos) 0 it acc env).onRaise (λx=>do noteFrame x env;theTreesLotGoes x)) _ _ s
 refine wpAny_noted ?_;rw [compTurn_list];refine wpAny_bind (wpAny_standAt (wpAny_bind (wpAny_mono (turn n s hI) (λr s1 h1=>?_) λ_ _ h'=>h')))
 cases r with
 | none=>exact wpAny_pure h1
 | some v =>
  refine wpAny_bind (wpAny_mono h1 (λ_ s1' h1'=>?_) λ_ _ h'=>h');refine wpAny_bind (wpAny_mono h1' (λ_ s2 h2=>wpAny_bind (wpAny_mono h2 (λok s3 h3=>?_) λ_ _ h'=>h')) λ_ _ h'=>h')
  cases ok with
  | false=>exact wpAny_pure ⟨rfl,h3⟩
  | true =>
   exact wpAny_bind (wpAny_bind (wpAny_mono h3 (λx s4 h4=>wpAny_bind (wpAny_mono h4 (λ_ s5 h5=>wpAny_pure (wpAny_pure ⟨rfl,h5⟩)) λ_ _ h'=>h')) λ_ _ h'=>h'))
end
def PIf (X:Cx) (ifs:List Expr) (t:TT):Prop :=
 ∀ (pins:List (Addr × Obj)) (s:Shared) (σ:L2.St) (H:Hp) (Q:Bool -> Hp -> Prop),L2.Inv X pins σ H s -> t σ H Q -> wpAny (model X.prog X.w) X.A (forIn ifs true λc r=>if r = true then do let ok <- isTrue c X.env (eval c X.env);pure (ForInStep.yield ok) else pure (ForInStep.yield r)) (TP X pins σ Q) X.xe s
theorem Xsn {X:Cx}:PIf X [] (λ_ H Q=>Q true H):=λpins s σ H Q I h=>wpAny_tests_nil ⟨H,I,h⟩
theorem Xsm {X:Cx} {c:Expr} {t:TT} (h:PT X c t):PIf X [c] t:=λpins s σ H Q I hw=>wpAny_tests_one (h pins s σ H Q I hw)
def CompW (J:It) (D:Addr) (g:TG) (tc:TT) (tel:TE) (σ0:L2.St) (H0:Hp) (QD:Hp -> Prop):Prop :=
 ∃ W:Nat -> Nat -> L2.St -> Hp -> Prop,(∃ m,W 0 m σ0 H0) /\ ∀ i m σ H,W i m σ H ->
  (J.stop i H /\ QD H) \/ (J.go i H /\ ∃ N:L2.St -> Hp -> Prop,(∀ σ' H',N σ' H' -> ∃ m',m' < m /\ W (i + 1) m' σ' H') /\
   ∀ x H',J.yld i H x H' -> g x σ H' λσ2 H2=>tc σ2 H2 λb H3=>if b = true then tel σ2 H3 λy H4=>∃ zs,H4 D = some (.lst zs) /\ zs.length < sizeLine /\ N σ2 (upd H4 D (.lst (zs ++ [y]))) else N σ2 H3)
section
variable {X:Cx} {pins:List (Addr × Obj)} {σ:L2.St} {H:Hp} {s:Shared} {scope:Scope} {N':List Str} {cl:List (Str × Addr)} {fp:List Addr} {target iter elt:Expr} {ifs:List Expr} {pos:Pos} {g:TG} {tc:TT} {tel:TE} {nT:Nat} {J:It} {it D:Addr} {tn:Nat -> Heap -> Prop}
theorem Xfr {E:Value -> Shared -> Prop} (I:L2.Inv X pins σ H s) (hc:X.calm = true) (hk:scope.kind = .function) (hcell:∀ y ∈ scope.names,y.2 ≠ .cell) (hcl:ClOk X scope cl) (cap:CapOk X scope nT N')
(T:Turn X.prog X.w X.K target J fp it tn) (st:tn 0 s.heap) (hf:∀ b ∈ fp,FpOk X pins H b)
(hg:∀ s3 H3 C cl fp,PG (compX X scope N' s3 H3 C cl fp) target g) (hif:∀ s3 H3 C cl fp,PIf (compX X scope N' s3 H3 C cl fp) ifs tc) (hel:∀ s3 H3 C cl fp,PE (compX X scope N' s3 H3 C cl fp) elt tel)
{QD:Hp -> Prop} (hw:CompW J D g tc tel (List.replicate nT none ++ some (.ref D) :: σ) H QD) {RR:Addr -> Result -> Shared -> Prop}
(hRR:∀ C s' H' σ' pins',s.heap.objs.size <= C -> L2.Inv (compX X scope N' s H C cl fp) pins' σ' H' s' -> QD H' -> RR C (.ok .next) s') :
wpAny (model X.prog X.w) X.A (newFunctionEnv scope X.env.globals cl [] X.env.qual none .none (some X.env)) (λcenv s4 =>
codeAny (model X.prog X.w) X.A (.compStart (.ListComp elt [⟨target,iter,ifs,0⟩] scope pos) 0 (.ref it) (.ref D) { cenv with scope:=relabel scope X.env }) (RR cenv.locals) s4) E s:=by
 refine wpAny_newFunctionEnv hcell (by intro y hy;simp at hy) (λh1 ns sb=>?_) hk
 try dsimp only at ns sb ⊢
 have hC:s.heap.objs.size <= s.heap.objs.size:=Nat.le_refl _;have k:∀ b o,s.heap.get? b = some o -> h1.get? b = some o:=λb o e=>sb.extBut b o (Nat.ne_of_lt (Heap.lt_size e)) (Heap.get?_push_of_some _ e)
 have hb:∀ b ∈ fp,b < s.heap.objs.size:=λb hb=>by obtain ⟨o,e,_⟩:=T.obj _ _ st b hb;exact Heap.lt_size e
 have I0:L2.Inv (compX X scope N' s H s.heap.objs.size cl fp) [] (List.replicate nT none ++ some (.ref D) :: σ) H { s with heap:=h1,toks:=s.toks + ([]:List (Str × Value)).length } :=
  Xgp I hc hk hcl hC hf hb cap k ns
 have st1:tn 0 h1:=T.keep _ _ _ st λb _ o e=>k b o e
 obtain ⟨W,⟨m0,w0⟩,turn⟩:=hw;have stat:∀ {H':Hp},(∀ b ∈ fp,H' b = none) -> ∀ b ∈ fp,FpOk (compX X scope N' s H s.heap.objs.size cl fp) [] H' b:=λhn b hb' =>
  ⟨hn b hb',Nat.ne_of_lt (hb b hb'),I0.ok.exfs b hb',.inl hb',(I0.ok.exf b hb').2,λp hp=>nomatch hp⟩
 have loop:codeAny (model X.prog X.w) X.A (.compLoop (.ListComp elt [⟨target,iter,ifs,0⟩] scope pos) 0 (.ref it) (.ref D) (compEnvC scope cl s.heap.objs.size X.env)) (RR s.heap.objs.size) { s with heap:=h1,toks:=s.toks + ([]:List (Str × Value)).length }:=by
  refine Xht (λn s'=>∃ i σ' H',L2.Inv (compX X scope N' s H s.heap.objs.size cl fp) [] σ' H' s' /\ tn i s'.heap /\ (∀ b ∈ fp,H' b = none) /\ W i n σ' H') ?_ m0 ⟨0,_,H,I0,st1,λb hb'=>(hf b hb').1,w0⟩;rintro n s3 ⟨i,σ3,H3,I3,st3,fr3,w3⟩
  rcases turn i n σ3 H3 w3 with ⟨stop,qn⟩ | ⟨go,N,hN,step⟩
  ·refine thn (T.done (compX X scope N' s H s.heap.objs.size cl fp) rfl rfl rfl hc i [] s3 σ3 H3 _ I3 (stat fr3) st3 stop) λr s4 ⟨hr,I4⟩=>?_
   subst hr;exact hRR _ s4 H3 σ3 [] hC I4 qn
  ·refine thn (T.item (compX X scope N' s H s.heap.objs.size cl fp) rfl rfl rfl hc i [] s3 σ3 H3 _ I3 (stat fr3) st3 go) λr s4 ⟨u,hr,h4⟩=>?_
   subst hr;refine thn h4 λ_ s5 ⟨x,H5,I5,r5,y5,st5,fr5⟩=>?_
   have I5':=I5.pinned (stat fr5) (T.obj _ _ st5);refine wpAny_mono (hg s H s.heap.objs.size cl fp _ s5 σ3 H5 x u _ I5' r5 (step x H5 y5)) (λ_ s6 ⟨σ6,H6,I6,q6⟩=>?_) λ_ _ z=>z.elim
   have again:∀ {s7:Shared} {σ7:L2.St} {H7:Hp},L2.Inv (compX X scope N' s H s.heap.objs.size cl fp) ([] ++ Xdh fp s5.heap) σ7 H7 s7 -> N σ7 H7 -> ∃ m,m < n /\ ∃ i σ' H',L2.Inv (compX X scope N' s H s.heap.objs.size cl fp) [] σ' H' s7 /\ tn i s7.heap /\ (∀ b ∈ fp,H' b = none) /\ W i m σ' H':=λ{s7 σ7 H7} I7 n7=>by
    obtain ⟨m',hm,w7⟩:=hN σ7 H7 n7;refine ⟨m',hm,i + 1,σ7,H7,I7.unpinned,T.keep _ _ _ st5 λb hb' o e=>(I7.pin (b,o) (List.mem_append_right _ (List.mem_append_right _ (Xak hb' e)))).1,λb hb'=>?_,w7⟩;obtain ⟨o,e,d⟩:=T.obj _ _ st5 b hb';exact (I7.pin (b,o) (List.mem_append_right _ (List.mem_append_right _ (Xak hb' e)))).2.1
   refine wpAny_mono (hif s H s.heap.objs.size cl fp _ s6 σ6 H6 _ I6 q6) (λok s7 ⟨H7,I7,q7⟩=>?_) λ_ _ z=>z.elim
   cases ok with
   | false =>
    rw [if_neg Bool.false_ne_true] at q7 ⊢;exact again I7 q7
   | true =>
    rw [if_pos rfl] at q7 ⊢;refine wpAny_mono (hel s H s.heap.objs.size cl fp _ s7 σ6 H7 _ I7 q7) (λu8 s8 ⟨y,H8,I8,r8,zs,hz,hl,q8⟩=>?_) λ_ _ z=>z.elim
    refine wpAny_mono (Xeb (X:=compX X scope N' s H s.heap.objs.size cl fp) _ s8 σ6 H8 (.ref D) [y] (.ref D) [u8] (λv H'=>H' = upd H8 D (.lst (zs ++ [y]))) I8 rfl (.cons r8 .nil) ⟨D,zs,y,rfl,rfl,hz,hl,rfl⟩) (λ_ s9 ⟨v9,H9,I9,r9,e9⟩=>?_) λ_ _ z=>z.elim
    subst e9;exact again I9 q8
 exact codeAny_compStart_list loop (T.self _ 0 _ _ _ st1 loop)
end
def clOf (env:Env):List (Str × NameKind) -> List (Str × Addr) -> List (Str × Addr)
 | [],cs=>cs
 | (n,k) :: r,cs=>clOf env r (if (k == .free) = true then (match env.cells.lookup n with
  | some c=>(n,c) :: cs
  | none=>cs) else cs)
theorem Xll {scope:Scope} {env:Env} (h:∀ x ∈ scope.names,x.2 = .free -> ∃ c,env.cells.lookup x.1 = some c):closureFor scope env = pure (clOf env scope.names []):=by
 have key:∀ (names:List (Str × NameKind)) (cs:List (Str × Addr)),(∀ x ∈ names,x.2 = .free -> ∃ c,env.cells.lookup x.1 = some c) ->
   (forIn names cs (λ(x:Str × NameKind) (r:List (Str × Addr))=>match x with
    | (name,kind)=>if (kind == NameKind.free) = true then (do let c <- cellOf env name;pure (ForInStep.yield ((name,c) :: r))) else (pure (ForInStep.yield r))):Sem (List (Str × Addr))) = pure (clOf env names cs):=by
  intro names
  induction names with
  | nil=>intro cs _;rfl
  | cons p r ih =>
   intro cs hp;obtain ⟨n,k⟩:=p;rw [List.forIn_cons]
   cases hk:(k == NameKind.free) with
   | false =>
    simp only [hk,Bool.false_eq_true,if_false,clOf,pure_bind];exact ih cs λx hx=>hp x (.tail _ hx)
   | true =>
    obtain ⟨c,e⟩:=hp (n,k) (.head _) (by simpa using hk);simp only [hk,if_true,clOf,cellOf,e,pure_bind];exact ih _ λx hx=>hp x (.tail _ hx)
 simp only [closureFor];have:=key scope.names [] h;simp only at this ⊢;rw [this];rfl
theorem Xkp {env:Env}:∀ (names:List (Str × NameKind)) (cs:List (Str × Addr)),(∀ x c,cs.lookup x = some c -> env.cells.lookup x = some c) -> ∀ x c,(clOf env names cs).lookup x = some c -> env.cells.lookup x = some c
 | [],cs,h=>h
 | (n,k) :: r,cs,h=>by
  simp only [clOf];refine Xkp r _ ?_;intro x c e
  split at e
  ·split at e
   ·rename_i c' e'
    rw [List.lookup_cons] at e
    cases hx:x == n with
    | true =>
     rw [hx] at e;have : x = n:=by simpa using hx
     cases e;rw [this];exact e'
    | false =>
     rw [hx] at e;exact h x c e
   ·exact h x c e
  ·exact h x c e
theorem Xhu {env:Env}:∀ (names:List (Str × NameKind)) (cs:List (Str × Addr)) (x:Str),(∃ c,cs.lookup x = some c) -> ∃ c,(clOf env names cs).lookup x = some c
 | [],cs,x,h=>h
 | (n,k) :: r,cs,x,h=>by
  simp only [clOf];refine Xhu r _ x ?_
  split
  ·split
   ·rw [List.lookup_cons]
    cases hx:x == n with
    | true=>exact ⟨_,rfl⟩
    | false=>exact h
   ·exact h
  ·exact h
theorem Xkq {env:Env}:∀ (names:List (Str × NameKind)) (cs:List (Str × Addr)) (x:Str),(∃ c,env.cells.lookup x = some c) -> (x,NameKind.free) ∈ names -> ∃ c,(clOf env names cs).lookup x = some c
 | [],cs,x,_,h=>nomatch h
 | (n,k) :: r,cs,x,he,h=>by
  simp only [clOf]
  rcases List.mem_cons.mp h with e | h
  ·cases e
   obtain ⟨c,ec⟩:=he;refine Xhu r _ _ ?_;rw [if_pos (by rfl),ec];exact ⟨c,by simp⟩
  ·exact Xkq r _ x he h
theorem Xfj {α:Type} {names:List (Str × α)} {x:Str} {k:α} (h:names.lookup x = some k):(x,k) ∈ names:=by
 induction names with
 | nil=>cases h
 | cons p r ih =>
  obtain ⟨n,k'⟩:=p;rw [List.lookup_cons] at h
  cases hx:x == n with
  | true =>
   rw [hx] at h;have : x = n:=by simpa using hx
   cases h;rw [this];exact .head _
  | false =>
   rw [hx] at h;exact .tail _ (ih h)
theorem cl_ok {X:Cx} {scope:Scope} (ok:X.Ok) (hcell:∀ y ∈ scope.names,y.2 ≠ .cell) (hfree:∀ x ∈ scope.names,x.2 = .free -> X.env.kindOf x.1 = some .cell) :
closureFor scope X.env = pure (clOf X.env scope.names []) /\ ClOk X scope (clOf X.env scope.names []):=by
 have hh:∀ x ∈ scope.names,x.2 = .free -> ∃ c,X.env.cells.lookup x.1 = some c:=λx hx e=>ok.has x.1 (.inl (hfree x hx e))
 refine ⟨Xll hh,Xkp _ _ (λx c e=>by cases e),λx h=>?_⟩;have hm:(x,NameKind.free) ∈ scope.names:=by
  rcases h with h | h
  ·obtain ⟨⟨n,k⟩,hn,e⟩:=List.mem_map.mp (Xfj h)
   simp only at e
   split at e
   ·rename_i q
    cases e;have : k = .free:=by simp at q;exact q.1.1
    rw [<- this];exact hn
   ·cases e
    exact absurd rfl (hcell _ hn)
  ·obtain ⟨⟨n,k⟩,hn,e⟩:=List.mem_map.mp (Xfj h)
   simp only at e
   split at e
   ·cases e
   ·cases e;exact hn
 exact Xkq _ _ x (hh (x,.free) hm rfl) hm
structure CompOk (X:Cx) (scope:Scope) (nT:Nat) (N':List Str):Prop where
 calm:X.calm = true
 kind:scope.kind = .function
 cell:∀ y ∈ scope.names,y.2 ≠ .cell
 free:∀ x ∈ scope.names,x.2 = .free -> X.env.kindOf x.1 = some .cell
 loc:∀ x ∈ scope.names,x.2 = .local -> scope.names.lookup x.1 = some .local
 cap:CapOk X scope nT N'
section
variable {X:Cx} {scope:Scope} {N':List Str} {target iter elt:Expr} {ifs:List Expr} {pos:Pos} {g:TG} {tc:TT} {tel:TE} {nT:Nat} {wi:TI}
def tComp (nT:Nat) (wi:TI) (g:TG) (tc:TT) (tel:TE):TE:=λσ H Q=>wi σ H λJ H1=>∀ D,H1 D = none -> CompW J D g tc tel (List.replicate nT none ++ some (.ref D) :: σ) (upd H1 D (.lst [])) (λH'=>Q (.ref D) H')
theorem Xmx (ok:CompOk X scope nT N') (hi:PI X target iter wi) (hg:∀ s3 H3 C cl fp,PG (compX X scope N' s3 H3 C cl fp) target g) (hif:∀ s3 H3 C cl fp,PIf (compX X scope N' s3 H3 C cl fp) ifs tc) (hel:∀ s3 H3 C cl fp,PE (compX X scope N' s3 H3 C cl fp) elt tel)
(hs:∀ x,foldedSetIterable iter X.env x = pure x):PE X (.ListComp elt [⟨target,iter,ifs,0⟩] scope pos) (tComp nT wi g tc tel):=by
 intro pins s σ H Q I h;obtain ⟨hclos,hcl⟩:=cl_ok I.ok ok.cell ok.free;rw [eval_ListComp];refine wpAny_comprehension_free (use:=none) rfl hs hclos ok.kind ok.loc (thn (hi pins s σ H _ I h) λv s1 h1=>thn h1 λitv s2 h2=>?_);obtain ⟨it,fp,tn,J,H2,e,I2,T,st2,f2,W⟩:=h2;subst e;refine wpAny_newObj_type ?_;have I3:=I2.lnew (its:=[]) (t':=s2.toks) .nil (Nat.zero_le _);have kp:∀ b o,s2.heap.get? b = some o -> (s2.heap.push { cls:=.type "list", dict:=none,data:=.seq ([]:List Value).toArray }).get? b = some o:=λb o e=>Heap.get?_push_of_some _ e
 have f3:∀ b ∈ fp,FpOk X pins (upd H2 s2.heap.objs.size (.lst [])) b:=λb hb=>by
  obtain ⟨o,e,_⟩:=T.obj _ _ st2 b hb;exact ⟨by rw [Xad (Nat.ne_of_lt (Heap.lt_size e))];exact (f2 b hb).1,(f2 b hb).2⟩
 refine Xfr (iter:=iter) (pos:=pos) (RR:=λC=>compPost (model X.prog X.w) X.A X.xe none (EP X pins σ Q) (.ref s2.heap.objs.size) C) I3 ok.calm ok.kind ok.cell hcl ok.cap T (T.keep _ _ _ st2 λb _ o e=>kp b o e) f3 hg hif hel (W _ (I2.hok.fresh (Nat.le_refl _))) ?_;intro C s' H' σ' pins' hC I' q;obtain ⟨m,ns,_⟩:=I'.loc;refine ⟨m,ns,λh' hsb=>⟨.ref s2.heap.objs.size,H',?_,rfl,q⟩⟩;exact Xcr (nT:=nT) I3 hC f3 I' hsb s'.toks
theorem Xsj {y:Str} {py spos:Pos} {gy:TG} (ok:CompOk X scope nT N') (hi:PI X target iter wi) (hg:∀ s3 H3 C cl fp,PG (compX X scope N' s3 H3 C cl fp) target g) (hif:∀ s3 H3 C cl fp,PIf (compX X scope N' s3 H3 C cl fp) ifs tc) (hel:∀ s3 H3 C cl fp,PE (compX X scope N' s3 H3 C cl fp) elt tel)
 (hs:∀ x,foldedSetIterable iter X.env x = pure x) (hy:PG X (.Name y py) gy) (hsw:swapsWith (.ListComp elt [⟨target,iter,ifs,0⟩] scope pos) (some (.Name y py)) spos.line X.env = pure true) :
 PS X (.Assign [.Name y py] (.ListComp elt [⟨target,iter,ifs,0⟩] scope pos) spos) (λD σ H=>tComp nT wi g tc tel σ H λv H'=>gy v σ H' D.nx):=by
  intro pins s σ H D I h;obtain ⟨hclos,hcl⟩:=cl_ok I.ok ok.cell ok.free;rw [exec_Assign_Name_used _ _ _ _ hsw];refine wpAny_bind (wpAny_standAt (wpAny_bind ?_))
  show wpAny _ X.A (do let _ <- comprehension (.ListComp elt [⟨target,iter,ifs,0⟩] scope pos) scope X.env _ (newList []) false (eval iter X.env) (some (assign (.Name y py) X.env))) _ _ s
  refine wpAny_bind (wpAny_mono (wpAny_comprehension_free (use:=some (assign (.Name y py) X.env)) (Q:=λ_ s'=>SP X pins D .next s') rfl hs hclos ok.kind ok.loc
    (thn (hi pins s σ H _ I h) λv s1 h1=>thn h1 λitv s2 h2=>?_)) (λ_ s' hq=>wpAny_pure (wpAny_pure hq)) λ_ _ e=>e)
  obtain ⟨it,fp,tn,J,H2,e,I2,T,st2,f2,W⟩:=h2;subst e;refine wpAny_newObj_type ?_;have I3:=I2.lnew (its:=[]) (t':=s2.toks) .nil (Nat.zero_le _);have kp:∀ b o,s2.heap.get? b = some o -> (s2.heap.push { cls:=.type "list", dict:=none,data:=.seq ([]:List Value).toArray }).get? b = some o:=λb o e=>Heap.get?_push_of_some _ e
  have f3:∀ b ∈ fp,FpOk X pins (upd H2 s2.heap.objs.size (.lst [])) b:=λb hb=>by
    obtain ⟨o,e,_⟩:=T.obj _ _ st2 b hb;exact ⟨by rw [Xad (Nat.ne_of_lt (Heap.lt_size e))];exact (f2 b hb).1,(f2 b hb).2⟩
  refine Xfr (iter:=iter) (pos:=pos) (RR:=λC=>compPost (model X.prog X.w) X.A X.xe (some (assign (.Name y py) X.env)) (λ_ s'=>SP X pins D .next s') (.ref s2.heap.objs.size) C) I3 ok.calm ok.kind ok.cell hcl ok.cap T (T.keep _ _ _ st2 λb _ o e=>kp b o e) f3 hg hif hel (W _ (I2.hok.fresh (Nat.le_refl _))) ?_;intro C s' H' σ' pins' hC I' q;obtain ⟨m,⟨oC,es,ep,hoC,hdC,rC⟩,_⟩:=I'.loc;have hoC:s'.heap.get? C = some oC:=hoC;have I4:L2.Inv X pins σ H' s':=by
    have:=Xcr (nT:=nT) I3 hC f3 I' (Heap.SameBut.refl _ _) s'.toks;exact this
  have hCn:H' C = none:=I'.free;have hCl:C ≠ X.env.locals:=λz=>by
    have:=I3.lt;rw [<- z] at this;exact absurd (Nat.lt_of_lt_of_le this hC) (Nat.lt_irrefl _)
  have hCf:FpOk X pins H' C:=by
    refine ⟨hCn,hCl,I3.nofs hC,.inr (Nat.le_trans I3.sz hC),λx c e z=>?_,λp hp z=>?_⟩
    · obtain ⟨v,q⟩:=I3.cell x c e
      exact absurd (Nat.lt_of_lt_of_le q.lt (by rw [z];exact hC)) (Nat.lt_irrefl _)
    · exact absurd (Nat.lt_of_lt_of_le (Heap.lt_size (I3.pin p hp).1) (by rw [z];exact hC)) (Nat.lt_irrefl _)
  have I5:=I4.pinned (fp:=[C]) (λb hb=>by have : b = C:=(by simpa using hb);rw [this];exact hCf) (λb hb=>by
    have : b = C:=by simpa using hb
    rw [this];exact ⟨oC,hoC,λv z=>by rw [hdC] at z;cases z⟩)
  refine thn (hy _ s' σ H' (.ref s2.heap.objs.size) _ _ I5 rfl q) λ_ s6 ⟨σ6,H6,I6,q6⟩=>?_
  have pc:=I6.pin (C,oC) (List.mem_append_right _ (List.mem_append_right _ (Xak (fp:=[C]) (by simp) hoC)));refine ⟨m,⟨oC,es,ep,pc.1,hdC,rC⟩,λh' hsb=>⟨σ6,H6,?_,q6⟩⟩;have I7:=I6.unpinned
  exact Xez (t':=s6.toks) I7 (ch:=[C]) (λb hb=>by
    have : b = C:=by simpa using hb
    rw [this];exact ⟨pc.2.1,hCf.2⟩) λb o hb e=>hsb.extBut b o (by simpa using hb) e
end
def NoOwn (pre:List Sl):Prop:=∀ l ∈ pre,¬ l.mine
section
variable {K:PySem.W.Frag} {H0:Hp} {σ:L2.St} {δ:List Sl} {G H:Hp}
theorem Hs.un (h:Hs K H0 σ δ G H):Hs K H0 (none :: σ) (.un :: δ) G H:=by
 have a0:∀ p,¬ At (none :: σ) (.un :: δ) 0 p:=λp a=>(at_zero.mp a).1
 refine ⟨by simp [h.len],h.base,λb=>?_,λi d e=>?_,λi d e=>?_,λi p d e=>?_,λi j p a1 a2=>?_⟩
 ·rcases h.ex b with ⟨z1,z2⟩ | ⟨z1,j,z2⟩
  ·refine .inl ⟨z1,λi a=>?_⟩
   cases i with
   | zero=>exact a0 b a
   | succ i=>exact z2 i (at_cons.mp a)
  ·exact .inr ⟨z1,j + 1,at_cons.mpr z2⟩
 ·cases i with
  | zero=>cases e
  | succ i=>exact h.fr i d e
 ·cases i with
  | zero=>cases e
  | succ i=>exact h.ow i d e
 ·cases i with
  | zero=>cases e
  | succ i=>exact h.lk i p d e
 ·cases i with
  | zero=>exact absurd a1 (a0 p)
  | succ i =>
   cases j with
   | zero=>exact absurd a2 (a0 p)
   | succ j=>rw [h.ne i j p (at_cons.mp a1) (at_cons.mp a2)]
theorem Hs.uns (h:Hs K H0 σ δ G H):∀ n:Nat,Hs K H0 (List.replicate n none ++ σ) (List.replicate n .un ++ δ) G H
 | 0=>h
 | n + 1=>(Hs.uns h n).un
theorem Hs.drops:∀ {ps:L2.St} {pre:List Sl},ps.length = pre.length -> NoOwn pre -> Hs K H0 (ps ++ σ) (pre ++ δ) G H -> Hs K H0 σ δ G H
 | [],[],_,_,h=>h
 | p :: ps,l :: pre,e,no,h=>Hs.drops (by simpa using e) (λx hx=>no x (.tail _ hx)) (Hs.drop h (no l (.head _)))
theorem Xdr (n:Nat):NoOwn (List.replicate n .un):=λl hl=>by rw [List.eq_of_mem_replicate hl];exact λz=>z
theorem NoOwn.set {pre:List Sl} (h:NoOwn pre) (i:Nat) (d:D):NoOwn (pre.set i (.fr d)):=λl hl=>by
 rcases List.mem_or_eq_of_mem_set hl with z | z
 ·exact h l z
 ·subst z;exact λz=>z
end
abbrev RGp:=D -> List Sl -> (List Sl -> Prop) -> Prop
abbrev RGsp:=List D -> List Sl -> (List Sl -> Prop) -> Prop
def Xbd (K:PySem.W.Frag) (H0:Hp) (nT:Nat) (g:RGp):TG:=λv σ' H Q=>∃ (ps σ:L2.St) (pre δ:List Sl) (G:Hp) (d:D) (Qd:List Sl -> Prop),σ' = ps ++ σ /\ ps.length = nT /\ pre.length = nT /\ NoOwn pre /\ Hs K H0 σ' (pre ++ δ) G H /\ Rep K G d v /\ g d pre Qd /\
 ∀ ps' pre',ps'.length = nT -> pre'.length = nT -> NoOwn pre' -> Hs K H0 (ps' ++ σ) (pre' ++ δ) G H -> Qd pre' -> Q (ps' ++ σ) H
def Xtc (K:PySem.W.Frag) (H0:Hp) (nT:Nat) (g:RGsp):TGs:=λvs σ' H Q=>∃ (ps σ:L2.St) (pre δ:List Sl) (G:Hp) (ds:List D) (Qd:List Sl -> Prop),σ' = ps ++ σ /\ ps.length = nT /\ pre.length = nT /\ NoOwn pre /\ Hs K H0 σ' (pre ++ δ) G H /\ Reps K G ds vs /\ g ds pre Qd /\
 ∀ ps' pre',ps'.length = nT -> pre'.length = nT -> NoOwn pre' -> Hs K H0 (ps' ++ σ) (pre' ++ δ) G H -> Qd pre' -> Q (ps' ++ σ) H
def PGp (X:Cx) (H0:Hp) (nT:Nat) (tg:Expr) (g:RGp):Prop:=PG X tg (Xbd X.K H0 nT g)
def PGsp (X:Cx) (H0:Hp) (nT:Nat) (tg:List Expr) (g:RGsp):Prop:=PGs X tg (Xtc X.K H0 nT g)
section
variable {X:Cx} {H0:Hp} {nT:Nat} {x:Str} {pos:Pos} {e:Expr} {es:List Expr}
def gpSet (i:Nat) (d:D) (pre:List Sl) (Q:List Sl -> Prop):Prop:=Q (pre.set i (.fr d))
theorem gp_name (i:Nat) (hlt:i < nT) (hN:X.N.Nodup) (hi:X.N[i]? = some x:=by rfl) (hx:Loc X.env.scope x:=by first | exact Or.inl rfl | exact Or.inr rfl) (hf:X.fn x = true \/ X.env.scope.names.lookup x = some .local:=by first | exact .inl rfl | exact .inr rfl | assumption):PGp X H0 nT (.Name x pos) (gpSet i) :=
 PG.weak (Xge hN hi hx hf) λv σ' H Q ⟨ps,σ,pre,δ,G,d,Qd,es,l1,l2,no,hs,r,h,k⟩=>by
  subst es;have hp:i < pre.length:=by omega
  have hq:i < ps.length:=by omega
  have h1:=hs.put0 (i:=i) (l:=pre[i]) (d:=d) (v:=v) (by rw [List.getElem?_append_left hp,List.getElem?_eq_getElem hp]) (no _ (List.getElem_mem hp)) r;rw [List.set_append_left _ _ hp,List.set_append_left _ _ hq] at h1;have h2:=k (ps.set i (some v)) (pre.set i (.fr d)) (by rw [List.length_set];exact l1) (by rw [List.length_set];exact l2) (no.set i d) h1 h;rw [<- List.set_append_left _ _ hq] at h2;exact h2
def gpNil (ds:List D) (pre:List Sl) (Q:List Sl -> Prop):Prop:=match ds with
 | []=>Q pre
 | _=>False
def Xbu (g:RGp) (r:RGsp) (ds:List D) (pre:List Sl) (Q:List Sl -> Prop):Prop:=match ds with
 | d :: ds=>g d pre λp1=>r ds p1 Q
 | []=>False
theorem gsp_nil:PGsp X H0 nT [] gpNil:=PGs.weak Xmv λvs σ' H Q ⟨ps,σ,pre,δ,G,ds,Qd,es,l1,l2,no,hs,r,h,k⟩=>by
 subst es
 cases ds with
 | nil=>simp only [Reps] at r;exact ⟨r,k ps pre l1 l2 no hs h⟩
 | cons d ds=>exact h.elim
variable {g:RGp} {gs:RGsp}
theorem gsp_cons (h1:PGp X H0 nT e g) (h2:PGsp X H0 nT es gs) (hs:(assignEach (e :: es) X.env).map (·.2) = assign e X.env :: (assignEach es X.env).map (·.2):=by rfl):PGsp X H0 nT (e :: es) (Xbu g gs) :=
 PGs.weak (Xjr h1 h2 hs) λvs σ' H Q ⟨ps,σ,pre,δ,G,ds,Qd,es,l1,l2,no,hs,r,h,k⟩=>by
  cases ds with
  | nil=>exact h.elim
  | cons d ds =>
   simp only [Reps] at r;obtain ⟨v,vr,rfl,r1,r2⟩:=r;exact ⟨v,vr,rfl,ps,σ,pre,δ,G,d,_,es,l1,l2,no,hs,r1,h,λps1 pre1 a1 a2 a3 h1 q1=>⟨ps1,σ,pre1,δ,G,ds,Qd,rfl,a1,a2,a3,h1,r2,q1,k⟩⟩
def gpTup (n:Nat) (gs:RGsp) (d:D) (pre:List Sl) (Q:List Sl -> Prop):Prop:=match d with
 | .tup ds=>ds.length = n /\ gs ds pre Q
 | _=>False
theorem gp_tup {n k:Nat} (hc:X.calm = true) (h:PGsp X H0 nT es gs) (hn:(assignEach es X.env).length = n:=by rfl) (hst:(assignEach es X.env).findIdx? (·.1) = none:=by rfl):PGp X H0 nT (.Tuple es k pos) (gpTup n gs) :=
 PG.weak (Xrb (n:=n) hc h hn hst) λv σ' H Q ⟨ps,σ,pre,δ,G,d,Qd,es,l1,l2,no,hs,r,h,k⟩=>by
  cases d with
  | tup ds =>
   simp only [Rep] at r;obtain ⟨a,vs,rfl,h2,h3⟩:=r;exact ⟨a,vs,rfl,SqT.of (hs.sub _ _ h2),by rw [<- h3.length];exact h.1,ps,σ,pre,δ,G,ds,Qd,es,l1,l2,no,hs,h3,h.2,k⟩
  | _=>exact h.elim
def PIf2 (X:Cx) (H0:Hp) (ifs:List Expr) (t:RT):Prop:=PIf X ifs (liftT X.K H0 t)
def rTrue (_:List Sl) (Q:Bool -> Prop):Prop:=Q true
theorem if_nil:PIf2 X H0 [] rTrue:=λpins s σ H Q I h=>Xsn pins s σ H Q I (by
 obtain ⟨δ,G,Qd,hs,ht,k⟩:=h
 exact k true H G (Nx.refl hs) ht)
theorem if_one {t:RT} (h:PT2 X H0 e t):PIf2 X H0 [e] t:=Xsm h
def compD (g:RGp) (tc:RT) (tel:RE) (δ:List Sl):List D -> List Sl -> List D -> (List D -> Prop) -> Prop
 | [],_,acc,Q=>Q acc
 | x :: xs,pre,acc,Q=>g x pre λpre'=>tc (pre' ++ .ow (.lst acc) :: δ) λb=>Two b (tel (pre' ++ .ow (.lst acc) :: δ) λy=>acc.length < sizeLine /\ compD g tc tel δ xs pre' (acc ++ [y]) Q) (compD g tc tel δ xs pre' acc Q)
def rComp (nT:Nat) (te:RE) (g:RGp) (tc:RT) (tel:RE) (δ:List Sl) (Q:D -> Prop):Prop:=te δ λd=>match d with
 | .lst xs=>compD g tc tel δ xs (List.replicate nT .un) [] (λacc=>Q (.lst acc))
 | _=>False
variable {target iter elt:Expr} {ifs:List Expr} {scope:Scope} {N':List Str} {te tel:RE} {tc:RT}
theorem Xfz {α:Type} {pre δ:List α} {n:Nat} (h:pre.length = n) (a b:α):(pre ++ a :: δ).set n b = pre ++ b :: δ:=by
 subst h
 induction pre with
 | nil=>rfl
 | cons p pre ih=>simp [ih]
theorem Xbl {α:Type} {pre δ:List α} {n:Nat} (h:pre.length = n) (a:α):(pre ++ a :: δ)[n]? = some a:=by
 subst h;simp
theorem Xhs {σ:L2.St} {δ:List Sl} {G1 H1:Hp} {a D:Addr} {ws:List V} {xs:List M.D} {Qd:List M.D -> Prop} {QD:Hp -> Prop} (hs:Hs X.K H0 σ δ G1 H1) (h2:SqL X.K G1 a ws) (h3:Reps X.K G1 xs ws) (hD:H1 D = none)
(q:compD g tc tel δ xs (List.replicate nT .un) [] Qd) (k:∀ H' G' acc,Hs X.K H0 (some (.ref D) :: σ) (.ow (.lst acc) :: δ) G' H' -> Same G1 G' -> Same H1 H' -> Qd acc -> QD H') :
CompW (Itl X.K a) D (Xbd X.K H0 nT g) (liftT X.K H0 tc) (liftE X.K H0 tel) (List.replicate nT none ++ some (.ref D) :: σ) (upd H1 D (.lst [])) QD:=by
 have smD:∀ {H':Hp} {o:HO},Same H1 H' -> Same H1 (upd H' D o):=λ{H' o} s b u e=>by rw [Xad (Xaf e hD)];exact s b u e
 refine ⟨λi m σ' H'=>m = ws.length - i /\ i <= ws.length /\ ∃ ps pre acc G',σ' = ps ++ some (.ref D) :: σ /\ ps.length = nT /\ pre.length = nT /\ NoOwn pre /\ Hs X.K H0 σ' (pre ++ .ow (.lst acc) :: δ) G' H' /\ Same G1 G' /\ Same H1 H' /\ compD g tc tel δ (xs.drop i) pre acc Qd,
  ⟨ws.length,by simp,Nat.zero_le _,List.replicate nT none,List.replicate nT .un,[],G1,rfl,by simp,by simp,Xdr nT,(hs.fresh (d:=.lst []) (o:=.lst []) hD ⟨[],Xac,Reps.nil⟩).uns nT,Same.refl _,smD (Same.refl _),q⟩,?_⟩
 rintro i m σ' H' ⟨rfl,hi,ps,pre,acc,G',rfl,l1,l2,no,h',sg,sh,q'⟩;have sq:SqL X.K H' a ws:=h'.sub.seq (sg.seq h2)
 by_cases hlt:i < ws.length
 ·have hx:ws[i]? = some ws[i]:=by simp [hlt]
  obtain ⟨d,ed,rd⟩:=h3.getV hx;have hxs:i < xs.length:=(List.getElem?_eq_some_iff.mp ed).1;have edx:xs.drop i = d :: xs.drop (i + 1):=by
   rw [List.drop_eq_getElem_cons hxs];rw [List.getElem?_eq_getElem hxs] at ed;cases ed;rfl
  rw [edx] at q';refine .inr ⟨⟨ws,ws[i],sq,hx⟩,λσ2 H2=>∃ ps pre acc G',σ2 = ps ++ some (.ref D) :: σ /\ ps.length = nT /\ pre.length = nT /\ NoOwn pre /\ Hs X.K H0 σ2 (pre ++ .ow (.lst acc) :: δ) G' H2 /\ Same G1 G' /\ Same H1 H2 /\ compD g tc tel δ (xs.drop (i + 1)) pre acc Qd,λσ2 H2 z=>⟨ws.length - (i + 1),by omega,rfl,hlt,z⟩,λx H2 y=>?_⟩;obtain ⟨e,y⟩:=y;subst e;have ey:ws[i] = x:=by
   have:=y ws sq;rw [hx] at this;exact Option.some.inj this
  refine ⟨ps,_,pre,.ow (.lst acc) :: δ,G',d,_,rfl,l1,l2,no,h',by rw [<- ey];exact Rep.mono sg _ _ rd,q',λps1 pre1 a1 a2 a3 h1 q1=>?_⟩;refine ⟨_,G',_,h1,q1,λb H3 G3 n3 q3=>?_⟩
  cases b with
  | false =>
   rw [if_neg Bool.false_ne_true];exact ⟨ps1,pre1,acc,G3,rfl,a1,a2,a3,n3.hs,sg.trans n3.g,sh.trans n3.h,q3.no rfl⟩
  | true =>
   rw [if_pos rfl];refine ⟨_,G3,_,n3.hs,q3.yes rfl,λy H4 G4 dy n4 r4 q4=>?_⟩;have e0:(pre1 ++ Sl.ow (.lst acc) :: δ)[nT]? = some (.ow (.lst acc)):=Xbl a2 _;have e1:(ps1 ++ some (V.ref D) :: σ)[nT]? = some (some (.ref D)):=Xbl a1 _;obtain ⟨p,e2,zs,g1,g2⟩:=n4.hs.ow nT _ e0;rw [e1] at e2;cases e2;refine ⟨zs,g1,by rw [<- g2.length];exact q4.1,ps1,pre1,acc ++ [dy],G4,rfl,a1,a2,a3,?_,sg.trans (n3.g.trans n4.g),smD (sh.trans (n3.h.trans n4.h)),q4.2⟩;have hw:=n4.hs.write (d':=.lst (acc ++ [dy])) e0 e1 ⟨_,Xac,Reps.append g2 (Reps.cons r4 Reps.nil)⟩;rw [Xfz a2] at hw;exact hw
 ·have e:i = ws.length:=by omega
  subst e;refine .inl ⟨⟨ws,sq,Nat.le_refl _⟩,?_⟩;rw [List.drop_of_length_le (by rw [h3.length];exact Nat.le_refl _)] at q';exact k H' G' acc (Hs.drops (by rw [l1,l2]) no h') sg sh q'
theorem n_comp (ok:CompOk X scope nT N') (hi:PE2 X H0 iter te) (hg:∀ s3 H3 C cl fp,PGp (compX X scope N' s3 H3 C cl fp) H0 nT target g) (hif:∀ s3 H3 C cl fp,PIf2 (compX X scope N' s3 H3 C cl fp) H0 ifs tc) (hel:∀ s3 H3 C cl fp,PE2 (compX X scope N' s3 H3 C cl fp) H0 elt tel)
(hs:∀ x,foldedSetIterable iter X.env x = pure x:=by intro _;rfl):PN2 X H0 (.ListComp elt [⟨target,iter,ifs,0⟩] scope pos) (rComp nT te g tc tel) :=
 PE.weak (Xmx (g:=Xbd X.K H0 nT g) (tc:=liftT X.K H0 tc) (tel:=liftE X.K H0 tel) ok (Xcx hi) hg hif hel hs) λσ H Q ⟨δ,G,Qd,hs,ht,k⟩=>⟨δ,G,_,hs,ht,λv H1 G1 d n1 r1 q1=>by
  cases d with
  | lst xs =>
   simp only [Rep] at r1;obtain ⟨a,ws,rfl,h2,h3⟩:=r1;refine ⟨a,rfl,⟨ws,n1.hs.sub.seq h2⟩,λD hD=>Xhs n1.hs h2 h3 hD q1 λH' G' acc hh sg sh qq=>k _ H' G' _ hh (n1.g.trans sg) (n1.h.trans sh) qq⟩
  | _=>exact q1.elim⟩
end
def relO (scope osc:Scope):List (Str × NameKind):=scope.names.map λ(n,k)=>if (k == .free && osc.kind == .function && osc.names.lookup n == some .cell) then (n,.cell) else (n,k)
def isVis (k:Option NameKind):Bool:=match k with
 | some .local=>true
 | some .cell=>true
 | some .free=>true
 | _=>false
def isCF (k:Option NameKind):Bool:=match k with
 | some .cell=>true
 | some .free=>true
 | _=>false
def Xfn (k:Option NameKind):Bool:=match k with
 | some .cell=>true
 | _=>false
def Xeh (k:Option NameKind):Bool:=match k with
 | some .local=>true
 | _=>false
def compB (scope osc:Scope) (nT:Nat) (N' N:List Str):Bool :=
 (scope.kind == .function) && (scope.names.all λy=>!Xfn (some y.2)) && (scope.names.all λy=>!(isCF (some y.2)) || Xfn (osc.names.lookup y.1)) && (scope.names.all λy=>!(Xeh (some y.2)) || Xeh (scope.names.lookup y.1)) &&
 (N'.length == nT + 1 + N.length) && (match N'[nT]? with
  | some x=>!isVis ((relO scope osc).lookup x)
  | none=>true) &&
 (List.range N.length).all λj=>match N'[nT + 1 + j]? with
  | some x=>!isVis ((relO scope osc).lookup x) || ((match N[j]? with
   | some y=>decide (y = x)
   | none=>false) && Xfn (osc.names.lookup x) && isCF ((relO scope osc).lookup x))
  | none=>true
theorem Xho {k:Option NameKind} (h:Xfn k = true):k = some .cell:=by
 unfold Xfn at h
 split at h
 ·rfl
 ·cases h
theorem Xtn {k:Option NameKind} (h:isCF k = true):k = some .cell \/ k = some .free:=by
 unfold isCF at h
 split at h
 ·exact .inl rfl
 ·exact .inr rfl
 ·cases h
theorem Xld {k:Option NameKind} (h:Xeh k = true):k = some .local:=by
 unfold Xeh at h
 split at h
 ·rfl
 ·cases h
theorem Xhn {sc:Scope} {x:Str} (h:isVis (sc.names.lookup x) = false):¬ Vis sc x:=λz=>by
 rcases z with z | z | z <;> rw [z] at h <;> cases h
theorem Xbm {X:Cx} {scope:Scope} {nT:Nat} {N':List Str} (osc:Scope) {N:List Str} (hN:X.N = N) (he:X.env.scope = osc) (hc:X.calm = true) (hb:compB scope osc nT N' N = true):CompOk X scope nT N':=by
 subst hN he;simp only [compB,Bool.and_eq_true] at hb;obtain ⟨⟨⟨⟨⟨⟨b1,b2⟩,b3⟩,b4⟩,b5⟩,b6⟩,b7⟩:=hb;rw [List.all_eq_true] at b2 b3 b4 b7;have er:(relabel scope X.env).names = relO scope X.env.scope:=rfl;refine ⟨hc,by simpa using b1,λy hy e=>?_,λx hx e=>?_,λx hx e=>?_,by simpa using b5,λx e=>?_,λj x e hv=>?_⟩
 ·have:=b2 y hy
  rw [e] at this;cases this
 ·have:=b3 x hx
  rw [e] at this;have this:Xfn (X.env.scope.names.lookup x.1) = true:=by simpa [isCF] using this
  exact Xho this
 ·have:=b4 x hx
  rw [e] at this;exact Xld (by simpa [Xeh] using this)
 ·rw [e] at b6
  exact Xhn (by rw [er];simpa using b6)
 ·have hj:j < X.N.length:=by
   have h1:=(List.getElem?_eq_some_iff.mp e).1;have h2:N'.length = nT + 1 + X.N.length:=by simpa using b5
   omega
  have:=b7 j (List.mem_range.mpr hj);rw [e] at this;simp only [Bool.or_eq_true,Bool.and_eq_true] at this
  rcases this with z | ⟨⟨z1,z2⟩,z3⟩
  ·exact absurd hv (Xhn (by rw [er];simpa using z))
  ·refine ⟨?_,Xho z2,by rw [er];exact Xtn z3⟩
   cases q:X.N[j]? with
   | none=>rw [q] at z1;cases z1
   | some y=>rw [q] at z1;rw [of_decide_eq_true z1]
section
variable {X:Cx} {H0:Hp} {nT:Nat} {pos:Pos} {g:RGp} {target iter elt:Expr} {ifs:List Expr} {scope:Scope} {N':List Str} {te tel:RE} {tc:RT}
def Xhb (i nT:Nat) (te:RE) (g:RGp) (tc:RT) (tel:RE) (E:Ends2) (δ:List Sl):Prop:=rComp nT te g tc tel δ λd=>gSet i d δ E.nx
theorem s_setCompF {y:Str} {py spos:Pos} (i:Nat) (hNd:X.N.Nodup) (ok:CompOk X scope nT N') (hi:PE2 X H0 iter te) (hg:∀ s3 H3 C cl fp,PGp (compX X scope N' s3 H3 C cl fp) H0 nT target g) (hif:∀ s3 H3 C cl fp,PIf2 (compX X scope N' s3 H3 C cl fp) H0 ifs tc) (hel:∀ s3 H3 C cl fp,PE2 (compX X scope N' s3 H3 C cl fp) H0 elt tel)
(hN:X.N[i]? = some y:=by rfl) (hx:Loc X.env.scope y:=by first | exact Or.inl rfl | exact Or.inr rfl) (hf:X.fn y = true \/ X.env.scope.names.lookup y = some .local:=by first | exact .inl rfl | exact .inr rfl | assumption)
(hs:∀ x,foldedSetIterable iter X.env x = pure x:=by intro _;rfl) (hsw:swapsWith (.ListComp elt [⟨target,iter,ifs,0⟩] scope pos) (some (.Name y py)) spos.line X.env = pure true:=by rfl) :
PS2 X H0 (.Assign [.Name y py] (.ListComp elt [⟨target,iter,ifs,0⟩] scope pos) spos) (Xhb i nT te g tc tel) :=
 PS.weak (Xsj (g:=Xbd X.K H0 nT g) (tc:=liftT X.K H0 tc) (tel:=liftE X.K H0 tel) ok (Xcx hi) hg hif hel hs (Xge hNd hN hx hf) hsw) λD σ H ⟨δ,G,E,hs,ht,go⟩=>⟨δ,G,_,hs,ht,λv H1 G1 d n1 r1 q1=>by
  cases d with
  | lst xs =>
   simp only [Rep] at r1;obtain ⟨a,ws,rfl,h2,h3⟩:=r1;refine ⟨a,rfl,⟨ws,n1.hs.sub.seq h2⟩,λDa hD=>Xhs n1.hs h2 h3 hD q1 λH' G' acc hh sg sh qq=>?_⟩;obtain ⟨l,e,nl,q⟩:=Xgj qq;obtain ⟨G2,h4,s4,r4⟩:=hh.settle;obtain ⟨G3,h5,s5⟩:=h4.put e nl r4;exact go.nx _ H' _ G3 h5 (((n1.g.trans sg).trans s4).trans s5) q
  | _=>exact q1.elim⟩
theorem Xcs {δ:List Sl} {p:D -> Bool} {f:D -> D} {Q:List D -> Prop}:∀ (xs:List D) (l:Sl) (acc:List D),acc.length + xs.length <= sizeLine ->
 (∀ x ∈ xs,∀ acc,RdT tc (.fr x :: .ow (.lst acc) :: δ) (p x)) -> (∀ x ∈ xs,p x = true -> ∀ acc,RdE tel (.fr x :: .ow (.lst acc) :: δ) (f x)) -> Q (acc ++ (xs.filter p).map f) -> compD (gpSet 0) tc tel δ xs [l] acc Q
  | [],l,acc,_,_,_,q=>by
    have q:Q acc:=by simpa using q
    exact q
  | x :: xs,l,acc,hl,h1,h2,q=>by
    rw [List.length_cons] at hl;refine h1 x (.head _) acc _ ⟨λe=>h2 x (.head _) e acc _ ⟨by omega,?_⟩,λe=>?_⟩
    · refine Xcs xs _ (acc ++ [f x]) (by simp;omega) (λy hy=>h1 y (.tail _ hy)) (λy hy=>h2 y (.tail _ hy)) ?_
      rw [List.filter_cons_of_pos e] at q
      simpa using q
    · refine Xcs xs _ acc (by omega) (λy hy=>h1 y (.tail _ hy)) (λy hy=>h2 y (.tail _ hy)) ?_
      rw [List.filter_cons_of_neg (by rw [e];exact Bool.false_ne_true)] at q;exact q
end
def isNon:D -> Bool
 | .non=>true
 | _=>false
def dIsN (neg:Bool) (x y:D) (Q:D -> Prop):Prop:=match y with
 | .non=>Q (.bl (neg != isNon x))
 | _=>False
theorem Xsa {K:PySem.W.Frag} {H:Hp} {d:D} {v:V} (r:Rep K H d v):decide (v = .non) = isNon d:=by
 cases d with
 | non=>simp only [Rep] at r;subst r;rfl
 | bl b=>simp only [Rep] at r;subst r;rfl
 | int b=>simp only [Rep] at r;subst r;rfl
 | str b=>simp only [Rep] at r;subst r;rfl
 | adr b=>simp only [Rep] at r;subst r;rfl
 | exc C o=>simp only [Rep] at r;obtain ⟨a,rfl,_⟩:=r;rfl
 | tup xs=>simp only [Rep] at r;obtain ⟨a,vs,rfl,_⟩:=r;rfl
 | lst xs=>simp only [Rep] at r;obtain ⟨a,vs,rfl,_⟩:=r;rfl
 | dK xs=>simp only [Rep] at r;obtain ⟨a,vs,rfl,_⟩:=r;rfl
 | dT xs=>simp only [Rep] at r;obtain ⟨a,vs,rfl,_⟩:=r;rfl
theorem Xir {K:PySem.W.Frag}:Lf2 K (λx y H Q=>y = .non /\ Q (.bl (!decide (x = .non))) H) (dIsN true):=λH0 σ δ G H x y dx dy Qd Q hs rx ry h k=>by
 cases dy with
 | non =>
  have r:=ry.all hs.sub;simp only [Rep] at r;refine ⟨r,k _ H G _ (Nx.refl hs) ?_ h⟩;simp only [Rep];rw [Xsa (rx.all hs.sub)];simp
 | _=>exact h.elim
section
variable {X:Cx} {pins:List (Addr × Obj)} {σ:L2.St} {H H':Hp} {s:Shared} {a:Addr} {y v:V} {u r:Value} {E:Value -> Shared -> Prop} {A:Around}
theorem Xtu {Q:Unit -> Shared -> Prop} (hu:A.units < cLine) (I:L2.Inv X pins σ H s) (g:DPut H a y v H') (ry:L2.RelV y u) (rv:L2.RelV v r) (h:∀ s',L2.Inv X pins σ H' s' -> Q () s') :
wpAny (model X.prog X.w) A (dictSet a u r) Q E s:=by
 rcases g with ⟨kvs,k,e,ey,l,eH⟩ | ⟨kvs,k,b,e,ey,eb,l,eH⟩
 ·subst ey eH
  obtain ⟨z,hd,vs,rel,dd⟩:=dk_of I.hok e;have z2:vs.length <= sizeLine:=by rw [<- rel.length];exact z
  have z3:(putK kvs k v).length <= sizeLine:=by have:=Xbi kvs k v;omega
  refine wpAny_dictSet_pairs (hsz:=z2) (kV_is ry) dd λh' dd' hs=>h _ ?_
  have he:∃ q,h'.get? a = some q:=let ⟨q,_,_,hq,_⟩:=dd';⟨q,hq⟩;exact Xgn I (by rw [e];exact True.intro) hs he (Xrj z3 hd (rel.put k rv) dd')
 ·subst ey eH
  cases (show u = Value.ref b from ry);obtain ⟨z,hd,xs,rel,dd⟩:=dt_of I.hok e;have z2:xs.length <= sizeLine:=by rw [<- Paired.length rel];exact z
  have z3:(putK kvs k v).length <= sizeLine:=by have:=Xbi kvs k v;omega
  refine wpAny_dictSet_heap (hsz:=z2) (show (tupleKind (Xao X.prog X.w)).room A from hu) (Xef I.hok eb) dd λh' dd' hs=>h _ ?_
  obtain ⟨q,es,ep,hq,h2,h3,h4,_,h5⟩:=dd';refine Xgn I (by rw [e];exact True.intro) hs ⟨q,hq⟩ ⟨z3,hd,_,(rel.put k eb rv).keeps λc ys ec=>?_,q,es,ep,hq,h2,h3,h4,h5⟩;rw [Xad (ne_of ec e (λz=>nomatch z))];exact ec
end
section
variable {prog:Program} {w:World} {A:Around} {R:Result -> Shared -> Prop} {s:Shared}
theorem Xoh {kx vx target iter:Expr} {ifs:List Expr} {scope:Scope} {pos:Pos} {it:Value} {D:Addr} {env:Env} (I:Nat -> Shared -> Prop) (Er:Value -> Shared -> Prop) (hEr:Er = notedBy (model prog w) A env λe s'=>R (.error e) s')
(turn:∀ n s,I n s -> wpAny (model prog w) A (pyNext it) (λr s1=>match r with
   | none=>R (.ok .next) s1
   | some v=>wpAny (model prog w) A (letOwnedTupleGo target it v) (λ_ s1'=>wpAny (model prog w) A (assign target env v) (λ_ s2 =>
wpAny (model prog w) A (forIn ifs true λc r=>if r = true then do let ok <- isTrue c env (eval c env);pure (ForInStep.yield ok) else pure (ForInStep.yield r)) (λok s3 =>
if ok = true then wpAny (model prog w) A (eval kx env) (λkv s4=>wpAny (model prog w) A (eval vx env) (λvv s5=>wpAny (model prog w) A (dictSet D kv vv) (λ_ s6=>∃ m,m < n /\ I m s6) Er s5) Er s4) Er s3
else ∃ m,m < n /\ I m s3) Er s2) Er s1') Er s1) Er s)
(n:Nat) (h:I n s):codeAny (model prog w) A (.compLoop (.DictComp kx vx [⟨target,iter,ifs,0⟩] scope pos) 0 it (.ref D) env) R s:=by
 subst hEr;refine codeAny_loop (I:=I) rfl (λn s hI=>?_) n h;have e:compTurn (.DictComp kx vx [⟨target,iter,ifs,0⟩] scope pos) 0 it (.ref D) env = _:=compTurn_dict kx vx target iter ifs scope pos it D env;refine wpAny_noted (m:=compTurn (.DictComp kx vx [⟨target,iter,ifs,0⟩] scope pos) 0 it (.ref D) env) ?_;rw [e];refine wpAny_bind (wpAny_standAt (wpAny_bind (thn (turn n s hI) λr s1 h1=>?_)))
 cases r with
 | none=>exact wpAny_pure h1
 | some v =>
  refine wpAny_bind (thn h1 λ_ s1' h1'=>wpAny_bind (thn h1' λ_ s2 h2=>wpAny_bind (thn h2 λok s3 h3=>?_)))
  cases ok with
  | false=>exact wpAny_pure ⟨rfl,h3⟩
  | true=>exact wpAny_bind (wpAny_bind (thn h3 λkv s4 h4=>wpAny_bind (wpAny_holding (thn h4 λvv s5 h5=>wpAny_bind (wpAny_standAt (wpAny_holding (thn h5 λ_ s6 h6=>wpAny_pure ⟨rfl,h6⟩)))))))
end
def Xor (J:It) (D:Addr) (g:TG) (tc:TT) (tk tv:TE) (σ0:L2.St) (H0:Hp) (QD:Hp -> Prop):Prop :=
 ∃ W:Nat -> Nat -> L2.St -> Hp -> Prop,(∃ m,W 0 m σ0 H0) /\ ∀ i m σ H,W i m σ H ->
  (J.stop i H /\ QD H) \/ (J.go i H /\ ∃ N:L2.St -> Hp -> Prop,(∀ σ' H',N σ' H' -> ∃ m',m' < m /\ W (i + 1) m' σ' H') /\
   ∀ x H',J.yld i H x H' -> g x σ H' λσ2 H2=>tc σ2 H2 λb H3=>if b = true then tk σ2 H3 λy H4=>tv σ2 H4 λz H5=>∃ H6,DPut H5 D y z H6 /\ N σ2 H6 else N σ2 H3)
section
variable {X:Cx} {pins:List (Addr × Obj)} {σ:L2.St} {H:Hp} {s:Shared} {scope:Scope} {N':List Str} {cl:List (Str × Addr)} {fp:List Addr} {target iter kx vx:Expr} {ifs:List Expr} {pos:Pos} {g:TG} {tc:TT} {tk tv:TE} {nT:Nat} {J:It} {it D:Addr} {tn:Nat -> Heap -> Prop}
theorem Xiy {E:Value -> Shared -> Prop} (hu:X.A.units < cLine) (I:L2.Inv X pins σ H s) (hc:X.calm = true) (hk:scope.kind = .function) (hcell:∀ y ∈ scope.names,y.2 ≠ .cell) (hcl:ClOk X scope cl) (cap:CapOk X scope nT N')
(T:Turn X.prog X.w X.K target J fp it tn) (st:tn 0 s.heap) (hf:∀ b ∈ fp,FpOk X pins H b)
(hg:∀ s3 H3 C cl fp,PG (compX X scope N' s3 H3 C cl fp) target g) (hif:∀ s3 H3 C cl fp,PIf (compX X scope N' s3 H3 C cl fp) ifs tc) (hkx:∀ s3 H3 C cl fp,PE (compX X scope N' s3 H3 C cl fp) kx tk) (hvx:∀ s3 H3 C cl fp,PE (compX X scope N' s3 H3 C cl fp) vx tv)
{QD:Hp -> Prop} (hw:Xor J D g tc tk tv (List.replicate nT none ++ some (.ref D) :: σ) H QD) {RR:Addr -> Result -> Shared -> Prop}
(hRR:∀ C s' H' σ' pins',s.heap.objs.size <= C -> L2.Inv (compX X scope N' s H C cl fp) pins' σ' H' s' -> QD H' -> RR C (.ok .next) s') :
wpAny (model X.prog X.w) X.A (newFunctionEnv scope X.env.globals cl [] X.env.qual none .none (some X.env)) (λcenv s4 =>
codeAny (model X.prog X.w) X.A (.compStart (.DictComp kx vx [⟨target,iter,ifs,0⟩] scope pos) 0 (.ref it) (.ref D) { cenv with scope:=relabel scope X.env }) (RR cenv.locals) s4) E s:=by
 refine wpAny_newFunctionEnv hcell (by intro y hy;simp at hy) (λh1 ns sb=>?_) hk;have hC:s.heap.objs.size <= s.heap.objs.size:=Nat.le_refl _;have k:∀ b o,s.heap.get? b = some o -> h1.get? b = some o:=λb o e=>sb.extBut b o (Nat.ne_of_lt (Heap.lt_size e)) (Heap.get?_push_of_some _ e)
 have hb:∀ b ∈ fp,b < s.heap.objs.size:=λb hb=>by obtain ⟨o,e,_⟩:=T.obj _ _ st b hb;exact Heap.lt_size e
 have I0:L2.Inv (compX X scope N' s H s.heap.objs.size cl fp) [] (List.replicate nT none ++ some (.ref D) :: σ) H { s with heap:=h1,toks:=s.toks + ([]:List (Str × Value)).length } :=
  Xgp I hc hk hcl hC hf hb cap k ns
 have st1:tn 0 h1:=T.keep _ _ _ st λb _ o e=>k b o e
 obtain ⟨W,⟨m0,w0⟩,turn⟩:=hw;have stat:∀ {H':Hp},(∀ b ∈ fp,H' b = none) -> ∀ b ∈ fp,FpOk (compX X scope N' s H s.heap.objs.size cl fp) [] H' b:=λhn b hb' =>
  ⟨hn b hb',Nat.ne_of_lt (hb b hb'),I0.ok.exfs b hb',.inl hb',(I0.ok.exf b hb').2,λp hp=>nomatch hp⟩
 have loop:codeAny (model X.prog X.w) X.A (.compLoop (.DictComp kx vx [⟨target,iter,ifs,0⟩] scope pos) 0 (.ref it) (.ref D) (compEnvC scope cl s.heap.objs.size X.env)) (RR s.heap.objs.size) { s with heap:=h1,toks:=s.toks + ([]:List (Str × Value)).length }:=by
  refine Xoh (λn s'=>∃ i σ' H',L2.Inv (compX X scope N' s H s.heap.objs.size cl fp) [] σ' H' s' /\ tn i s'.heap /\ (∀ b ∈ fp,H' b = none) /\ W i n σ' H') _ rfl ?_ m0 ⟨0,_,H,I0,st1,λb hb'=>(hf b hb').1,w0⟩;rintro n s3 ⟨i,σ3,H3,I3,st3,fr3,w3⟩
  rcases turn i n σ3 H3 w3 with ⟨stop,qn⟩ | ⟨go,N,hN,step⟩
  ·refine thn (T.done (compX X scope N' s H s.heap.objs.size cl fp) rfl rfl rfl hc i [] s3 σ3 H3 _ I3 (stat fr3) st3 stop) λr s4 ⟨hr,I4⟩=>?_
   subst hr;exact hRR _ s4 H3 σ3 [] hC I4 qn
  ·refine thn (T.item (compX X scope N' s H s.heap.objs.size cl fp) rfl rfl rfl hc i [] s3 σ3 H3 _ I3 (stat fr3) st3 go) λr s4 ⟨u,hr,h4⟩=>?_
   subst hr;refine thn h4 λ_ s5 ⟨x,H5,I5,r5,y5,st5,fr5⟩=>?_
   have I5':=I5.pinned (stat fr5) (T.obj _ _ st5);refine wpAny_mono (hg s H s.heap.objs.size cl fp _ s5 σ3 H5 x u _ I5' r5 (step x H5 y5)) (λ_ s6 ⟨σ6,H6,I6,q6⟩=>?_) λ_ _ z=>z.elim
   have again:∀ {s7:Shared} {σ7:L2.St} {H7:Hp},L2.Inv (compX X scope N' s H s.heap.objs.size cl fp) ([] ++ Xdh fp s5.heap) σ7 H7 s7 -> N σ7 H7 -> ∃ m,m < n /\ ∃ i σ' H',L2.Inv (compX X scope N' s H s.heap.objs.size cl fp) [] σ' H' s7 /\ tn i s7.heap /\ (∀ b ∈ fp,H' b = none) /\ W i m σ' H':=λ{s7 σ7 H7} I7 n7=>by
    obtain ⟨m',hm,w7⟩:=hN σ7 H7 n7;refine ⟨m',hm,i + 1,σ7,H7,I7.unpinned,T.keep _ _ _ st5 λb hb' o e=>(I7.pin (b,o) (List.mem_append_right _ (List.mem_append_right _ (Xak hb' e)))).1,λb hb'=>?_,w7⟩;obtain ⟨o,e,d⟩:=T.obj _ _ st5 b hb';exact (I7.pin (b,o) (List.mem_append_right _ (List.mem_append_right _ (Xak hb' e)))).2.1
   refine wpAny_mono (hif s H s.heap.objs.size cl fp _ s6 σ6 H6 _ I6 q6) (λok s7 ⟨H7,I7,q7⟩=>?_) λ_ _ z=>z.elim
   cases ok with
   | false =>
    rw [if_neg Bool.false_ne_true] at q7 ⊢;exact again I7 q7
   | true =>
    rw [if_pos rfl] at q7 ⊢;refine wpAny_mono (hkx s H s.heap.objs.size cl fp _ s7 σ6 H7 _ I7 q7) (λu8 s8 ⟨y,H8,I8,r8,q8⟩=>?_) λ_ _ z=>z.elim
    refine wpAny_mono (hvx s H s.heap.objs.size cl fp _ s8 σ6 H8 _ I8 q8) (λu9 s9 ⟨z,H9,I9,r9,H10,dp,q9⟩=>?_) λ_ _ z=>z.elim
    exact Xtu (X:=compX X scope N' s H s.heap.objs.size cl fp) hu I9 dp r8 r9 λs10 I10=>again I10 q9
 exact codeAny_compStart_dict loop (T.self _ 0 _ _ _ st1 loop)
def Xul (o:HO) (nT:Nat) (wi:TI) (g:TG) (tc:TT) (tk tv:TE):TE:=λσ H Q=>wi σ H λJ H1=>∀ D,H1 D = none -> Xor J D g tc tk tv (List.replicate nT none ++ some (.ref D) :: σ) (upd H1 D o) (λH'=>Q (.ref D) H')
variable {wi:TI}
def Xrn (o:HO):Prop:=o = .dK [] \/ o = .dT []
theorem Xqe {o:HO} {P:Program} {w:World} {H:Hp} (ho:Xrn o) (h:Heap) (hb:sysModules < h.objs.size):ObjOk P w H (h.push { cls:=.type "dict", data:=.dict #[] }) h.objs.size o:=by
 rcases ho with rfl | rfl
 ·exact Xkl h hb
 ·exact Xkk h hb
theorem Xpn {o:HO} (ho:Xrn o) (hu:X.A.units < cLine) (ok:CompOk X scope nT N') (hi:PI X target iter wi) (hg:∀ s3 H3 C cl fp,PG (compX X scope N' s3 H3 C cl fp) target g) (hif:∀ s3 H3 C cl fp,PIf (compX X scope N' s3 H3 C cl fp) ifs tc) (hkx:∀ s3 H3 C cl fp,PE (compX X scope N' s3 H3 C cl fp) kx tk) (hvx:∀ s3 H3 C cl fp,PE (compX X scope N' s3 H3 C cl fp) vx tv)
(hs:∀ x,foldedSetIterable iter X.env x = pure x):PE X (.DictComp kx vx [⟨target,iter,ifs,0⟩] scope pos) (Xul o nT wi g tc tk tv):=by
 intro pins s σ H Q I h;obtain ⟨hclos,hcl⟩:=cl_ok I.ok ok.cell ok.free;refine wpAny_comprehension_free (e:=.DictComp kx vx [⟨target,iter,ifs,0⟩] scope pos) (use:=none) rfl hs hclos ok.kind ok.loc (thn (hi pins s σ H _ I h) λv s1 h1=>thn h1 λitv s2 h2=>?_);obtain ⟨it,fp,tn,J,H2,e,I2,T,st2,f2,W⟩:=h2;subst e;refine wpAny_newObj_type ?_;have kp:∀ b o,s2.heap.get? b = some o -> (s2.heap.push { cls:=.type "dict", dict:=none,data:=.dict #[] }).get? b = some o:=λb o e=>Heap.get?_push_of_some _ e
 have I3:=I2.laid (a:=s2.heap.objs.size) (o:=o) (t':=s2.toks) kp (Nat.le_refl _) (Xqe ho s2.heap I2.big);have f3:∀ b ∈ fp,FpOk X pins (upd H2 s2.heap.objs.size o) b:=λb hb=>by
  obtain ⟨o,e,_⟩:=T.obj _ _ st2 b hb;exact ⟨by rw [Xad (Nat.ne_of_lt (Heap.lt_size e))];exact (f2 b hb).1,(f2 b hb).2⟩
 refine Xiy (iter:=iter) (pos:=pos) (RR:=λC=>compPost (model X.prog X.w) X.A X.xe none (EP X pins σ Q) (.ref s2.heap.objs.size) C) hu I3 ok.calm ok.kind ok.cell hcl ok.cap T (T.keep _ _ _ st2 λb _ o e=>kp b o e) f3 hg hif hkx hvx (W _ (I2.hok.fresh (Nat.le_refl _))) ?_;intro C s' H' σ' pins' hC I' q;obtain ⟨m,ns,_⟩:=I'.loc;exact ⟨m,ns,λh' hsb=>⟨.ref s2.heap.objs.size,H',Xcr (nT:=nT) I3 hC f3 I' hsb s'.toks,rfl,q⟩⟩
end
section
variable {X:Cx} {H0:Hp} {nT:Nat} {pos:Pos} {g:RGp} {target iter kx vx:Expr} {ifs:List Expr} {scope:Scope} {N':List Str} {te tk tv:RE} {tc:RT}
def compK (g:RGp) (tc:RT) (tk tv:RE) (δ:List Sl):List D -> List Sl -> List (Key × D) -> (List (Key × D) -> Prop) -> Prop
 | [],_,kvs,Q=>Q kvs
 | x :: xs,pre,kvs,Q=>g x pre λpre'=>tc (pre' ++ .ow (.dK kvs) :: δ) λb=>Two b (tk (pre' ++ .ow (.dK kvs) :: δ) λy=>tv (pre' ++ .ow (.dK kvs) :: δ) λd=>dkey y λk=>kvs.length < sizeLine /\ compK g tc tk tv δ xs pre' (putD kvs k d) Q) (compK g tc tk tv δ xs pre' kvs Q)
def Xwx (nT:Nat) (te:RE) (g:RGp) (tc:RT) (tk tv:RE) (δ:List Sl) (Q:D -> Prop):Prop:=te δ λd=>match d with
 | .lst xs=>compK g tc tk tv δ xs (List.replicate nT .un) [] (λkvs=>Q (.dK kvs))
 | _=>False
def compT (g:RGp) (tc:RT) (tk tv:RE) (δ:List Sl):List D -> List Sl -> List (List Key × D) -> (List (List Key × D) -> Prop) -> Prop
 | [],_,kvs,Q=>Q kvs
 | x :: xs,pre,kvs,Q=>g x pre λpre'=>tc (pre' ++ .ow (.dT kvs) :: δ) λb=>Two b (tk (pre' ++ .ow (.dT kvs) :: δ) λy=>tv (pre' ++ .ow (.dT kvs) :: δ) λd=>tkey y λk=>kvs.length < sizeLine /\ compT g tc tk tv δ xs pre' (putD kvs k d) Q) (compT g tc tk tv δ xs pre' kvs Q)
def Xqw (nT:Nat) (te:RE) (g:RGp) (tc:RT) (tk tv:RE) (δ:List Sl) (Q:D -> Prop):Prop:=te δ λd=>match d with
 | .lst xs=>compT g tc tk tv δ xs (List.replicate nT .un) [] (λkvs=>Q (.dT kvs))
 | _=>False
theorem Xlj {σ:L2.St} {δ:List Sl} {G1 H1:Hp} {a D:Addr} {ws:List V} {xs:List M.D} {Qd:List (List Key × M.D) -> Prop} {QD:Hp -> Prop} (hs:Hs X.K H0 σ δ G1 H1) (h2:SqL X.K G1 a ws) (h3:Reps X.K G1 xs ws) (hD:H1 D = none)
(q:compT g tc tk tv δ xs (List.replicate nT .un) [] Qd) (k:∀ H' G' kvs,Hs X.K H0 (some (.ref D) :: σ) (.ow (.dT kvs) :: δ) G' H' -> Same G1 G' -> Same H1 H' -> Qd kvs -> QD H') :
Xor (Itl X.K a) D (Xbd X.K H0 nT g) (liftT X.K H0 tc) (liftE X.K H0 tk) (liftE X.K H0 tv) (List.replicate nT none ++ some (.ref D) :: σ) (upd H1 D (.dT [])) QD:=by
 have smD:∀ {H':Hp} {o:HO},Same H1 H' -> Same H1 (upd H' D o):=λ{H' o} s b u e=>by rw [Xad (Xaf e hD)];exact s b u e
 refine ⟨λi m σ' H'=>m = ws.length - i /\ i <= ws.length /\ ∃ ps pre kvs G',σ' = ps ++ some (.ref D) :: σ /\ ps.length = nT /\ pre.length = nT /\ NoOwn pre /\ Hs X.K H0 σ' (pre ++ .ow (.dT kvs) :: δ) G' H' /\ Same G1 G' /\ Same H1 H' /\ compT g tc tk tv δ (xs.drop i) pre kvs Qd,
  ⟨ws.length,by simp,Nat.zero_le _,List.replicate nT none,List.replicate nT .un,[],G1,rfl,by simp,by simp,Xdr nT,(hs.fresh (d:=.dT []) (o:=.dT []) hD ⟨[],Xac,by simp only [RepT]⟩).uns nT,Same.refl _,smD (Same.refl _),q⟩,?_⟩
 rintro i m σ' H' ⟨rfl,hi,ps,pre,kvs,G',rfl,l1,l2,no,h',sg,sh,q'⟩;have sq:SqL X.K H' a ws:=h'.sub.seq (sg.seq h2)
 by_cases hlt:i < ws.length
 ·have hx:ws[i]? = some ws[i]:=by simp [hlt]
  obtain ⟨d,ed,rd⟩:=h3.getV hx;have hxs:i < xs.length:=(List.getElem?_eq_some_iff.mp ed).1;have edx:xs.drop i = d :: xs.drop (i + 1):=by
   rw [List.drop_eq_getElem_cons hxs];rw [List.getElem?_eq_getElem hxs] at ed;cases ed;rfl
  rw [edx] at q';refine .inr ⟨⟨ws,ws[i],sq,hx⟩,λσ2 H2=>∃ ps pre kvs G',σ2 = ps ++ some (.ref D) :: σ /\ ps.length = nT /\ pre.length = nT /\ NoOwn pre /\ Hs X.K H0 σ2 (pre ++ .ow (.dT kvs) :: δ) G' H2 /\ Same G1 G' /\ Same H1 H2 /\ compT g tc tk tv δ (xs.drop (i + 1)) pre kvs Qd,λσ2 H2 z=>⟨ws.length - (i + 1),by omega,rfl,hlt,z⟩,λx H2 y=>?_⟩;obtain ⟨e,y⟩:=y;subst e;have ey:ws[i] = x:=by
   have:=y ws sq;rw [hx] at this;exact Option.some.inj this
  refine ⟨ps,_,pre,.ow (.dT kvs) :: δ,G',d,_,rfl,l1,l2,no,h',by rw [<- ey];exact Rep.mono sg _ _ rd,q',λps1 pre1 a1 a2 a3 h1 q1=>?_⟩;refine ⟨_,G',_,h1,q1,λb H3 G3 n3 q3=>?_⟩
  cases b with
  | false =>
   rw [if_neg Bool.false_ne_true];exact ⟨ps1,pre1,kvs,G3,rfl,a1,a2,a3,n3.hs,sg.trans n3.g,sh.trans n3.h,q3.no rfl⟩
  | true =>
   rw [if_pos rfl];refine ⟨_,G3,_,n3.hs,q3.yes rfl,λy H4 G4 dy n4 r4 q4=>⟨_,G4,_,n4.hs,q4,λz H5 G5 dz n5 r5 q5=>?_⟩⟩;have e0:(pre1 ++ Sl.ow (.dT kvs) :: δ)[nT]? = some (.ow (.dT kvs)):=Xbl a2 _;have e1:(ps1 ++ some (V.ref D) :: σ)[nT]? = some (some (.ref D)):=Xbl a1 _;obtain ⟨p,e2,kws,g1,g2⟩:=n5.hs.ow nT _ e0;rw [e1] at e2;cases e2;obtain ⟨k,b,rfl,hb,hl,qq⟩:=Xdu q5 (Rep.mono n5.g _ _ r4);refine ⟨_,DPut.t g1 (n5.hs.sub _ _ hb) (by rw [<- g2.length];exact hl),ps1,pre1,putD kvs k dz,G5,rfl,a1,a2,a3,?_,sg.trans (n3.g.trans (n4.g.trans n5.g)),smD (sh.trans (n3.h.trans (n4.h.trans n5.h))),qq⟩;have hw:=n5.hs.write (d':=.dT (putD kvs k dz)) e0 e1 ⟨_,Xac,g2.put r5⟩;rw [Xfz a2] at hw;exact hw
 ·have e:i = ws.length:=by omega
  subst e;refine .inl ⟨⟨ws,sq,Nat.le_refl _⟩,?_⟩;rw [List.drop_of_length_le (by rw [h3.length];exact Nat.le_refl _)] at q';exact k H' G' kvs (Hs.drops (by rw [l1,l2]) no h') sg sh q'
theorem n_dcompT (hu:X.A.units < cLine) (ok:CompOk X scope nT N') (hi:PE2 X H0 iter te) (hg:∀ s3 H3 C cl fp,PGp (compX X scope N' s3 H3 C cl fp) H0 nT target g) (hif:∀ s3 H3 C cl fp,PIf2 (compX X scope N' s3 H3 C cl fp) H0 ifs tc) (hkx:∀ s3 H3 C cl fp,PE2 (compX X scope N' s3 H3 C cl fp) H0 kx tk) (hvx:∀ s3 H3 C cl fp,PE2 (compX X scope N' s3 H3 C cl fp) H0 vx tv)
(hs:∀ x,foldedSetIterable iter X.env x = pure x:=by intro _;rfl):PN2 X H0 (.DictComp kx vx [⟨target,iter,ifs,0⟩] scope pos) (Xqw nT te g tc tk tv) :=
 PE.weak (Xpn (o:=.dT []) (g:=Xbd X.K H0 nT g) (tc:=liftT X.K H0 tc) (tk:=liftE X.K H0 tk) (tv:=liftE X.K H0 tv) (.inr rfl) hu ok (Xcx hi) hg hif hkx hvx hs) λσ H Q ⟨δ,G,Qd,hs,ht,k⟩=>⟨δ,G,_,hs,ht,λv H1 G1 d n1 r1 q1=>by
  cases d with
  | lst xs =>
   simp only [Rep] at r1;obtain ⟨a,ws,rfl,h2,h3⟩:=r1;refine ⟨a,rfl,⟨ws,n1.hs.sub.seq h2⟩,λD hD=>Xlj n1.hs h2 h3 hD q1 λH' G' acc hh sg sh qq=>k _ H' G' _ hh (n1.g.trans sg) (n1.h.trans sh) qq⟩
  | _=>exact q1.elim⟩
end
section
variable {X:Cx} {H0:Hp} {o e:Expr} {ta te:RE} {apos cpos:Pos}
def Xqu (ta tb:RE) (δ:List Sl) (Q:D -> Prop):Prop:=ta δ λx=>match x with
 | .dK kvs=>tb δ λy=>dkey y λk=>Q ((valD kvs k).getD .non)
 | .dT kvs=>tb δ λy=>tkey y λk=>Q ((valD kvs k).getD .non)
 | _=>False
theorem e_dget1 (hu:X.A.units + 1 < cLine) (ho:PB2 X H0 o ta) (he:PE2 X H0 e te) (m:M1 X o "get" apos e cpos:=by exact ⟨rfl,rfl,rfl,rfl⟩):PE2 X H0 (.Call (.Attribute o "get" apos) [e] [] cpos) (Xqu ta te) :=
 PE.weak (Xpm hu ho he m) λσ H Q ⟨δ,G,Qd,hs,ht,kk⟩=>⟨δ,G,_,hs,ht,λv H1 G1 d n1 r1 q1=>by
  have rz:∀ {G:Hp},Rep X.K G .non .non:=λ{G}=>by simp only [Rep]
  cases d with
  | dK kvs =>
   obtain ⟨a,kws,rfl,h1,h2⟩:=r1;refine ⟨a,rfl,.inl ⟨_,h1⟩,δ,G1,_,n1.hs,q1,λvy H2 G2 dy n2 r2 q2=>?_⟩;obtain ⟨k,rfl,q⟩:=Xeo q2 r2;have h3:=RepK.mono n2.g _ _ h2;exact ⟨_,DGet.kr (Xbj n2.h h1),kk _ H2 G2 _ (n1.trans n2) (Xkf (λe=>h3.valS e) (λe=>h3.valN e) rz) q⟩
  | dT kvs =>
   obtain ⟨a,kws,rfl,h1,h2⟩:=r1;refine ⟨a,rfl,.inr ⟨_,h1⟩,δ,G1,_,n1.hs,q1,λvy H2 G2 dy n2 r2 q2=>?_⟩;obtain ⟨k,b,rfl,hb,q⟩:=Xdu q2 r2;have h3:=RepT.mono n2.g _ _ h2;exact ⟨_,DGet.tr (Xbj n2.h h1) (n2.hs.sub _ _ hb),kk _ H2 G2 _ (n1.trans n2) (Xkf (λe=>h3.valS e) (λe=>h3.valN e) rz) q⟩
  | _=>exact q1.elim⟩
end
section
variable {X:Cx} {scope:Scope} {N':List Str} {target iter kx vx:Expr} {ifs:List Expr} {pos:Pos} {g:TG} {tc:TT} {tk tv:TE} {nT:Nat} {wi:TI}
end
section
variable {X:Cx} {H0:Hp} {nT:Nat} {pos:Pos} {g:RGp} {target iter kx vx:Expr} {ifs:List Expr} {scope:Scope} {N':List Str} {te tk tv:RE} {tc:RT}
end
section
variable {X:Cx} {H0:Hp} {a b:Expr} {p p2 pos pos2:Pos}
end
mutual
def flat:D -> Bool
 | .lst _=>false
 | .dK _=>false
 | .dT _=>false
 | .exc _ _=>false
 | .tup xs=>flats xs
 | _=>true
def flats:List D -> Bool
 | []=>true
 | d :: ds=>flat d && flats ds
end
def Xww (G:Hp) (p:Addr):Hp:=λb=>if b = p then none else G b
section
variable {K:PySem.W.Frag} {H0:Hp} {σ:L2.St} {δ:List Sl} {G H G1 H1:Hp} {i:Nat} {d:D} {p:Addr}
end
section
variable {X:Cx} {H0:Hp} {e:Expr} {t:RE} {u:RT}
end
section
variable {X:Cx} {H0:Hp} {x y:Str} {pos p1 p2 p3:Pos} {k:Nat}
variable {f:Str} {sp:Sp2} {e:Expr} {es:List Expr} {tr:RA} {p:Pos}
end
section
variable {X:Cx} {pins:List (Addr × Obj)} {σ:L2.St} {H:Hp} {s:Shared} {a:Addr} {kws:List (Key × V)} {ob:Obj}
end
section
variable {X:Cx} {tg:Expr}
end
section
variable {X:Cx} {H0:Hp} {tg:Expr} {g:RG} {body:List Stmt} {tb:RS} {pos p:Pos} {x:Str}
theorem Xwi {K:PySem.W.Frag} {G:Hp} (k:Key):Rep K G (kD k) (kV k):=by cases k <;> simp only [kD,kV,Rep]
end
section
variable {prog:Program} {w:World} {A:Around} {E:Value -> Shared -> Prop} {s:Shared}
end
section
variable {X:Cx} {H0:Hp} {e:Expr} {es:List Expr} {tr:RA} {pos p:Pos}
end
section
variable {X:Cx} {H0:Hp} {e value:Expr} {te tv:RE} {pos pos' cpos apos p:Pos} {x:Str}
end
section
variable {X:Cx} {H0:Hp} {ts:List Expr} {k:Nat} {tp p p2 pos pos2:Pos} {a:Expr} {ta:RE} {g:RG} {tb:RS} {body:List Stmt} {x:Str}
end
section
variable {K:PySem.W.Frag} {H0:Hp} {σ:L2.St} {δ:List Sl} {G H:Hp}
end
section
variable {X:Cx} {H0:Hp} {e e1 e2:Expr} {t t1 t2:RE} {pos p1 p3:Pos} {k3:Nat} {x:Str}
end
section
variable {X:Cx} {H0:Hp} {f x:Str} {sp:Sp2} {e:Expr} {es:List Expr} {tr:RA} {k:Nat} {p p1 pos p5:Pos}
end
section
variable {K:PySem.W.Frag} {H0:Hp} {σ:L2.St} {δ:List Sl} {G H:Hp} {i k g:Nat} {q:Addr} {ds:List D} {y:D}
end
section
variable {X:Cx} {H0:Hp} {e:Expr} {t:RE} {u:RT}
end
section
variable {X:Cx} {H0:Hp} {e:Expr} {te:RE} {pos cpos apos p ps pk:Pos} {x:Str} {kc:Nat}
end
section
variable {X:Cx} {H0:Hp} {f x:Str} {sp:Sp2} {e:Expr} {es:List Expr} {tr:RA} {k:Nat} {p p1 pos p5:Pos}
end
section
variable {X:Cx} {H0:Hp} {e a:Expr} {te ta:RE} {pos pos' cpos apos p p2 p3 p4 p5 p6:Pos} {x f:Str} {j:Nat}
structure rIfPop (i:Nat) (t:RT) (ta:RE) (sp:Sp2) (tb te:RS) (E:Ends2) (δ:List Sl):Prop where
 run:t δ λk=>Two k (tb E δ) (ta δ λdx=>match δ[i]? with
  | some (.ow (.lst ys))=>∃ y,ys[ys.length - 1]? = some y /\ sp [y] (retQ λr=>Xaa 60 dx = true /\ Xaa 60 r = true /\ Two (true != eqD dx r) (tb E (δ.set i (.ow (.lst ys.dropLast)))) (te E (δ.set i (.ow (.lst ys.dropLast)))))
  | _=>False)
end
def CX1 (P:Program) (w:World):CXT:=λouter H s E e s'=>∃ (ea C t:Addr) (B:Heap) (H':Hp),e = .ref ea /\ s'.os = s.os /\ AllBare s'.gens /\ Heap.FlyingW B outer ea (.ref C) (.ref t) s'.heap /\
 (∀ h6,B.StaysIn h6 -> s'.heap.UpToSlots h6 -> Un (frs outer) [] H H' s.heap h6 /\ HOk P w H' h6) /\ H' ea = none /\ s.heap.get? ea = none /\ E (.ref C) (some ea) H'
section
variable {P:Program} {w:World} {K:PySem.W.Frag} {mg:Str -> Option Value} {base:Heap} {N:List Str} {qual:Str} {scope:Scope} {f:Addr} {cd:Value} {A:Around} {outer:List Env} {s s1:Shared} {H H1:Hp} {E:XK} {pins:List (Addr × Obj)} {σ:L2.St}
end
abbrev RJ:=List Sl -> (Str -> Prop) -> Prop
section
variable {X:Cx} {H0:Hp} {es:List Expr} {e:Expr} {te:RE} {tj:RJ} {c:Str} {pos:Pos} {j:Nat}
end
structure Err (K:PySem.W.Frag) (mg:Str -> Option Value) (base:Heap) (x:Str) (C:Addr) (bm:List Value):Prop where
 ex:∃ B newId initId,ExcBaseFacts B newId initId bm /\ OwnCls x C bm newId mg base
section
variable {X:Cx} {H0:Hp} {x:Str} {C:Addr} {bm:List Value} {e:Expr} {es:List Expr} {tr:RA} {np cpos pos:Pos} {R:Prop}
end
abbrev SpX:=List D -> (Ret -> Prop) -> (Str -> Prop) -> Prop
def liftX (K:PySem.W.Frag) (mg:Str -> Option Value) (sp:SpX):Sp:=λvs H Q E=>∃ ds Qd Xd,Reps K H ds vs /\ sp ds Qd Xd /\ (∀ v H' r,RetOk K H H' v r -> Qd r -> Q v H') /\ ∀ x C a H',Xd x -> mg x = some (.ref C) -> Same H H' -> E (.ref C) (some a) H'
section
variable {P:Program} {w:World} {K:PySem.W.Frag} {mg:Str -> Option Value} {base:Heap}
end
structure FnX (P:Program) (w:World) (K:PySem.W.Frag) (mg:Str -> Option Value) (base:Heap) (k:Nat) (x:Str) (sp:SpX):Prop where
 ex:∃ (f:Addr) (fd:FuncData) (ps:List Str),FnOk P w K mg base (CX1 P w) k f fd ps (liftX K mg sp) /\ mg x = some (.ref f) /\ PySem.W.keepIn K (.ref f) = true /\ Binds K fd ps []
def Fly (X:Cx) (H0:Hp) (pins:List (Addr × Obj)) (σ:L2.St) (δ:List Sl) (G H:Hp) (x:Str) (ea:Addr) (s':Shared):Prop:=∃ (C t:Addr) (B:Heap) (G2 H2:Hp),X.mg x = some (.ref C) /\ Heap.FlyingW B X.stack ea (.ref C) (.ref t) s'.heap /\ (X.ex = [] -> X.s₀.heap.get? ea = none) /\
 ∀ h6,B.StaysIn h6 -> s'.heap.UpToSlots h6 -> Inv X pins σ H2 { s' with heap:=h6 } /\ Nx X.K H0 σ δ G H G2 H2 /\ H2 ea = none
section
variable {X:Cx} {H0:Hp} {k:Nat} {x:Str} {sp:SpX} {e:Expr} {es:List Expr} {tr:RA} {p pos:Pos}
end
section
variable {X:Cx} {H0:Hp} {pins:List (Addr × Obj)} {σ:L2.St} {δ:List Sl} {G H:Hp} {x y:Str} {ea:Addr} {s':Shared} {b₀:Stmt} {suite:List Stmt} {np hpos:Pos} {rest:List ExceptHandler} {Q:Flow -> Shared -> Prop}
end
section
variable {X:Cx} {H0:Hp} {k:Nat} {f y:Str} {sp:SpX} {e:Expr} {es:List Expr} {tr:RA} {p np cpos epos hpos pos:Pos} {b₀:Stmt} {suite:List Stmt} {tb:RS}
end
end M
namespace PySem.W
open PySem PySem.Spec PySem.Calls PyProof.Rows Builtin Builtin.ObjectAttr Builtin.Getset_descriptor
section
variable {prog:Program} {w:World} {A:Around} {E:Value -> Shared -> Prop} {s:Shared} {K:Frag} {x D:Addr} {name:Str}
end
end PySem.W
namespace M
open PySem PySem.Spec PyProof.Rows L2
section
variable {Mo:Model} {A:Around} {E:Value -> Shared -> Prop}
variable {nm q nm' q':Str} {C N C' N':Addr} {bs bm bs' bm':List Value} {hdct hdct':Bool} {sn sn':List Str} {sub sub':List Value} {ab ab':Bool} {col col':Option Bool} {dd dd':Option Addr} {k0 k1 k2 k3 k5 j0 j1 j2 j3 j5:Option Value} {newId newId':String}
end
section
variable {X:Cx} {pins:List (Addr × Obj)} {σ:L2.St} {H:Hp} {s:Shared}
end
section
variable {X:Cx} {H0:Hp} {k:Nat} {f y c n:Str} {sp:SpX} {e:Expr} {es:List Expr} {tr:RA} {p np cpos epos hpos pos:Pos} {b₀:Stmt} {suite:List Stmt} {tb:Addr -> RS} {i:Nat}
end
structure ErrK (K:PySem.W.Frag) (C:Addr):Prop where
 c:PySem.W.hasDictIn K C = true
 ga:PySem.W.findIn K (.ref C) "__getattribute__" = some (some (.builtin "BaseException.__getattribute__"))
 gt:PySem.W.findIn K (.ref C) "__getattr__" = some none
 a:PySem.W.findIn K (.ref C) "__class__" = some (some (.builtin "object.__class__"))
 n:PySem.W.specialIn K (.builtin "object.__class__") "__get__" = some (some (.builtin "getset_descriptor.__get__"))
 t:PySem.W.takesIn K (.builtin "object.__class__") = some true
 m:PySem.W.mroIn K C (.type "object") = some true
 mb:PySem.W.mroIn K C (.type "BaseException") = some true
section
variable {X:Cx} {H0:Hp} {ea C:Addr} {ob:Obj} {e:Expr} {te:RE} {c:Str} {T:String} {C':Addr} {b:Bool} {p p2 pos:Pos}
end
def Pass (X:Cx) (H0:Hp) (x:Str):Prop:=∀ (pins:List (Addr × Obj)) (σ:L2.St) (δ:List Sl) (G H:Hp) (ea:Addr) (s':Shared),Fly X H0 pins σ δ G H x ea s' -> X.xe (.ref ea) s'
section
variable {P:Program} {w:World} {K:PySem.W.Frag} {mg:Str -> Option Value} {base:Heap} {N:List Str} {qual:Str} {scope:Scope} {f:Addr} {cd:Value} {A:Around} {outer:List Env} {s:Shared} {H:Hp} {E:XK} {x:Str}
end
section
variable {X:Cx} {H0:Hp} {k:Nat} {f:Str} {sp:SpX} {e:Expr} {es:List Expr} {tr:RA} {p cpos:Pos} {R:Str -> Prop}
end
def GTab (P:Program) (w:World) (K:PySem.W.Frag) (mg:Str -> Option Value) (g:Str) (tab:List (Str × Addr)):Prop :=
 ∃ (a:Addr) (es:Array DictEntry) (n:Nat),mg g = some (.ref a) /\ K.lookup a = some ⟨.type "dict", none,.dict es n,#[]⟩ /\ KeysOf (Xao P w) es /\ Pairs (Xao P w) es.toList (tab.map λp=>(.inr p.1,.ref p.2)) /\ (tab.map (·.1)).Nodup
section
variable {X:Cx} {H0:Hp} {g:Str} {tab:List (Str × Addr)} {e a:Expr} {te ta:RE} {np pos pos2:Pos}
end
section
variable {X:Cx} {pins:List (Addr × Obj)} {σ:L2.St} {H:Hp} {s:Shared} {a:Addr} {kws:List (Key × V)} {ob:Obj}
end
section
variable {X:Cx} {tg:Expr}
end
section
variable {X:Cx} {H0:Hp} {tg:Expr} {g:RG} {body:List Stmt} {tb:RS} {pos p:Pos} {x:Str}
end
section
variable {X:Cx} {H0:Hp} {nT:Nat} {g:RGp} {e:Expr} {pos p2:Pos}
variable {target iter elt:Expr} {ifs:List Expr} {scope:Scope} {N':List Str} {te tel:RE} {tc:RT}
def Xqv (nT:Nat) (te:RE) (g:RGp) (tc:RT) (tel:RE) (δ:List Sl) (Q:D -> Prop):Prop:=te δ λd=>match d with
 | .tup xs=>compD g tc tel δ xs (List.replicate nT .un) [] (λacc=>Q (.lst acc))
 | _=>False
theorem Xli {σ:L2.St} {δ:List Sl} {G1 H1:Hp} {a D:Addr} {ws:List V} {xs:List M.D} {Qd:List M.D -> Prop} {QD:Hp -> Prop} (hs:Hs X.K H0 σ δ G1 H1) (h2:SqT X.K G1 a ws) (h3:Reps X.K G1 xs ws) (hD:H1 D = none)
(q:compD g tc tel δ xs (List.replicate nT .un) [] Qd) (k:∀ H' G' acc,Hs X.K H0 (some (.ref D) :: σ) (.ow (.lst acc) :: δ) G' H' -> Same G1 G' -> Same H1 H' -> Qd acc -> QD H') :
CompW (Itt X.K a) D (Xbd X.K H0 nT g) (liftT X.K H0 tc) (liftE X.K H0 tel) (List.replicate nT none ++ some (.ref D) :: σ) (upd H1 D (.lst [])) QD:=by
 have smD:∀ {H':Hp} {o:HO},Same H1 H' -> Same H1 (upd H' D o):=λ{H' o} s b u e=>by rw [Xad (Xaf e hD)];exact s b u e
 refine ⟨λi m σ' H'=>m = ws.length - i /\ i <= ws.length /\ ∃ ps pre acc G',σ' = ps ++ some (.ref D) :: σ /\ ps.length = nT /\ pre.length = nT /\ NoOwn pre /\ Hs X.K H0 σ' (pre ++ .ow (.lst acc) :: δ) G' H' /\ Same G1 G' /\ Same H1 H' /\ compD g tc tel δ (xs.drop i) pre acc Qd,
  ⟨ws.length,by simp,Nat.zero_le _,List.replicate nT none,List.replicate nT .un,[],G1,rfl,by simp,by simp,Xdr nT,(hs.fresh (d:=.lst []) (o:=.lst []) hD ⟨[],Xac,Reps.nil⟩).uns nT,Same.refl _,smD (Same.refl _),q⟩,?_⟩
 rintro i m σ' H' ⟨rfl,hi,ps,pre,acc,G',rfl,l1,l2,no,h',sg,sh,q'⟩;have sq:SqT X.K H' a ws:=seqT h'.sub (seqT sg h2)
 by_cases hlt:i < ws.length
 ·have hx:ws[i]? = some ws[i]:=by simp [hlt]
  obtain ⟨d,ed,rd⟩:=h3.getV hx;have hxs:i < xs.length:=(List.getElem?_eq_some_iff.mp ed).1;have edx:xs.drop i = d :: xs.drop (i + 1):=by
   rw [List.drop_eq_getElem_cons hxs];rw [List.getElem?_eq_getElem hxs] at ed;cases ed;rfl
  rw [edx] at q';refine .inr ⟨⟨ws,ws[i],sq,hx⟩,λσ2 H2=>∃ ps pre acc G',σ2 = ps ++ some (.ref D) :: σ /\ ps.length = nT /\ pre.length = nT /\ NoOwn pre /\ Hs X.K H0 σ2 (pre ++ .ow (.lst acc) :: δ) G' H2 /\ Same G1 G' /\ Same H1 H2 /\ compD g tc tel δ (xs.drop (i + 1)) pre acc Qd,λσ2 H2 z=>⟨ws.length - (i + 1),by omega,rfl,hlt,z⟩,λx H2 y=>?_⟩;obtain ⟨e,y⟩:=y;subst e;have ey:ws[i] = x:=by
   have:=y ws sq;rw [hx] at this;exact Option.some.inj this
  refine ⟨ps,_,pre,.ow (.lst acc) :: δ,G',d,_,rfl,l1,l2,no,h',by rw [<- ey];exact Rep.mono sg _ _ rd,q',λps1 pre1 a1 a2 a3 h1 q1=>?_⟩;refine ⟨_,G',_,h1,q1,λb H3 G3 n3 q3=>?_⟩
  cases b with
  | false =>
   rw [if_neg Bool.false_ne_true];exact ⟨ps1,pre1,acc,G3,rfl,a1,a2,a3,n3.hs,sg.trans n3.g,sh.trans n3.h,q3.no rfl⟩
  | true =>
   rw [if_pos rfl];refine ⟨_,G3,_,n3.hs,q3.yes rfl,λy H4 G4 dy n4 r4 q4=>?_⟩;have e0:(pre1 ++ Sl.ow (.lst acc) :: δ)[nT]? = some (.ow (.lst acc)):=Xbl a2 _;have e1:(ps1 ++ some (V.ref D) :: σ)[nT]? = some (some (.ref D)):=Xbl a1 _;obtain ⟨p,e2,zs,g1,g2⟩:=n4.hs.ow nT _ e0;rw [e1] at e2;cases e2;refine ⟨zs,g1,by rw [<- g2.length];exact q4.1,ps1,pre1,acc ++ [dy],G4,rfl,a1,a2,a3,?_,sg.trans (n3.g.trans n4.g),smD (sh.trans (n3.h.trans n4.h)),q4.2⟩;have hw:=n4.hs.write (d':=.lst (acc ++ [dy])) e0 e1 ⟨_,Xac,Reps.append g2 (Reps.cons r4 Reps.nil)⟩;rw [Xfz a2] at hw;exact hw
 ·have e:i = ws.length:=by omega
  subst e;refine .inl ⟨⟨ws,sq,Nat.le_refl _⟩,?_⟩;rw [List.drop_of_length_le (by rw [h3.length];exact Nat.le_refl _)] at q';exact k H' G' acc (Hs.drops (by rw [l1,l2]) no h') sg sh q'
theorem Xsy (ok:CompOk X scope nT N') (hi:PE2 X H0 iter te) (hg:∀ s3 H3 C cl fp,PGp (compX X scope N' s3 H3 C cl fp) H0 nT target g) (hif:∀ s3 H3 C cl fp,PIf2 (compX X scope N' s3 H3 C cl fp) H0 ifs tc) (hel:∀ s3 H3 C cl fp,PE2 (compX X scope N' s3 H3 C cl fp) H0 elt tel)
(hs:∀ x,foldedSetIterable iter X.env x = pure x:=by intro _;rfl):PN2 X H0 (.ListComp elt [⟨target,iter,ifs,0⟩] scope pos) (Xqv nT te g tc tel) :=
 PE.weak (Xmx (g:=Xbd X.K H0 nT g) (tc:=liftT X.K H0 tc) (tel:=liftE X.K H0 tel) ok (Xra hi) hg hif hel hs) λσ H Q ⟨δ,G,Qd,hs,ht,k⟩=>⟨δ,G,_,hs,ht,λv H1 G1 d n1 r1 q1=>by
  cases d with
  | tup xs =>
   simp only [Rep] at r1;obtain ⟨a,ws,rfl,h2,h3⟩:=r1;refine ⟨a,rfl,⟨ws,seqT n1.hs.sub (SqT.of h2)⟩,λD hD=>Xli n1.hs (SqT.of h2) h3 hD q1 λH' G' acc hh sg sh qq=>k _ H' G' _ hh (n1.g.trans sg) (n1.h.trans sh) qq⟩
  | _=>exact q1.elim⟩
end
section
variable {X:Cx} {H0:Hp} {a b e o:Expr} {es:List Expr} {ta tb te to:RE} {tr:RA} {tj:RJ} {pos p apos cpos p2:Pos}
end
section
variable {X:Cx} {H0:Hp} {e:Expr} {te:RE} {lo hi:Option Expr} {tl th:RO} {pos p2:Pos}
end
section
variable {prog:Program} {w:World} {A:Around} {R:Result -> Shared -> Prop} {s:Shared}
variable {elt t1 i1 t2 i2:Expr} {scope:Scope} {pos:Pos} {it acc:Value} {env:Env}
abbrev comp2 (elt t1 i1 t2 i2:Expr) (scope:Scope) (pos:Pos):Expr:=.ListComp elt [⟨t1,i1,[],0⟩,⟨t2,i2,[],0⟩] scope pos
theorem Xep:compTurn (comp2 elt t1 i1 t2 i2 scope pos) 1 it acc env = (standAt i2.pos >>= λ_=>pyNext it >>= λr=>match r with
      | none=>pure (.done .next)
      | some v=>letOwnedTupleGo t2 it v >>= λ_=>assign t2 env v >>= λ_ =>
 (eval elt env >>= λx=>call (.builtin "list.append") [acc,x] >>= λ_=>pure ()) >>= λ_ =>
 again (.compLoop (comp2 elt t1 i1 t2 i2 scope pos) 1 it acc env)):=by rfl
theorem Xnf (A:Around):A.mark none = A:=by
 obtain ⟨⟩:=A;rfl
theorem Xeq (I:Nat -> Shared -> Prop) (hs:∀ x,foldedSetIterable i2 env x = pure x)
(turn:∀ n s,I n s -> wpAny (model prog w) A (pyNext it) (λr s1=>match r with
   | none=>R (.ok .next) s1
   | some v=>wpAny (model prog w) A (letOwnedTupleGo t1 it v) (λ_ s1'=>wpAny (model prog w) A (assign t1 env v) (λ_ s2 =>
wpAny (model prog w) A (eval i2 env) (λx s3=>wpAny (model prog w) A (pyIter x) (λjt s4 =>
codeAny (model prog w) A (.compStart (comp2 elt t1 i1 t2 i2 scope pos) 1 jt acc env) (λr s5=>r = .ok .next /\ ∃ m,m < n /\ I m s5) s4) (λ_ _=>False) s3) (λ_ _=>False) s2) (λ_ _=>False) s1') (λ_ _=>False) s1) (λ_ _=>False) s)
(n:Nat) (h:I n s):codeAny (model prog w) A (.compLoop (comp2 elt t1 i1 t2 i2 scope pos) 0 it acc env) R s:=by
 refine codeAny_loop rfl I (λn s hI=>?_) n h
 show wpAny _ A ((compTurn (comp2 elt t1 i1 t2 i2 scope pos) 0 it acc env).onRaise (λx=>do noteFrame x env;theTreesLotGoes x)) _ _ s
 refine wpAny_noted ?_;unfold compTurn;dsimp only [comp2,List.getElem?_cons_zero,List.getElem?_cons_succ];refine wpAny_bind (wpAny_standAt ?_);rw [if_neg (by decide)];refine wpAny_bind (wpAny_mono (turn n s hI) (λr s1 h1=>?_) λ_ _ h'=>h'.elim)
 cases r with
 | none=>exact wpAny_pure h1
 | some v =>
  refine wpAny_bind (wpAny_mono h1 (λ_ s1' h1'=>?_) λ_ _ h'=>h'.elim);refine wpAny_bind (wpAny_mono h1' (λ_ s2 h2=>?_) λ_ _ h'=>h'.elim);refine wpAny_bind (wpAny_tests_nil ?_);rw [if_pos rfl];refine wpAny_bind (wpAny_mono h2 (λx s3 h3=>?_) λ_ _ h'=>h'.elim);refine wpAny_bind (wpAny_standAt ?_);rw [if_neg (by decide),hs x];refine wpAny_bind (wpAny_pure ?_);refine wpAny_bind (wpAny_holding ?_);rw [if_neg (by decide)];refine wpAny_mono h3 (λjt s4 h4=>?_) λ_ _ h'=>h'.elim
  refine wpAny_bind (wpAny_runOwn ?_);rw [Xnf];refine codeAny_mono h4 λr s5 h5=>?_
  obtain ⟨rfl,h5⟩:=h5;exact wpAny_pure ⟨rfl,h5⟩
theorem Xer (I:Nat -> Shared -> Prop)
(turn:∀ n s,I n s -> wpAny (model prog w) A (pyNext it) (λr s1=>match r with
   | none=>R (.ok .next) s1
   | some v=>wpAny (model prog w) A (letOwnedTupleGo t2 it v) (λ_ s1'=>wpAny (model prog w) A (assign t2 env v) (λ_ s2 =>
wpAny (model prog w) A (eval elt env) (λx s4=>wpAny (model prog w) A (call (.builtin "list.append") [acc,x]) (λ_ s5=>∃ m,m < n /\ I m s5) (λ_ _=>False) s4) (λ_ _=>False) s2) (λ_ _=>False) s1') (λ_ _=>False) s1) (λ_ _=>False) s)
(n:Nat) (h:I n s):codeAny (model prog w) A (.compLoop (comp2 elt t1 i1 t2 i2 scope pos) 1 it acc env) R s:=by
 refine codeAny_loop rfl I (λn s hI=>?_) n h
 show wpAny _ A ((compTurn (comp2 elt t1 i1 t2 i2 scope pos) 1 it acc env).onRaise (λx=>do noteFrame x env;theTreesLotGoes x)) _ _ s
 refine wpAny_noted ?_;rw [Xep];refine wpAny_bind (wpAny_standAt (wpAny_bind (wpAny_mono (turn n s hI) (λr s1 h1=>?_) λ_ _ h'=>h'.elim)))
 cases r with
 | none=>exact wpAny_pure h1
 | some v =>
  refine wpAny_bind (wpAny_mono h1 (λ_ s1' h1'=>?_) λ_ _ h'=>h'.elim);refine wpAny_bind (wpAny_mono h1' (λ_ s2 h2=>?_) λ_ _ h'=>h'.elim);exact wpAny_bind (wpAny_bind (wpAny_mono h2 (λx s4 h4=>wpAny_bind (wpAny_mono h4 (λ_ s5 h5=>wpAny_pure (wpAny_pure ⟨rfl,h5⟩)) λ_ _ h'=>h'.elim)) λ_ _ h'=>h'.elim))
theorem Xdp (h0:codeAny (model prog w) A (.compLoop (comp2 elt t1 i1 t2 i2 scope pos) 1 it acc env) R s)
(h:wpAny (model prog w) A (pyIter it) (λit' s'=>codeAny (model prog w) A (.compLoop (comp2 elt t1 i1 t2 i2 scope pos) 1 it' acc env) R s')
(notedBy (model prog w) A env λx s'=>R (.error x) s') s):codeAny (model prog w) A (.compStart (comp2 elt t1 i1 t2 i2 scope pos) 1 it acc env) R s:=by
 refine codeAny_of_tree ?_
 show wpAny _ _ ((compStart (comp2 elt t1 i1 t2 i2 scope pos) 1 it acc env).onRaise (λx=>do noteFrame x env;standAt theWindowsPlace)) _ _ s
 refine wpAny_notedAt ?_;unfold compStart
 show wpAny _ _ (ask >>= _) _ _ s
 refine wpAny_bind (wpAny_askSetting (wpAny_ite ?_))
 split
 ·first
   | exact wpAny_bind (wpAny_pure (wpAny_pure (And.intro rfl h0)))
   | exact wpAny_pure (And.intro rfl h0)
 ·first
   | exact wpAny_bind (wpAny_rule (wpAny_bind (wpAny_standAt (wpAny_bind (wpAny_mono h (λit' s' h'=>wpAny_pure (And.intro rfl h')) λ_ _ x=>x)))))
   | (refine wpAny_bind (wpAny_rule ?_);show wpAny _ _ (standAt i2.pos >>= _) _ _ s;exact wpAny_bind (wpAny_standAt (wpAny_bind (wpAny_mono h (λit' s' h'=>wpAny_pure (And.intro rfl h')) λ_ _ x=>x))))
end
def Xoq (J:It) (D:Addr) (g:TG) (tel:TE) (σ0:L2.St) (H0:Hp) (QN:L2.St -> Hp -> Prop):Prop :=
 ∃ W:Nat -> Nat -> L2.St -> Hp -> Prop,(∃ m,W 0 m σ0 H0) /\ ∀ i m σ H,W i m σ H ->
  (J.stop i H /\ QN σ H) \/ (J.go i H /\ ∃ N:L2.St -> Hp -> Prop,(∀ σ' H',N σ' H' -> ∃ m',m' < m /\ W (i + 1) m' σ' H') /\
   ∀ x H',J.yld i H x H' -> g x σ H' λσ2 H2=>tel σ2 H2 λy H4=>∃ zs,H4 D = some (.lst zs) /\ zs.length < sizeLine /\ N σ2 (upd H4 D (.lst (zs ++ [y]))))
def Xos (J:It) (D:Addr) (g1:TG) (wi:TI) (g2:TG) (tel:TE) (σ0:L2.St) (H0:Hp) (QD:Hp -> Prop):Prop :=
 ∃ W:Nat -> Nat -> L2.St -> Hp -> Prop,(∃ m,W 0 m σ0 H0) /\ ∀ i m σ H,W i m σ H ->
  (J.stop i H /\ QD H) \/ (J.go i H /\ ∃ N:L2.St -> Hp -> Prop,(∀ σ' H',N σ' H' -> ∃ m',m' < m /\ W (i + 1) m' σ' H') /\
   ∀ x H',J.yld i H x H' -> g1 x σ H' λσ2 H2=>wi σ2 H2 λJ2 H3=>Xoq J2 D g2 tel σ2 H3 N)
section
variable {Y:Cx} {pins:List (Addr × Obj)} {σ:L2.St} {H:Hp} {s:Shared} {fp:List Addr} {elt t1 i1 t2 i2:Expr} {scope:Scope} {pos:Pos} {g:TG} {tel:TE} {J:It} {it D:Addr} {tn:Nat -> Heap -> Prop} {QN:L2.St -> Hp -> Prop}
theorem Xlh (I:L2.Inv Y pins σ H s) (hc:Y.calm = true) (hx:∀ v s,Y.xe v s -> False) (T:Turn Y.prog Y.w Y.K t2 J fp it tn) (st:tn 0 s.heap) (hf:∀ b ∈ fp,FpOk Y pins H b) (hg:PG Y t2 g) (hel:PE Y elt tel) (hw:Xoq J D g tel σ H QN) :
codeAny (model Y.prog Y.w) Y.A (.compStart (comp2 elt t1 i1 t2 i2 scope pos) 1 (.ref it) (.ref D) Y.env) (λr s'=>r = .ok .next /\ ∃ σ' H',L2.Inv Y pins σ' H' s' /\ QN σ' H') s:=by
 obtain ⟨W,⟨m0,w0⟩,turn⟩:=hw;have stat:∀ {H':Hp},(∀ b ∈ fp,H' b = none) -> ∀ b ∈ fp,FpOk Y pins H' b:=λhn b hb=>⟨hn b hb,(hf b hb).2⟩
 have loop:codeAny (model Y.prog Y.w) Y.A (.compLoop (comp2 elt t1 i1 t2 i2 scope pos) 1 (.ref it) (.ref D) Y.env) (λr s'=>r = .ok .next /\ ∃ σ' H',L2.Inv Y pins σ' H' s' /\ QN σ' H') s:=by
  refine Xer (λn s'=>∃ i σ' H',L2.Inv Y pins σ' H' s' /\ tn i s'.heap /\ (∀ b ∈ fp,H' b = none) /\ W i n σ' H') ?_ m0 ⟨0,σ,H,I,st,λb hb=>(hf b hb).1,w0⟩;rintro n s3 ⟨i,σ3,H3,I3,st3,fr3,w3⟩
  rcases turn i n σ3 H3 w3 with ⟨stop,qn⟩ | ⟨go,N,hN,step⟩
  ·refine thn (T.done Y rfl rfl rfl hc i pins s3 σ3 H3 _ I3 (stat fr3) st3 stop) λr s4 ⟨hr,I4⟩=>?_
   subst hr;exact ⟨rfl,σ3,H3,I4,qn⟩
  ·refine thn (T.item Y rfl rfl rfl hc i pins s3 σ3 H3 _ I3 (stat fr3) st3 go) λr s4 ⟨u,hr,h4⟩=>?_
   subst hr;refine thn h4 λ_ s5 ⟨x,H5,I5,r5,y5,st5,fr5⟩=>?_
   have I5':=I5.pinned (stat fr5) (T.obj _ _ st5);refine wpAny_mono (hg _ s5 σ3 H5 x u _ I5' r5 (step x H5 y5)) (λ_ s6 ⟨σ6,H6,I6,q6⟩=>?_) λ_ _ z=>hx _ _ z
   have again:∀ {s7:Shared} {σ7:L2.St} {H7:Hp},L2.Inv Y (pins ++ Xdh fp s5.heap) σ7 H7 s7 -> N σ7 H7 -> ∃ m,m < n /\ ∃ i σ' H',L2.Inv Y pins σ' H' s7 /\ tn i s7.heap /\ (∀ b ∈ fp,H' b = none) /\ W i m σ' H':=λ{s7 σ7 H7} I7 n7=>by
    obtain ⟨m',hm,w7⟩:=hN σ7 H7 n7;refine ⟨m',hm,i + 1,σ7,H7,I7.unpinned,T.keep _ _ _ st5 λb hb' o e=>(I7.pin (b,o) (List.mem_append_right _ (List.mem_append_right _ (Xak hb' e)))).1,λb hb'=>?_,w7⟩;obtain ⟨o,e,d⟩:=T.obj _ _ st5 b hb';exact (I7.pin (b,o) (List.mem_append_right _ (List.mem_append_right _ (Xak hb' e)))).2.1
   refine wpAny_mono (hel _ s6 σ6 H6 _ I6 q6) (λu8 s8 ⟨y,H8,I8,r8,zs,hz,hl,q8⟩=>?_) λ_ _ z=>hx _ _ z
   refine wpAny_mono (Xeb (X:=Y) _ s8 σ6 H8 (.ref D) [y] (.ref D) [u8] (λv H'=>H' = upd H8 D (.lst (zs ++ [y]))) I8 rfl (.cons r8 .nil) ⟨D,zs,y,rfl,rfl,hz,hl,rfl⟩) (λ_ s9 ⟨v9,H9,I9,r9,e9⟩=>?_) λ_ _ z=>hx _ _ z
   subst e9;exact again I9 q8
 exact Xdp loop (T.self _ 0 _ _ _ st loop)
end
section
variable {X:Cx} {pins:List (Addr × Obj)} {σ:L2.St} {H:Hp} {s:Shared} {scope:Scope} {N':List Str} {cl:List (Str × Addr)} {fp:List Addr} {elt t1 i1 t2 i2:Expr} {pos:Pos} {g1 g2:TG} {wi:TI} {tel:TE} {nT:Nat} {J:It} {it D:Addr} {tn:Nat -> Heap -> Prop}
theorem Xiz {E:Value -> Shared -> Prop} (I:L2.Inv X pins σ H s) (hc:X.calm = true) (hk:scope.kind = .function) (hcell:∀ y ∈ scope.names,y.2 ≠ .cell) (hcl:ClOk X scope cl) (cap:CapOk X scope nT N')
(T:Turn X.prog X.w X.K t1 J fp it tn) (st:tn 0 s.heap) (hf:∀ b ∈ fp,FpOk X pins H b)
(hg1:∀ s3 H3 C cl fp,PG (compX X scope N' s3 H3 C cl fp) t1 g1) (hi2:∀ s3 H3 C cl fp,PI (compX X scope N' s3 H3 C cl fp) t2 i2 wi) (hg2:∀ s3 H3 C cl fp,PG (compX X scope N' s3 H3 C cl fp) t2 g2) (hel:∀ s3 H3 C cl fp,PE (compX X scope N' s3 H3 C cl fp) elt tel)
(hs2:∀ env x,foldedSetIterable i2 env x = pure x)
{QD:Hp -> Prop} (hw:Xos J D g1 wi g2 tel (List.replicate nT none ++ some (.ref D) :: σ) H QD) {RR:Addr -> Result -> Shared -> Prop}
(hRR:∀ C s' H' σ' pins',s.heap.objs.size <= C -> L2.Inv (compX X scope N' s H C cl fp) pins' σ' H' s' -> QD H' -> RR C (.ok .next) s') :
wpAny (model X.prog X.w) X.A (newFunctionEnv scope X.env.globals cl [] X.env.qual none .none (some X.env)) (λcenv s4 =>
codeAny (model X.prog X.w) X.A (.compStart (comp2 elt t1 i1 t2 i2 scope pos) 0 (.ref it) (.ref D) { cenv with scope:=relabel scope X.env }) (RR cenv.locals) s4) E s:=by
 refine wpAny_newFunctionEnv hcell (by intro y hy;simp at hy) (λh1 ns sb=>?_) hk
 try dsimp only at ns sb ⊢
 have hC:s.heap.objs.size <= s.heap.objs.size:=Nat.le_refl _;have k:∀ b o,s.heap.get? b = some o -> h1.get? b = some o:=λb o e=>sb.extBut b o (Nat.ne_of_lt (Heap.lt_size e)) (Heap.get?_push_of_some _ e)
 have hb:∀ b ∈ fp,b < s.heap.objs.size:=λb hb=>by obtain ⟨o,e,_⟩:=T.obj _ _ st b hb;exact Heap.lt_size e
 have I0:L2.Inv (compX X scope N' s H s.heap.objs.size cl fp) [] (List.replicate nT none ++ some (.ref D) :: σ) H { s with heap:=h1,toks:=s.toks + ([]:List (Str × Value)).length } :=
  Xgp I hc hk hcl hC hf hb cap k ns
 have st1:tn 0 h1:=T.keep _ _ _ st λb _ o e=>k b o e
 obtain ⟨W,⟨m0,w0⟩,turn⟩:=hw;have stat:∀ {H':Hp},(∀ b ∈ fp,H' b = none) -> ∀ b ∈ fp,FpOk (compX X scope N' s H s.heap.objs.size cl fp) [] H' b:=λhn b hb' =>
  ⟨hn b hb',Nat.ne_of_lt (hb b hb'),I0.ok.exfs b hb',.inl hb',(I0.ok.exf b hb').2,λp hp=>nomatch hp⟩
 have loop:codeAny (model X.prog X.w) X.A (.compLoop (comp2 elt t1 i1 t2 i2 scope pos) 0 (.ref it) (.ref D) (compEnvC scope cl s.heap.objs.size X.env)) (RR s.heap.objs.size) { s with heap:=h1,toks:=s.toks + ([]:List (Str × Value)).length }:=by
  refine Xeq (λn s'=>∃ i σ' H',L2.Inv (compX X scope N' s H s.heap.objs.size cl fp) [] σ' H' s' /\ tn i s'.heap /\ (∀ b ∈ fp,H' b = none) /\ W i n σ' H') (hs2 _) ?_ m0 ⟨0,_,H,I0,st1,λb hb'=>(hf b hb').1,w0⟩;rintro n s3 ⟨i,σ3,H3,I3,st3,fr3,w3⟩
  rcases turn i n σ3 H3 w3 with ⟨stop,qn⟩ | ⟨go,N,hN,step⟩
  ·refine thn (T.done (compX X scope N' s H s.heap.objs.size cl fp) rfl rfl rfl hc i [] s3 σ3 H3 _ I3 (stat fr3) st3 stop) λr s4 ⟨hr,I4⟩=>?_
   subst hr;exact hRR _ s4 H3 σ3 [] hC I4 qn
  ·refine thn (T.item (compX X scope N' s H s.heap.objs.size cl fp) rfl rfl rfl hc i [] s3 σ3 H3 _ I3 (stat fr3) st3 go) λr s4 ⟨u,hr,h4⟩=>?_
   subst hr;refine thn h4 λ_ s5 ⟨x,H5,I5,r5,y5,st5,fr5⟩=>?_
   have I5':=I5.pinned (stat fr5) (T.obj _ _ st5);refine wpAny_mono (hg1 s H s.heap.objs.size cl fp _ s5 σ3 H5 x u _ I5' r5 (step x H5 y5)) (λ_ s6 ⟨σ6,H6,I6,q6⟩=>?_) λ_ _ z=>z.elim
   have again:∀ {s7:Shared} {σ7:L2.St} {H7:Hp},L2.Inv (compX X scope N' s H s.heap.objs.size cl fp) ([] ++ Xdh fp s5.heap) σ7 H7 s7 -> N σ7 H7 -> ∃ m,m < n /\ ∃ i σ' H',L2.Inv (compX X scope N' s H s.heap.objs.size cl fp) [] σ' H' s7 /\ tn i s7.heap /\ (∀ b ∈ fp,H' b = none) /\ W i m σ' H':=λ{s7 σ7 H7} I7 n7=>by
    obtain ⟨m',hm,w7⟩:=hN σ7 H7 n7;refine ⟨m',hm,i + 1,σ7,H7,I7.unpinned,T.keep _ _ _ st5 λb hb' o e=>(I7.pin (b,o) (List.mem_append_right _ (List.mem_append_right _ (Xak hb' e)))).1,λb hb'=>?_,w7⟩;obtain ⟨o,e,d⟩:=T.obj _ _ st5 b hb';exact (I7.pin (b,o) (List.mem_append_right _ (List.mem_append_right _ (Xak hb' e)))).2.1
   refine wpAny_mono (hi2 s H s.heap.objs.size cl fp _ s6 σ6 H6 _ I6 q6) (λv7 s7 h7=>?_) λ_ _ z=>z.elim
   refine wpAny_mono h7 (λitv s8 h8=>?_) λ_ _ z=>z.elim
   obtain ⟨it2,fp2,tn2,J2,H8,e8,I8,T2,st8,f8,W2⟩:=h8;subst e8;refine codeAny_mono (Xlh (Y:=compX X scope N' s H s.heap.objs.size cl fp) I8 hc (λ_ _ z=>z) T2 st8 f8 (hg2 s H s.heap.objs.size cl fp) (hel s H s.heap.objs.size cl fp) W2) λr s9 h9=>?_
   obtain ⟨rfl,σ9,H9,I9,q9⟩:=h9;exact ⟨rfl,again I9 q9⟩
 exact codeAny_compStart_list loop (T.self _ 0 _ _ _ st1 loop)
def Xum (nT:Nat) (wi1:TI) (g1:TG) (wi:TI) (g2:TG) (tel:TE):TE:=λσ H Q=>wi1 σ H λJ H1=>∀ D,H1 D = none -> Xos J D g1 wi g2 tel (List.replicate nT none ++ some (.ref D) :: σ) (upd H1 D (.lst [])) (λH'=>Q (.ref D) H')
end
def innD (g:RGp) (tel:RE) (δ:List Sl):List D -> List Sl -> List D -> (List Sl -> List D -> Prop) -> Prop
 | [],pre,acc,K=>K pre acc
 | y :: ys,pre,acc,K=>g y pre λpre'=>tel (pre' ++ .ow (.lst acc) :: δ) λv=>acc.length < sizeLine /\ innD g tel δ ys pre' (acc ++ [v]) K
def Xfs (g1:RGp) (te2:RE) (g2:RGp) (tel:RE) (δ:List Sl):List D -> List Sl -> List D -> (List D -> Prop) -> Prop
 | [],_,acc,Q=>Q acc
 | x :: xs,pre,acc,Q=>g1 x pre λpre'=>te2 (pre' ++ .ow (.lst acc) :: δ) λd=>match d with
  | .lst ys=>innD g2 tel δ ys pre' acc λpre'' acc'=>Xfs g1 te2 g2 tel δ xs pre'' acc' Q
  | _=>False
def Xur (nT:Nat) (te:RE) (g1:RGp) (te2:RE) (g2:RGp) (tel:RE) (δ:List Sl) (Q:D -> Prop):Prop:=te δ λd=>match d with
 | .lst xs=>Xfs g1 te2 g2 tel δ xs (List.replicate nT .un) [] (λacc=>Q (.lst acc))
 | _=>False
section
variable {X:Cx} {H0:Hp} {nT:Nat} {g1 g2:RGp} {te te2 tel:RE} {pos:Pos} {elt t1 i1 t2 i2:Expr} {scope:Scope} {N':List Str}
theorem Xlg {σ ps:L2.St} {δ pre:List Sl} {G1 H1 HB:Hp} {a D:Addr} {ws:List V} {ys:List M.D} {acc:List M.D} {KQ:List Sl -> List M.D -> Prop} {QN:L2.St -> Hp -> Prop} (hD:HB D = none) (sh0:Same HB H1) (l1:ps.length = nT) (l2:pre.length = nT) (no:NoOwn pre)
(hs:Hs X.K H0 (ps ++ some (.ref D) :: σ) (pre ++ .ow (.lst acc) :: δ) G1 H1) (h2:SqL X.K G1 a ws) (h3:Reps X.K G1 ys ws) (q:innD g2 tel δ ys pre acc KQ)
(k:∀ ps' pre' acc' G' H',ps'.length = nT -> pre'.length = nT -> NoOwn pre' -> Hs X.K H0 (ps' ++ some (.ref D) :: σ) (pre' ++ .ow (.lst acc') :: δ) G' H' -> Same G1 G' -> Same HB H' -> KQ pre' acc' -> QN (ps' ++ some (.ref D) :: σ) H') :
Xoq (Itl X.K a) D (Xbd X.K H0 nT g2) (liftE X.K H0 tel) (ps ++ some (.ref D) :: σ) H1 QN:=by
 have smD:∀ {H':Hp} {o:HO},Same HB H' -> Same HB (upd H' D o):=λ{H' o} s b u e=>by rw [Xad (Xaf e hD)];exact s b u e
 refine ⟨λi m σ' H'=>m = ws.length - i /\ i <= ws.length /\ ∃ ps pre acc G',σ' = ps ++ some (.ref D) :: σ /\ ps.length = nT /\ pre.length = nT /\ NoOwn pre /\ Hs X.K H0 σ' (pre ++ .ow (.lst acc) :: δ) G' H' /\ Same G1 G' /\ Same HB H' /\ innD g2 tel δ (ys.drop i) pre acc KQ,
  ⟨ws.length,by simp,Nat.zero_le _,ps,pre,acc,G1,rfl,l1,l2,no,hs,Same.refl _,sh0,q⟩,?_⟩
 rintro i m σ' H' ⟨rfl,hi,ps,pre,acc,G',rfl,l1,l2,no,h',sg,sh,q'⟩;have sq:SqL X.K H' a ws:=h'.sub.seq (sg.seq h2)
 by_cases hlt:i < ws.length
 ·have hx:ws[i]? = some ws[i]:=by simp [hlt]
  obtain ⟨d,ed,rd⟩:=h3.getV hx;have hxs:i < ys.length:=(List.getElem?_eq_some_iff.mp ed).1;have edx:ys.drop i = d :: ys.drop (i + 1):=by
   rw [List.drop_eq_getElem_cons hxs];rw [List.getElem?_eq_getElem hxs] at ed;cases ed;rfl
  rw [edx] at q';refine .inr ⟨⟨ws,ws[i],sq,hx⟩,λσ2 H2=>∃ ps pre acc G',σ2 = ps ++ some (.ref D) :: σ /\ ps.length = nT /\ pre.length = nT /\ NoOwn pre /\ Hs X.K H0 σ2 (pre ++ .ow (.lst acc) :: δ) G' H2 /\ Same G1 G' /\ Same HB H2 /\ innD g2 tel δ (ys.drop (i + 1)) pre acc KQ,λσ2 H2 z=>⟨ws.length - (i + 1),by omega,rfl,hlt,z⟩,λx H2 y=>?_⟩;obtain ⟨e,y⟩:=y;subst e;have ey:ws[i] = x:=by
   have:=y ws sq;rw [hx] at this;exact Option.some.inj this
  refine ⟨ps,_,pre,.ow (.lst acc) :: δ,G',d,_,rfl,l1,l2,no,h',by rw [<- ey];exact Rep.mono sg _ _ rd,q',λps1 pre1 a1 a2 a3 h1 q1=>?_⟩;refine ⟨_,G',_,h1,q1,λy H4 G4 dy n4 r4 q4=>?_⟩;have e0:(pre1 ++ Sl.ow (.lst acc) :: δ)[nT]? = some (.ow (.lst acc)):=Xbl a2 _;have e1:(ps1 ++ some (V.ref D) :: σ)[nT]? = some (some (.ref D)):=Xbl a1 _;obtain ⟨p,e2,zs,g1',g2'⟩:=n4.hs.ow nT _ e0;rw [e1] at e2;cases e2;refine ⟨zs,g1',by rw [<- g2'.length];exact q4.1,ps1,pre1,acc ++ [dy],G4,rfl,a1,a2,a3,?_,sg.trans n4.g,smD (sh.trans n4.h),q4.2⟩;have hw:=n4.hs.write (d':=.lst (acc ++ [dy])) e0 e1 ⟨_,Xac,Reps.append g2' (Reps.cons r4 Reps.nil)⟩;rw [Xfz a2] at hw;exact hw
 ·have e:i = ws.length:=by omega
  subst e;refine .inl ⟨⟨ws,sq,Nat.le_refl _⟩,?_⟩;rw [List.drop_of_length_le (by rw [h3.length];exact Nat.le_refl _)] at q';exact k ps pre acc G' H' l1 l2 no h' sg sh q'
theorem Xlk {σ:L2.St} {δ:List Sl} {G1 H1:Hp} {a D:Addr} {ws:List V} {xs:List M.D} {Qd:List M.D -> Prop} {QD:Hp -> Prop} (hs:Hs X.K H0 σ δ G1 H1) (h2:SqL X.K G1 a ws) (h3:Reps X.K G1 xs ws) (hD:H1 D = none)
(q:Xfs g1 te2 g2 tel δ xs (List.replicate nT .un) [] Qd) (k:∀ H' G' acc,Hs X.K H0 (some (.ref D) :: σ) (.ow (.lst acc) :: δ) G' H' -> Same G1 G' -> Same H1 H' -> Qd acc -> QD H') :
Xos (Itl X.K a) D (Xbd X.K H0 nT g1) (iList X.K (liftE X.K H0 te2)) (Xbd X.K H0 nT g2) (liftE X.K H0 tel) (List.replicate nT none ++ some (.ref D) :: σ) (upd H1 D (.lst [])) QD:=by
 have smD:∀ {H':Hp} {o:HO},Same H1 H' -> Same H1 (upd H' D o):=λ{H' o} s b u e=>by rw [Xad (Xaf e hD)];exact s b u e
 refine ⟨λi m σ' H'=>m = ws.length - i /\ i <= ws.length /\ ∃ ps pre acc G',σ' = ps ++ some (.ref D) :: σ /\ ps.length = nT /\ pre.length = nT /\ NoOwn pre /\ Hs X.K H0 σ' (pre ++ .ow (.lst acc) :: δ) G' H' /\ Same G1 G' /\ Same H1 H' /\ Xfs g1 te2 g2 tel δ (xs.drop i) pre acc Qd,
  ⟨ws.length,by simp,Nat.zero_le _,List.replicate nT none,List.replicate nT .un,[],G1,rfl,by simp,by simp,Xdr nT,(hs.fresh (d:=.lst []) (o:=.lst []) hD ⟨[],Xac,Reps.nil⟩).uns nT,Same.refl _,smD (Same.refl _),q⟩,?_⟩
 rintro i m σ' H' ⟨rfl,hi,ps,pre,acc,G',rfl,l1,l2,no,h',sg,sh,q'⟩;have sq:SqL X.K H' a ws:=h'.sub.seq (sg.seq h2)
 by_cases hlt:i < ws.length
 ·have hx:ws[i]? = some ws[i]:=by simp [hlt]
  obtain ⟨d,ed,rd⟩:=h3.getV hx;have hxs:i < xs.length:=(List.getElem?_eq_some_iff.mp ed).1;have edx:xs.drop i = d :: xs.drop (i + 1):=by
   rw [List.drop_eq_getElem_cons hxs];rw [List.getElem?_eq_getElem hxs] at ed;cases ed;rfl
  rw [edx] at q';refine .inr ⟨⟨ws,ws[i],sq,hx⟩,λσ2 H2=>∃ ps pre acc G',σ2 = ps ++ some (.ref D) :: σ /\ ps.length = nT /\ pre.length = nT /\ NoOwn pre /\ Hs X.K H0 σ2 (pre ++ .ow (.lst acc) :: δ) G' H2 /\ Same G1 G' /\ Same H1 H2 /\ Xfs g1 te2 g2 tel δ (xs.drop (i + 1)) pre acc Qd,λσ2 H2 z=>⟨ws.length - (i + 1),by omega,rfl,hlt,z⟩,λx H2 y=>?_⟩;obtain ⟨e,y⟩:=y;subst e;have ey:ws[i] = x:=by
   have:=y ws sq;rw [hx] at this;exact Option.some.inj this
  refine ⟨ps,_,pre,.ow (.lst acc) :: δ,G',d,_,rfl,l1,l2,no,h',by rw [<- ey];exact Rep.mono sg _ _ rd,q',λps1 pre1 a1 a2 a3 h1 q1=>?_⟩;refine ⟨_,G',_,h1,q1,λv H3 G3 d3 n3 r3 q3=>?_⟩
  cases d3 with
  | lst ys =>
   simp only [Rep] at r3;obtain ⟨b,vs,rfl,hb2,hb3⟩:=r3;refine ⟨b,rfl,⟨vs,n3.hs.sub.seq hb2⟩,?_⟩;exact Xlg hD (sh.trans n3.h) a1 a2 a3 n3.hs hb2 hb3 q3 λps' pre' acc' G4 H4 b1 b2 b3 h4 s4 sh4 q4=>⟨ps',pre',acc',G4,rfl,b1,b2,b3,h4,(sg.trans n3.g).trans s4,sh4,q4⟩
  | _=>exact q3.elim
 ·have e:i = ws.length:=by omega
  subst e;refine .inl ⟨⟨ws,sq,Nat.le_refl _⟩,?_⟩;rw [List.drop_of_length_le (by rw [h3.length];exact Nat.le_refl _)] at q';exact k H' G' acc (Hs.drops (by rw [l1,l2]) no h') sg sh q'
end
section
variable {X:Cx} {H0:Hp} {e a:Expr} {es:List Expr} {tr:RA} {te:RE} {pos p:Pos}
def rInQ (K:PySem.W.Frag):R2:=λx y H Q=>∃ d p ds ys,Xaa 50 d = true /\ ds.all (Xaa 50) = true /\ Rep K H d x /\ y = .ref p /\ SqT K H p ys /\ Reps K H ds ys /\ Q (.bl (inD d ds)) H
theorem Xvo (hu:X.A.units + 64 < cLine):OpR X (compareOp .In) (rInQ X.K):=by
 intro pins s σ H x y v u Q I rx ry h;obtain ⟨d,p,ds,ys,pd,pds,rd,rfl,hq,rds,q⟩:=h;cases ry;obtain ⟨its,r,pl,hz⟩:=I.tuple hq;refine SeqAt.in_tupleAt (inE X.K H d ds) pl (λw hw=>?_) ⟨.bl _,H,I,rfl,?_⟩
 ·obtain ⟨d',hd',v',r',ru'⟩:=Xjj rds r w (by simpa using hw)
  rw [Xrg I pds hd' r' ru'];rw [List.all_eq_true] at pds;exact (Xjc I 50 X.A.in1 d' d v' x w v (by have : X.A.in1.units <= X.A.units + 1:=(by first | exact Nat.le_refl _ | simp [Around.in1]);omega) (pds d' hd') pd r' rd ru' rx).2
 ·rw [show its.toArray.any (inE X.K H d ds) = its.any (inE X.K H d ds) by simp,Xoo I pds (λ_ z=>z) rds r]
  exact q
def dInQ (x y:D) (Q:D -> Prop):Prop:=match y with
 | .tup ys=>Xaa 50 x = true /\ ys.all (Xaa 50) = true /\ Q (.bl (inD x ys))
 | _=>False
theorem Xvy {K:PySem.W.Frag}:Lf2 K (rInQ K) dInQ:=λH0 σ δ G H x y dx dy Qd Q hs rx ry h k=>by
 cases dy with
 | tup ys =>
  have r:=ry.all hs.sub;simp only [Rep] at r;obtain ⟨a,vs,rfl,h2,h3⟩:=r;exact ⟨dx,a,ys,vs,h.1,h.2.1,rx.all hs.sub,rfl,SqT.of h2,h3,k _ H G _ (Nx.refl hs) (by simp only [Rep]) h.2.2⟩
 | _=>exact h.elim
def rMinV (K:PySem.W.Frag):List V -> Hp -> VK -> Prop:=λxs H Q=>∃ a ns,xs = [.ref a] /\ SqL K H a (List.map V.int ns) /\ 0 < ns.length /\ ∀ m,m ∈ ns -> (∀ n ∈ ns,m <= n) -> Q (.int m) H
def rMaxV (K:PySem.W.Frag):List V -> Hp -> VK -> Prop:=λxs H Q=>∃ a ns,xs = [.ref a] /\ SqL K H a (List.map V.int ns) /\ 0 < ns.length /\ ∀ m,m ∈ ns -> (∀ n ∈ ns,n <= m) -> Q (.int m) H
theorem Xoj (hc:X.calm = true):CallR X (.builtin "min") (rMinV X.K):=by
  intro pins s σ H xs us Q I r h;obtain ⟨a,ns,rfl,hq,hne,q⟩:=h
  cases r with
  | cons r1 r =>
    cases r;cases (show _ = Value.ref a from r1);obtain ⟨its,rv,pl,_⟩:=I.list hq;obtain ⟨ps,rfl,hp⟩:=vals_ints rv;have hl:ps.length = ns.length:=by rw [<- hp,List.length_map]
    refine min_intList (xs:=ps.toArray) (I.ok.hd hc) (by simpa [intItems] using pl.isList) (by simpa [hl] using hne) λv h' tk hv hk=>?_
    obtain ⟨t,rfl⟩:=intItems_at hv;obtain ⟨h1,h2⟩:=argBest_lt (numAt ps.toArray) (ps.toArray.size - 1);have key:∀ j,numAt ps.toArray j = ns.getD j 0:=λj=>by rw [numAt_eq,<- hp]
    refine ⟨.int _,H,I.kept (t':=tk) hk,⟨t,rfl⟩,q _ ?_ λn hn=>?_⟩
    · rw [key]
      have hj:argBest (λi j=>decide (numAt ps.toArray i < numAt ps.toArray j)) (ps.toArray.size - 1) < ns.length:=by
        have : ps.toArray.size = ns.length:=by simpa using hl
        omega
      rw [List.getD_eq_getElem?_getD,List.getElem?_eq_getElem hj];exact List.getElem_mem hj
    · obtain ⟨j,hj,rfl⟩:=List.getElem_of_mem hn
      have:=h2 j (by have : ps.toArray.size = ns.length:=(by simpa using hl);omega)
      rw [key j,List.getD_eq_getElem?_getD,List.getElem?_eq_getElem hj] at this;exact this
theorem Xol (hc:X.calm = true):CallR X (.builtin "max") (rMaxV X.K):=by
  intro pins s σ H xs us Q I r h;obtain ⟨a,ns,rfl,hq,hne,q⟩:=h
  cases r with
  | cons r1 r =>
    cases r;cases (show _ = Value.ref a from r1);obtain ⟨its,rv,pl,_⟩:=I.list hq;obtain ⟨ps,rfl,hp⟩:=vals_ints rv;have hl:ps.length = ns.length:=by rw [<- hp,List.length_map]
    refine max_intList (xs:=ps.toArray) (I.ok.hd hc) (by simpa [intItems] using pl.isList) (by simpa [hl] using hne) λv h' tk hv hk=>?_
    obtain ⟨t,rfl⟩:=intItems_at hv;obtain ⟨h1,h2⟩:=argBest_gt (numAt ps.toArray) (ps.toArray.size - 1);have key:∀ j,numAt ps.toArray j = ns.getD j 0:=λj=>by rw [numAt_eq,<- hp]
    refine ⟨.int _,H,I.kept (t':=tk) hk,⟨t,rfl⟩,q _ ?_ λn hn=>?_⟩
    · rw [key]
      have hj:argBest (λi j=>decide (numAt ps.toArray i > numAt ps.toArray j)) (ps.toArray.size - 1) < ns.length:=by
        have : ps.toArray.size = ns.length:=by simpa using hl
        omega
      rw [List.getD_eq_getElem?_getD,List.getElem?_eq_getElem hj];exact List.getElem_mem hj
    · obtain ⟨j,hj,rfl⟩:=List.getElem_of_mem hn
      have:=h2 j (by have : ps.toArray.size = ns.length:=(by simpa using hl);omega)
      rw [key j,List.getD_eq_getElem?_getD,List.getElem?_eq_getElem hj] at this;exact this
def dMin (ds:List D) (Q:D -> Prop):Prop:=∃ ns:List Int,ds = [.lst (ns.map D.int)] /\ 0 < ns.length /\ ∀ m,m ∈ ns -> (∀ n ∈ ns,m <= n) -> Q (.int m)
def dMax (ds:List D) (Q:D -> Prop):Prop:=∃ ns:List Int,ds = [.lst (ns.map D.int)] /\ 0 < ns.length /\ ∀ m,m ∈ ns -> (∀ n ∈ ns,n <= m) -> Q (.int m)
theorem Xte {K:PySem.W.Frag}:LfC K (rMinV K) dMin:=λH0 σ δ G H vs ds Qd Q hs r h k=>by
 obtain ⟨ns,rfl,hne,q⟩:=h;obtain ⟨v,rr,rfl,⟨a,ws,rfl,h2,h3⟩,h4⟩:=r;obtain rfl:rr = []:=h4;rw [Reps.ints_inv h3] at h2;exact ⟨a,ns,rfl,h2,hne,λm h5 h6=>k _ H G _ (Nx.refl hs) (by simp only [Rep]) (q m h5 h6)⟩
theorem Xtf {K:PySem.W.Frag}:LfC K (rMaxV K) dMax:=λH0 σ δ G H vs ds Qd Q hs r h k=>by
 obtain ⟨ns,rfl,hne,q⟩:=h;obtain ⟨v,rr,rfl,⟨a,ws,rfl,h2,h3⟩,h4⟩:=r;obtain rfl:rr = []:=h4;rw [Reps.ints_inv h3] at h2;exact ⟨a,ns,rfl,h2,hne,λm h5 h6=>k _ H G _ (Nx.refl hs) (by simp only [Rep]) (q m h5 h6)⟩
theorem Xws (hc:X.calm = true) (hm:X.mg "min" = none) (ha:PAB2 X H0 (e :: es) tr) (hg:Gl X "min" := by rfl)
(he:starEach (e :: es) X.env = (false,eval e X.env) :: starEach es X.env:=by rfl) (hpl:(backTo pos (starEach es X.env)).any (·.1) = false:=by rfl):PE2 X H0 (.Call (.Name "min" p) (e :: es) [] pos) (rCB dMin tr) :=
 Xen (Xoj hc) Xte hm rfl ha hg (by decide) (by decide) he hpl
theorem Xwt (hc:X.calm = true) (hm:X.mg "max" = none) (ha:PAB2 X H0 (e :: es) tr) (hg:Gl X "max" := by rfl)
(he:starEach (e :: es) X.env = (false,eval e X.env) :: starEach es X.env:=by rfl) (hpl:(backTo pos (starEach es X.env)).any (·.1) = false:=by rfl):PE2 X H0 (.Call (.Name "max" p) (e :: es) [] pos) (rCB dMax tr) :=
 Xen (Xol hc) Xtf hm rfl ha hg (by decide) (by decide) he hpl
def rTruL (te:RE) (δ:List Sl) (Q:Bool -> Prop):Prop:=te δ λd=>match d with
 | .lst xs=>Q (!xs.isEmpty)
 | _=>False
theorem Xkz {K:PySem.W.Frag} {H:Hp} {xs:List D} {ws:List V} (h:Reps K H xs ws):ws.isEmpty = xs.isEmpty:=by
 have:=h.length
 cases xs <;> cases ws <;> simp_all
theorem t_tru (ha:PE2 X H0 a te) (he:∀ whole,isTrue a X.env whole = (do let v <- whole;standAt a.pos;holding [v] (truthy v)):=by intro _;rfl):PT2 X H0 a (rTruL te) :=
 PT.weak (Xpe ha he) λσ H Q ⟨δ,G,Qd,hs,ht,k⟩=>⟨δ,G,_,hs,ht,λv H1 G1 d n1 r1 q1=>by
  cases d with
  | lst xs =>
   simp only [Rep] at r1;obtain ⟨a,ws,rfl,h2,h3⟩:=r1;exact ⟨!xs.isEmpty,.inl ⟨ws,n1.hs.sub.seq h2,by rw [Xkz h3]⟩,k _ H1 G1 n1 q1⟩
  | _=>exact q1.elim⟩
end
section
variable {X:Cx} {scope:Scope} {N':List Str} {elt t1 i1 t2 i2:Expr} {pos:Pos} {g1 g2:TG} {wi:TI} {tel:TE} {nT:Nat}
theorem Xph {y:Str} {py spos:Pos} {gy:TG} {wi1:TI} (ok:CompOk X scope nT N') (hi:PI X t1 i1 wi1) (hg1:∀ s3 H3 C cl fp,PG (compX X scope N' s3 H3 C cl fp) t1 g1) (hi2:∀ s3 H3 C cl fp,PI (compX X scope N' s3 H3 C cl fp) t2 i2 wi) (hg2:∀ s3 H3 C cl fp,PG (compX X scope N' s3 H3 C cl fp) t2 g2) (hel:∀ s3 H3 C cl fp,PE (compX X scope N' s3 H3 C cl fp) elt tel)
 (hs:∀ x,foldedSetIterable i1 X.env x = pure x) (hs2:∀ env x,foldedSetIterable i2 env x = pure x) (hy:PG X (.Name y py) gy) (hsw:swapsWith (comp2 elt t1 i1 t2 i2 scope pos) (some (.Name y py)) spos.line X.env = pure true) :
 PS X (.Assign [.Name y py] (comp2 elt t1 i1 t2 i2 scope pos) spos) (λD σ H=>Xum nT wi1 g1 wi g2 tel σ H λv H'=>gy v σ H' D.nx):=by
  intro pins s σ H D I h;obtain ⟨hclos,hcl⟩:=cl_ok I.ok ok.cell ok.free;rw [exec_Assign_Name_used _ _ _ _ hsw];refine wpAny_bind (wpAny_standAt (wpAny_bind ?_))
  show wpAny _ X.A (do let _ <- comprehension (comp2 elt t1 i1 t2 i2 scope pos) scope X.env _ (newList []) false (eval i1 X.env) (some (assign (.Name y py) X.env))) _ _ s
  refine wpAny_bind (wpAny_mono (wpAny_comprehension_free (use:=some (assign (.Name y py) X.env)) (Q:=λ_ s'=>SP X pins D .next s') rfl hs hclos ok.kind ok.loc
    (thn (hi pins s σ H _ I h) λv s1 h1=>thn h1 λitv s2 h2=>?_)) (λ_ s' hq=>wpAny_pure (wpAny_pure hq)) λ_ _ e=>e)
  obtain ⟨it,fp,tn,J,H2,e,I2,T,st2,f2,W⟩:=h2;subst e;refine wpAny_newObj_type ?_;have I3:=I2.lnew (its:=[]) (t':=s2.toks) .nil (Nat.zero_le _);have kp:∀ b o,s2.heap.get? b = some o -> (s2.heap.push { cls:=.type "list", dict:=none,data:=.seq ([]:List Value).toArray }).get? b = some o:=λb o e=>Heap.get?_push_of_some _ e
  have f3:∀ b ∈ fp,FpOk X pins (upd H2 s2.heap.objs.size (.lst [])) b:=λb hb=>by
    obtain ⟨o,e,_⟩:=T.obj _ _ st2 b hb;exact ⟨by rw [Xad (Nat.ne_of_lt (Heap.lt_size e))];exact (f2 b hb).1,(f2 b hb).2⟩
  refine Xiz (i1:=i1) (pos:=pos) (RR:=λC=>compPost (model X.prog X.w) X.A X.xe (some (assign (.Name y py) X.env)) (λ_ s'=>SP X pins D .next s') (.ref s2.heap.objs.size) C) I3 ok.calm ok.kind ok.cell hcl ok.cap T (T.keep _ _ _ st2 λb _ o e=>kp b o e) f3 hg1 hi2 hg2 hel hs2 (W _ (I2.hok.fresh (Nat.le_refl _))) ?_;intro C s' H' σ' pins' hC I' q;obtain ⟨m,⟨oC,es,ep,hoC,hdC,rC⟩,_⟩:=I'.loc;have hoC:s'.heap.get? C = some oC:=hoC;have I4:L2.Inv X pins σ H' s':=by
    have:=Xcr (nT:=nT) I3 hC f3 I' (Heap.SameBut.refl _ _) s'.toks;exact this
  have hCn:H' C = none:=I'.free;have hCl:C ≠ X.env.locals:=λz=>by
    have:=I3.lt;rw [<- z] at this;exact absurd (Nat.lt_of_lt_of_le this hC) (Nat.lt_irrefl _)
  have hCf:FpOk X pins H' C:=by
    refine ⟨hCn,hCl,I3.nofs hC,.inr (Nat.le_trans I3.sz hC),λx c e z=>?_,λp hp z=>?_⟩
    · obtain ⟨v,q⟩:=I3.cell x c e
      exact absurd (Nat.lt_of_lt_of_le q.lt (by rw [z];exact hC)) (Nat.lt_irrefl _)
    · exact absurd (Nat.lt_of_lt_of_le (Heap.lt_size (I3.pin p hp).1) (by rw [z];exact hC)) (Nat.lt_irrefl _)
  have I5:=I4.pinned (fp:=[C]) (λb hb=>by have : b = C:=(by simpa using hb);rw [this];exact hCf) (λb hb=>by
    have : b = C:=by simpa using hb
    rw [this];exact ⟨oC,hoC,λv z=>by rw [hdC] at z;cases z⟩)
  refine thn (hy _ s' σ H' (.ref s2.heap.objs.size) _ _ I5 rfl q) λ_ s6 ⟨σ6,H6,I6,q6⟩=>?_
  have pc:=I6.pin (C,oC) (List.mem_append_right _ (List.mem_append_right _ (Xak (fp:=[C]) (by simp) hoC)));refine ⟨m,⟨oC,es,ep,pc.1,hdC,rC⟩,λh' hsb=>⟨σ6,H6,?_,q6⟩⟩;have I7:=I6.unpinned
  exact Xez (t':=s6.toks) I7 (ch:=[C]) (λb hb=>by
    have : b = C:=by simpa using hb
    rw [this];exact ⟨pc.2.1,hCf.2⟩) λb o hb e=>hsb.extBut b o (by simpa using hb) e
end
section
variable {X:Cx} {H0:Hp} {nT:Nat} {g1 g2:RGp} {te te2 tel:RE} {pos:Pos} {elt t1 i1 t2 i2:Expr} {scope:Scope} {N':List Str}
def Xfe (i nT:Nat) (te:RE) (g1:RGp) (te2:RE) (g2:RGp) (tel:RE) (E:Ends2) (δ:List Sl):Prop:=Xur nT te g1 te2 g2 tel δ λd=>gSet i d δ E.nx
theorem Xij {y:Str} {py spos:Pos} (i:Nat) (hNd:X.N.Nodup) (ok:CompOk X scope nT N') (hi:PE2 X H0 i1 te) (hg1:∀ s3 H3 C cl fp,PGp (compX X scope N' s3 H3 C cl fp) H0 nT t1 g1) (hi2:∀ s3 H3 C cl fp,PE2 (compX X scope N' s3 H3 C cl fp) H0 i2 te2) (hg2:∀ s3 H3 C cl fp,PGp (compX X scope N' s3 H3 C cl fp) H0 nT t2 g2) (hel:∀ s3 H3 C cl fp,PE2 (compX X scope N' s3 H3 C cl fp) H0 elt tel)
(hN:X.N[i]? = some y:=by rfl) (hx:Loc X.env.scope y:=by first | exact Or.inl rfl | exact Or.inr rfl) (hf:X.fn y = true \/ X.env.scope.names.lookup y = some .local:=by first | exact .inl rfl | exact .inr rfl | assumption)
(hs:∀ x,foldedSetIterable i1 X.env x = pure x:=by intro _;rfl) (hs2:∀ env x,foldedSetIterable i2 env x = pure x:=by intro _ _;rfl) (hsw:swapsWith (comp2 elt t1 i1 t2 i2 scope pos) (some (.Name y py)) spos.line X.env = pure true:=by rfl) :
PS2 X H0 (.Assign [.Name y py] (comp2 elt t1 i1 t2 i2 scope pos) spos) (Xfe i nT te g1 te2 g2 tel) :=
 PS.weak (Xph (g1:=Xbd X.K H0 nT g1) (g2:=Xbd X.K H0 nT g2) (wi:=iList X.K (liftE X.K H0 te2)) (tel:=liftE X.K H0 tel) ok (Xcx hi) hg1 (λs3 H3 C cl fp=>Xcx (hi2 s3 H3 C cl fp)) hg2 hel hs hs2 (Xge hNd hN hx hf) hsw) λD σ H ⟨δ,G,E,hs,ht,go⟩=>⟨δ,G,_,hs,ht,λv H1 G1 d n1 r1 q1=>by
  cases d with
  | lst xs =>
   simp only [Rep] at r1;obtain ⟨a,ws,rfl,h2,h3⟩:=r1;refine ⟨a,rfl,⟨ws,n1.hs.sub.seq h2⟩,λDa hD=>Xlk n1.hs h2 h3 hD q1 λH' G' acc hh sg sh qq=>?_⟩;obtain ⟨l,e,nl,q⟩:=Xgj qq;obtain ⟨G2,h4,s4,r4⟩:=hh.settle;obtain ⟨G3,h5,s5⟩:=h4.put e nl r4;exact go.nx _ H' _ G3 h5 (((n1.g.trans sg).trans s4).trans s5) q
  | _=>exact q1.elim⟩
end
def SInt (key:D -> List Int) (m:Nat) (ds:List D):Prop:=0 < m /\ ∀ d ∈ ds,(key d).length = m /\ d = .tup ((key d).map D.int)
theorem Xkx {X:Cx} {H:Hp} {vs:List V} {ds:List D} {key:D -> List Int} {m:Nat} (h:SInt key m ds) (rd:Reps X.K H ds vs):Xkt X.K H vs ds (λods=>ods.Pairwise λa b=>HT.lexLt (key b) (key a) = false) X:=λA σ pins s its I rv=>by
 obtain ⟨hm,hk⟩:=h;have l1:=rd.length;have l2:=rv.length;have at':∀ (i:Nat) u x,its[i]? = some u -> (ds.map key)[i]? = some x -> x.length = m /\ IK s.heap u x:=λi u x h1 h2=>by
  rw [List.getElem?_map] at h2;obtain ⟨d,hd,rfl⟩:=Option.map_eq_some_iff.mp h2;obtain ⟨hl,e⟩:=hk d (List.mem_of_getElem? hd);obtain ⟨v,ev,rep⟩:=rd.get hd;obtain ⟨u',eu,ru⟩:=rv.get ev;rw [h1] at eu;cases eu;refine ⟨hl,ik_of I ?_ ru⟩;rw [<- e];exact rep
 refine Xfb (κ:=tuples' true) (by omega) (by omega) (λi j u x y a b c d=>(at' i u x a c).2.fn (at' j u y b d).2) (λh2 E Q q=>?_) (λi j u v x y a b c d E Q q=>Xvr (at' i u x a c).2 (at' j v y b d).2 q)
 obtain ⟨fs,kt,lf,hf⟩:=Xfl (ds.map key) its (by rw [List.length_map];omega) (λzs hz z=>by
  obtain ⟨d,hd,rfl⟩:=List.mem_map.mp hz;have:=(hk d hd).1;rw [z] at this;simp at this
  omega) (λi zs u a b=>(at' i u zs b a).2)
 refine PySem.W.kat_kind kt (by omega) (T:=Value.type "int") (λv hv=>?_) rfl q;obtain ⟨i,t,rfl⟩:=hf v hv;exact .now
section
variable {X:Cx} {H0:Hp} {e:Expr} {es:List Expr} {tr:RA} {pos p:Pos}
end
section
variable {X:Cx} {H0:Hp} {e value:Expr} {te tv:RE} {pos pos' cpos apos p:Pos} {x:Str}
end
section
variable {X:Cx} {H0:Hp} {nT:Nat} {pos:Pos} {g:RGp} {target elt:Expr} {ifs:List Expr} {scope:Scope} {N':List Str} {tel:RE} {tc:RT}
end
section
variable {X:Cx} {H0:Hp} {o e:Expr} {es:List Expr} {te ta:RE} {tr:RA} {pos p apos cpos:Pos}
end
structure Stp (prog:Program) (w:World) (i l:Addr) (n:Nat) (isV:Nat -> Value -> Prop) (St:Nat -> Heap -> Prop) (Sq:Heap -> Prop):Prop where
 item:∀ {A:Around} {E:Value -> Shared -> Prop} {s:Shared} {Q:Value -> Shared -> Prop} {k:Nat},k < n -> St k s.heap -> Sq s.heap -> (∀ v h' t',isV k v -> St (k + 1) h' -> Heap.SameBut i s.heap h' -> Q v { s with heap:=h',toks:=t' }) -> wpAny (model prog w) A (Builtin.SmallTypes.nextOf (.ref i)) Q E s
 fin:∀ {A:Around} {E:Value -> Shared -> Prop} {s:Shared} {Q:Value -> Shared -> Prop} {k:Nat},A.handled = none -> n <= k -> St k s.heap -> Sq s.heap -> (∀ h' e,Heap.ExtBut i s.heap h' -> (∃ o,h'.get? e = some o /\ o.cls = .type "StopIteration") -> E (.ref e) { s with heap:=h' }) -> wpAny (model prog w) A (Builtin.SmallTypes.nextOf (.ref i)) Q E s
 kst:∀ {k:Nat} {h h':Heap},St k h -> (∀ o,h.get? i = some o -> h'.get? i = some o) -> St k h'
 ksq:∀ {h h':Heap},Sq h -> (∀ o,h.get? l = some o -> h'.get? l = some o) -> Sq h'
 obj:∀ {k:Nat} {h:Heap},St k h -> ∃ o,h.get? i = some o /\ ∃ vs,o.data = .fields vs
structure ZApart (z TI TO i1 i2 l1 l2:Addr):Prop where
 ti:TI ≠ z /\ TI ≠ TO /\ TI ≠ i1 /\ TI ≠ i2
 to:TO ≠ z /\ TO ≠ i1 /\ TO ≠ i2
 it:i1 ≠ z /\ i2 ≠ z /\ i1 ≠ i2
 la:l1 ≠ z /\ l1 ≠ TO /\ l1 ≠ i1 /\ l1 ≠ i2
 lb:l2 ≠ z /\ l2 ≠ TO /\ l2 ≠ i1 /\ l2 ≠ i2
section
variable {prog:Program} {w:World} {A:Around} {s:Shared} {z TI TO i1 i2 l1 l2:Addr} {n1 n2 k1 k2:Nat} {is1 is2:Nat -> Value -> Prop} {St1 St2:Nat -> Heap -> Prop} {Sq1 Sq2:Heap -> Prop} {a b:Value}
end
section
variable {X:Cx} {H0:Hp}
variable {ts:List Expr} {k:Nat} {tp p pos pos2:Pos} {a b:Expr} {tr:RA} {g:RG} {tb:RS} {body:List Stmt}
end
section
variable {X:Cx} {H0:Hp} {pos:Pos} {e:Expr} {te:RE}
structure GDic (P:Program) (w:World) (K:PySem.W.Frag) (mg:Str -> Option Value) (g:Str) (tab:List (Str × Addr)):Prop where
 tab:GTab P w K mg g tab
 not:∀ a,mg g = some (.ref a) -> (a == sysModules) = false
end
section
variable {X:Cx} {H0:Hp} {a b e o:Expr} {es:List Expr} {ta tb te:RE} {tr:RA} {lo hi:Option Expr} {tl th:RO} {pos p p2 apos cpos:Pos}
end
section
variable {X:Cx} {H0:Hp} {tg iter e o:Expr} {te ta:RE} {g:RG} {tb:RS} {body:List Stmt} {pos apos cpos:Pos}
end
section
variable {X:Cx} {H0:Hp}
variable {ts:List Expr} {k:Nat} {tp p pos pos2:Pos} {a b:Expr} {tr:RA} {g:RG} {tb:RS} {body:List Stmt}
end
section
variable {X:Cx} {H0:Hp} {k:Nat} {f y c n xn:Str} {sp:SpX} {e:Expr} {es:List Expr} {tr:RA} {p np cpos epos hpos pos px:Pos} {b₀:Stmt} {suite:List Stmt} {tb:Addr -> RS} {i j:Nat}
end
section
variable {X:Cx} {H0:Hp} {k:Nat} {x:Str} {sp:Sp2} {p pos:Pos}
end
end M
namespace PySem
section
variable {prog:Program} {w:World} {A:Around} {E:Value -> Shared -> Prop} {h:Heap} {g:Array GenState} {d:Drawn} {t:Nat} {os:OsState}
variable {nm q:Str} {C N:Addr} {bs bm bmB:List Value} {hdct:Bool} {sn:List Str} {sub:List Value} {ab:Bool} {col:Option Bool} {dd:Option Addr} {k0 k1 k2 k3 k5:Option Value} {B newId initId:String}
end
end PySem
namespace PySem.W
open PySem PySem.Spec PySem.Calls PyProof.Rows Builtin Builtin.ObjectAttr Builtin.Getset_descriptor
def veMro:List Value -> Bool
 | .ref _ :: r=>veMro r
 | l=>l == [.type "ValueError", .type "Exception", .type "BaseException", .type "object"]
structure XoK (K:Frag) (C:Addr):Prop where
 m:(clsIn K C).any (λcd=>veMro cd.mro && cd.hasDict) = true
 sa:findIn K (.ref C) "__setattr__" = some (some (.builtin "object.__setattr__"))
 ga:findIn K (.ref C) "__getattribute__" = some (some (.builtin "BaseException.__getattribute__"))
 gt:findIn K (.ref C) "__getattr__" = some none
section
variable {prog:Program} {w:World} {A:Around} {E:Value -> Shared -> Prop} {s:Shared} {K:Frag} {x dx C:Addr} {name:Str} {v:Value} {ox:Obj} {od:Option Obj} {Q:Unit -> Shared -> Prop} {mA:Str -> Option Value} {ns:List Str}
end
end PySem.W
namespace M
open PySem PySem.Spec PyProof.Rows L2
theorem Xri {P:Program} {w:World} {H:Hp} {h:Heap} {a:Addr} {φ:Heap -> Prop} (x:φ h) (o:∃ o,h.get? a = some o) (st:∀ h1 h2:Heap,φ h1 -> (∀ o,h1.get? a = some o -> h2.get? a = some o) -> φ h2):ObjOk P w H h a (.ext φ):=⟨x,o,st⟩
section
variable {X:Cx} {pins:List (Addr × Obj)} {σ:L2.St} {H:Hp} {s:Shared} {a C dx:Addr} {fs:List (Str × V)} {f:Str} {v y:V} {u:Value} {A:Around} {E:Value -> Shared -> Prop}
end
section
variable {X:Cx} {o e value:Expr} {f:Str} {pos pos' tpos:Pos} {ta tv:TE}
end
structure ErrI (base:Heap) (C f:Addr):Prop where
 ex:∃ B newId initId bmB tl N nm q bs hdct sn sub ab col dd k0 k1 k2 k3 k5 mN oI,ExcBaseFacts B newId initId bmB /\ base.get? C = some (excClassObj nm q C N bs tl hdct sn sub ab col dd k0 k1 k2 k3 k5 newId) /\ base.Ns N mN /\ mN "__init__" = some (.ref f) /\
  base.get? f = some oI /\ oI.cls = .type "function" /\ OwnTail base bmB tl
section
variable {X:Cx} {H0:Hp} {C f:Addr} {k:Nat} {fd:FuncData} {ps:List Str} {sp:Sp} {x:Str} {e:Expr} {es:List Expr} {tr:RA} {te:RE} {p pos:Pos} {bm:List Value}
variable {c:Str} {C':Addr} {Ty:String} {p2:Pos} {T:Addr -> Bool -> Prop}
end
section
variable {X:Cx} {H0:Hp} {nT:Nat} {g:RGp} {e a1:Expr} {pos p p2 pos2:Pos}
variable {target iter elt:Expr} {ifs:List Expr} {scope:Scope} {N':List Str} {te tel:RE} {tc:RT} {tr:RA}
end
open PySem PySem.SetTable
def nxP (mask:Nat) (p:Probe):Probe:=if p.more > 0 then { p with j:=p.j + 1,more:=p.more - 1 } else
  { p with j:=(leap mask p.i p.perturb).1,more:=runEnd mask (leap mask p.i p.perturb).1 - (leap mask p.i p.perturb).1,i:=(leap mask p.i p.perturb).1,perturb:=(leap mask p.i p.perturb).2 }
def sq (mask:Nat) (h:Int):Nat -> Probe
 | 0=>⟨bits h % (mask + 1),runEnd mask (bits h % (mask + 1)) - bits h % (mask + 1),bits h % (mask + 1),bits h,none⟩
 | n + 1=>nxP mask (sq mask h n)
theorem nxP_dummy {mask:Nat} {p:Probe}:(nxP mask p).dummy = p.dummy:=by unfold nxP;split <;> rfl
theorem Xji (mask:Nat) (h:Int):∀ n,(sq mask h n).dummy = none
 | 0=>rfl
 | n + 1=>nxP_dummy.trans (Xji mask h n)
def lp (mask:Nat) (h:Int):Nat -> Nat × Nat
 | 0=>(bits h % (mask + 1),bits h)
 | n + 1=>leap mask (lp mask h n).1 (lp mask h n).2
def runP (mask i perturb k:Nat):Probe:=⟨i + k,runEnd mask i - i - k,i,perturb,none⟩
theorem Xcw (mask i:Nat):runEnd mask i - i = if i + 9 <= mask then 9 else 0:=by
 unfold runEnd;split <;> omega
def ix (mask:Nat) (h:Int):Nat -> Nat
 | 0=>0
 | r + 1=>ix mask h r + (runEnd mask (lp mask h r).1 - (lp mask h r).1) + 1
theorem Xmc (mask:Nat) (h:Int) (n i pt:Nat) (e:sq mask h n = runP mask i pt 0):∀ k,k <= runEnd mask i - i -> sq mask h (n + k) = runP mask i pt k
 | 0,_=>e
 | k + 1,hk=>by
  have ih:=Xmc mask h n i pt e k (by omega)
  show nxP mask (sq mask h (n + k)) = _
  rw [ih];unfold nxP runP;rw [if_pos (by show runEnd mask i - i - k > 0;omega)]
  show Probe.mk _ _ _ _ _ = Probe.mk _ _ _ _ _
  congr 1
theorem sq_lp (mask:Nat) (h:Int):∀ r,sq mask h (ix mask h r) = runP mask (lp mask h r).1 (lp mask h r).2 0
 | 0=>rfl
 | r + 1=>by
  have ih:=sq_lp mask h r;have e:=Xmc mask h _ _ _ ih (runEnd mask (lp mask h r).1 - (lp mask h r).1) (Nat.le_refl _)
  show nxP mask (sq mask h (ix mask h r + (runEnd mask (lp mask h r).1 - (lp mask h r).1))) = _
  rw [e];unfold nxP runP;rw [if_neg (by show ¬ (runEnd mask (lp mask h r).1 - (lp mask h r).1 - (runEnd mask (lp mask h r).1 - (lp mask h r).1) > 0);omega)];rfl
theorem ix_le (mask:Nat) (h:Int):∀ r,ix mask h r <= 10 * r
 | 0=>Nat.le_refl _
 | r + 1=>by
  have ih:=ix_le mask h r
  show ix mask h r + (runEnd mask (lp mask h r).1 - (lp mask h r).1) + 1 <= _
  rw [Xcw]
  split <;> omega
def f5 (mask i:Nat):Nat:=(i * 5 + 1) % (mask + 1)
theorem Xtz (h:Int):bits h < 2 ^ 64:=by
 unfold bits;have h1:=Int.emod_nonneg h (show ((2:Int) ^ 64) ≠ 0 by decide);have h2:=Int.emod_lt_of_pos h (show (0:Int) < 2 ^ 64 by decide);have : (2:Int) ^ 64 = ((2 ^ 64:Nat):Int):=by decide
 omega
theorem lp_pt (mask:Nat) (h:Int):∀ r,(lp mask h r).2 = bits h / 32 ^ r
 | 0=>by show bits h = bits h / 1;rw [Nat.div_one]
 | r + 1=>by
  show (lp mask h r).2 / 32 = _
  rw [lp_pt mask h r,Nat.div_div_eq_div_mul,Nat.pow_succ]
theorem Xvs (mask:Nat) (h:Int) (r:Nat) (hr:13 <= r):(lp mask h r).2 = 0:=by
 rw [lp_pt];refine Nat.div_eq_of_lt (Nat.lt_of_lt_of_le (Xtz h) ?_)
 calc 2 ^ 64 <= 32 ^ 13:=by decide
  _ <= 32 ^ r:=Nat.pow_le_pow_right (by decide) hr
def itf (mask:Nat):Nat -> Nat -> Nat
 | 0,a=>a
 | k + 1,a=>itf mask k (f5 mask a)
theorem Xeg (mask:Nat):∀ k l a,itf mask (k + l) a = itf mask l (itf mask k a)
 | 0,l,a=>by rw [Nat.zero_add];rfl
 | k + 1,l,a=>by rw [show k + 1 + l = (k + l) + 1 by omega];exact Xeg mask k l (f5 mask a)
theorem lp_f5 (mask:Nat) (h:Int) (k:Nat):(lp mask h (13 + k)).1 = itf mask k (lp mask h 13).1:=by
 induction k with
 | zero=>rfl
 | succ k ih =>
  have e:(lp mask h (13 + k + 1)).1 = f5 mask (lp mask h (13 + k)).1:=by
   show (leap mask (lp mask h (13 + k)).1 (lp mask h (13 + k)).2).1 = _
   rw [Xvs mask h (13 + k) (by omega)];rfl
  rw [show 13 + (k + 1) = 13 + k + 1 from rfl,e,ih,Xeg mask k 1];rfl
def cover (mask:Nat):Nat -> Nat -> Nat -> Nat
 | 0,_,acc=>acc
 | n + 1,a,acc=>cover mask n (f5 mask a) (acc ||| 2 ^ a)
theorem Xkn (mask:Nat):∀ n a acc b,(cover mask n a acc).testBit b = true -> acc.testBit b = true \/ ∃ k,k < n /\ itf mask k a = b
 | 0,a,acc,b,h=>.inl h
 | n + 1,a,acc,b,h=>by
  rcases Xkn mask n (f5 mask a) _ b h with h | ⟨k,hk,e⟩
  ·rw [Nat.testBit_or,Bool.or_eq_true] at h
   rcases h with h | h
   ·exact .inl h
   ·rw [Nat.testBit_two_pow] at h
    exact .inr ⟨0,by omega,of_decide_eq_true h⟩
  ·exact .inr ⟨k + 1,by omega,e⟩
def masks:List Nat:=[7,15,31,63,127,255,511,1023]
def covB (mask:Nat):Bool:=cover mask (mask + 1) 0 0 == 2 ^ (mask + 1) - 1 && itf mask (mask + 1) 0 == 0
theorem Xko:masks.all covB = true:=by decide +kernel
theorem Xqo {mask:Nat} (hm:mask ∈ masks) {b:Nat} (hb:b <= mask):∃ k,k <= mask /\ itf mask k 0 = b:=by
 have h:=List.all_eq_true.mp Xko mask hm;unfold covB at h;rw [Bool.and_eq_true,beq_iff_eq,beq_iff_eq] at h;have z:(cover mask (mask + 1) 0 0).testBit b = true:=by rw [h.1,Nat.testBit_two_pow_sub_one];exact decide_eq_true (by omega)
 rcases Xkn mask _ _ _ _ z with z | ⟨k,hk,e⟩
 ·simp at z
 ·exact ⟨k,by omega,e⟩
theorem Xuq {mask:Nat} (hm:mask ∈ masks) {a b:Nat} (ha:a <= mask) (hb:b <= mask):∃ k,k <= mask /\ itf mask k a = b:=by
 have h:=List.all_eq_true.mp Xko mask hm;unfold covB at h;rw [Bool.and_eq_true,beq_iff_eq,beq_iff_eq] at h;obtain ⟨s,hs,es⟩:=Xqo hm ha;obtain ⟨u,hu,eu⟩:=Xqo hm hb
 by_cases hsu:s <= u
 ·refine ⟨u - s,by omega,?_⟩
  rw [<- es,<- Xeg,show s + (u - s) = u by omega];exact eu
 ·refine ⟨u + (mask + 1) - s,by omega,?_⟩
  rw [<- es,<- Xeg,show s + (u + (mask + 1) - s) = (mask + 1) + u by omega,Xeg,h.2];exact eu
theorem lp_le (mask:Nat) (h:Int) (r:Nat):(lp mask h r).1 <= mask:=by
 cases r with
 | zero=>exact Nat.le_of_lt_succ (Nat.mod_lt _ (Nat.succ_pos _))
 | succ r=>exact Nat.le_of_lt_succ (Nat.mod_lt _ (Nat.succ_pos _))
theorem Xqm {mask:Nat} (hm:mask ∈ masks) (h:Int) {b:Nat} (hb:b <= mask):∃ r,r <= mask + 13 /\ (lp mask h r).1 = b:=by
 obtain ⟨k,hk,e⟩:=Xuq hm (lp_le mask h 13) hb;exact ⟨13 + k,by omega,by rw [lp_f5];exact e⟩
theorem Xow {mask:Nat} (hm:mask ∈ masks) (h:Int) {b:Nat} (hb:b <= mask):∃ n,n < 10 * turns mask /\ (sq mask h n).j = b:=by
 obtain ⟨r,hr,e⟩:=Xqm hm h hb;refine ⟨ix mask h r,?_,?_⟩
 ·have:=ix_le mask h r
  unfold turns;omega
 ·rw [sq_lp]
  exact e
theorem least {P:Nat -> Prop} (n:Nat) (h:P n):∃ N,N <= n /\ P N /\ ∀ k,k < N -> ¬ P k:=by
 induction n using Nat.strongRecOn with
 | ind n ih =>
  by_cases z:∃ k,k < n /\ P k
  ·obtain ⟨k,hk,pk⟩:=z
   obtain ⟨N,a,b,c⟩:=ih k hk pk;exact ⟨N,by omega,b,c⟩
  ·exact ⟨n,Nat.le_refl _,h,λk hk pk=>z ⟨k,hk,pk⟩⟩
theorem Xgq {xs:Array Nat} {j:Nat} (hs:xs.toList.Pairwise (· < ·)):∀ fuel lo hi,hi - lo <= fuel -> lo <= hi -> hi <= xs.size -> (∀ i x,i < lo -> xs.toList[i]? = some x -> x < j) -> (∀ i x,hi <= i -> xs.toList[i]? = some x -> j <= x) ->
 lo <= below.go xs j fuel lo hi /\ below.go xs j fuel lo hi <= xs.size /\ (∀ i x,i < below.go xs j fuel lo hi -> xs.toList[i]? = some x -> x < j) /\ (∀ i x,below.go xs j fuel lo hi <= i -> xs.toList[i]? = some x -> j <= x)
  | 0,lo,hi,h1,h2,h3,h4,h5=>by
    have e:lo = hi:=by omega
    unfold below.go;subst e;exact ⟨Nat.le_refl _,h3,h4,h5⟩
  | fuel + 1,lo,hi,h1,h2,h3,h4,h5=>by
    unfold below.go
    by_cases hlt:lo < hi
    · rw [if_pos hlt]
      have hm:(lo + hi) / 2 < xs.size:=by omega
      have hm':(lo + hi) / 2 < xs.toList.length:=by simpa using hm
      have eg:xs.getD ((lo + hi) / 2) j = xs.toList[(lo + hi) / 2]:=by simp [Array.getD,hm]
      have eo:xs.toList[(lo + hi) / 2]? = some xs.toList[(lo + hi) / 2]:=List.getElem?_eq_getElem hm';have mono:∀ i k x y,i < k -> xs.toList[i]? = some x -> xs.toList[k]? = some y -> x < y:=λi k x y hik e1 e2=>by
        obtain ⟨b1,c1⟩:=List.getElem?_eq_some_iff.mp e1;obtain ⟨b2,c2⟩:=List.getElem?_eq_some_iff.mp e2;have:=List.pairwise_iff_getElem.mp hs i k b1 b2 hik;rw [c1,c2] at this;exact this
      dsimp only;rw [eg]
      by_cases hx:xs.toList[(lo + hi) / 2] < j
      · rw [if_pos hx]
        have k:∀ i x,i < (lo + hi) / 2 + 1 -> xs.toList[i]? = some x -> x < j:=λi x hi' e=>by
          by_cases q:i = (lo + hi) / 2
          · subst q;rw [eo] at e;cases e;exact hx
          · exact Nat.lt_trans (mono i _ x _ (by omega) e eo) hx
        obtain ⟨a,b,c,d⟩:=Xgq hs fuel ((lo + hi) / 2 + 1) hi (by omega) (by omega) h3 k h5;exact ⟨by omega,b,c,d⟩
      · rw [if_neg hx]
        have k:∀ i x,(lo + hi) / 2 <= i -> xs.toList[i]? = some x -> j <= x:=λi x hi' e=>by
          by_cases q:i = (lo + hi) / 2
          · subst q;rw [eo] at e;cases e;omega
          · have:=mono _ i _ x (by omega) eo e;omega
        exact Xgq hs fuel lo ((lo + hi) / 2) (by omega) (by omega) (by omega) h4 k
    · rw [if_neg hlt]
      have e:lo = hi:=by omega
      subst e;exact ⟨Nat.le_refl _,h3,h4,h5⟩
theorem Xds {xs:Array Nat} {j:Nat} (hs:xs.toList.Pairwise (· < ·)):below xs j <= xs.size /\ (∀ i x,i < below xs j -> xs.toList[i]? = some x -> x < j) /\ (∀ i x,below xs j <= i -> xs.toList[i]? = some x -> j <= x):=by
 obtain ⟨_,b,c,d⟩:=Xgq (j:=j) hs xs.size 0 xs.size (by omega) (Nat.zero_le _) (Nat.le_refl _) (λi x h=>absurd h (Nat.not_lt_zero _)) (λi x h e=>by
  obtain ⟨b,_⟩:=List.getElem?_eq_some_iff.mp e
  simp at b;omega)
 exact ⟨b,c,d⟩
theorem Xct {xs:Array Nat} {j i:Nat} (hs:xs.toList.Pairwise (· < ·)) (e:xs.toList[i]? = some j):below xs j = i:=by
 obtain ⟨b,c,d⟩:=Xds (j:=j) hs
 by_cases h1:i < below xs j
 ·exact absurd (c i j h1 e) (Nat.lt_irrefl _)
 by_cases h2:below xs j < i
 ·obtain ⟨b2,c2⟩:=List.getElem?_eq_some_iff.mp e
  have hb:below xs j < xs.toList.length:=by omega
  have:=d (below xs j) _ (Nat.le_refl _) (List.getElem?_eq_getElem hb);have h3:=List.pairwise_iff_getElem.mp hs _ _ hb b2 h2;omega
 ·omega
section
variable {t:SetTable} {j i:Nat}
theorem Xgw (hs:t.place.toList.Pairwise (· < ·)) (e:t.place.toList[i]? = some j):t.slot j = .live i:=by
 unfold slot;rw [Xct hs e];have : t.place[i]? = some j:=by simpa using e
 simp [this]
theorem Xmg (hs:t.place.toList.Pairwise (· < ·)) (hd:t.dummies = #[]) (n:j ∉ t.place.toList):t.slot j = .empty:=by
 unfold slot
 have h1:¬ (t.place[below t.place j]? == some j) = true:=λz=>n (by
  have z:=beq_iff_eq.mp z;have z':t.place.toList[below t.place j]? = some j:=by simpa using z
  exact List.mem_of_getElem? z')
 have h2:has t.dummies j = false:=by rw [hd];unfold has;simp
 dsimp only;rw [if_neg h1,h2];rfl
end
theorem sq_in (mask:Nat) (h:Int):∀ n,(sq mask h n).j + (sq mask h n).more <= mask
 | 0=>by
  have h1:bits h % (mask + 1) <= mask:=Nat.le_of_lt_succ (Nat.mod_lt _ (Nat.succ_pos _))
  show bits h % (mask + 1) + (runEnd mask (bits h % (mask + 1)) - bits h % (mask + 1)) <= mask
  rw [Xcw];split <;> omega
 | n + 1=>by
  have ih:=sq_in mask h n
  show (nxP mask (sq mask h n)).j + (nxP mask (sq mask h n)).more <= mask
  unfold nxP
  split
  ·rename_i z
   show (sq mask h n).j + 1 + ((sq mask h n).more - 1) <= mask
   omega
  ·have h1:(leap mask (sq mask h n).i (sq mask h n).perturb).1 <= mask:=Nat.le_of_lt_succ (Nat.mod_lt _ (Nat.succ_pos _))
   show (leap mask (sq mask h n).i (sq mask h n).perturb).1 + (runEnd mask (leap mask (sq mask h n).i (sq mask h n).perturb).1 - (leap mask (sq mask h n).i (sq mask h n).perturb).1) <= mask
   rw [Xcw];split <;> omega
def Rch (mask:Nat) (live:List Nat) (h:Int) (j:Nat):Prop:=∃ n,(sq mask h n).j = j /\ ∀ k,k < n -> (sq mask h k).j ∈ live
structure TOk (t:SetTable) (es:List (Int × Value)):Prop where
 dm:t.dummies = #[]
 len:t.place.toList.length = es.length
 srt:t.place.toList.Pairwise (· < ·)
 le:∀ j ∈ t.place.toList,j <= t.mask
 m:t.mask ∈ masks
 room:es.length <= t.mask
 rch:∀ (i j:Nat) (h:Int) (v:Value),t.place.toList[i]? = some j -> es[i]? = some (h,v) -> Rch t.mask t.place.toList h j
theorem Xkg {l:List Nat} (hs:l.Pairwise (· < ·)):∀ m,(∀ e,e <= m -> e ∈ l) -> ∃ i,l[i]? = some m /\ m <= i
 | 0,h=>by
  obtain ⟨i,hi,e⟩:=List.mem_iff_getElem.mp (h 0 (Nat.le_refl _));exact ⟨i,by rw [List.getElem?_eq_getElem hi,e],Nat.zero_le _⟩
 | m + 1,h=>by
  obtain ⟨i,ei,hi⟩:=Xkg hs m λe he=>h e (by omega)
  obtain ⟨k,hk,e⟩:=List.mem_iff_getElem.mp (h (m + 1) (Nat.le_refl _));obtain ⟨b1,c1⟩:=List.getElem?_eq_some_iff.mp ei;refine ⟨k,by rw [List.getElem?_eq_getElem hk,e],?_⟩
  rcases Nat.lt_trichotomy i k with z | z | z
  ·omega
  ·subst z;omega
  ·have:=List.pairwise_iff_getElem.mp hs k i hk b1 z;omega
theorem Xme {l:List Nat} {m:Nat} (hs:l.Pairwise (· < ·)) (hl:l.length <= m):∃ e,e <= m /\ e ∉ l:=by
 by_cases z:∃ e,e <= m /\ e ∉ l
 ·exact z
 ·obtain ⟨i,ei,hi⟩:=Xkg hs m λe he=>Classical.byContradiction λn=>z ⟨e,he,n⟩
  obtain ⟨b,_⟩:=List.getElem?_eq_some_iff.mp ei;omega
structure Emp (mask:Nat) (live:List Nat) (h:Int) (N:Nat):Prop where
 lt:N < 10 * turns mask
 no:(sq mask h N).j ∉ live
 bf:∀ k,k < N -> (sq mask h k).j ∈ live
theorem Xwr {mask:Nat} {live:List Nat} (hs:live.Pairwise (· < ·)) (hl:live.length <= mask) (hm:mask ∈ masks) (h:Int):∃ N,Emp mask live h N:=by
 obtain ⟨e,he,hn⟩:=Xme hs hl;obtain ⟨n,hlt,ej⟩:=Xow hm h he;obtain ⟨N,a,b,c⟩:=least (P:=λn=>(sq mask h n).j ∉ live) n (by rw [ej];exact hn);exact ⟨N,by omega,b,λk hk=>Classical.byContradiction λz=>c k hk z⟩
section
variable {t:SetTable} {es:List (Int × Value)} {h:Int} {N:Nat} {hashAt:Nat -> Int}
def NoH (t:SetTable) (es:List (Int × Value)) (h:Int) (n m:Nat):Prop:=∀ l,n <= l -> l < m -> ∀ (i:Nat) (v:Value),t.place.toList[i]? = some (sq t.mask h l).j -> es[i]? ≠ some (h,v)
theorem Xjp (ok:TOk t es) (hh:∀ i e,es[i]? = some e -> hashAt i = e.1) (E:Emp t.mask t.place.toList h N):∀ fuel n,n <= N -> N - n < fuel ->
(∃ k i v,n <= k /\ k < N /\ t.place.toList[i]? = some (sq t.mask h k).j /\ es[i]? = some (h,v) /\ NoH t es h n k /\ probe.go t hashAt h fuel (sq t.mask h n) = some (.candidate (sq t.mask h k).j i (sq t.mask h (k + 1)))) \/
(NoH t es h n N /\ probe.go t hashAt h fuel (sq t.mask h n) = some (.empty (sq t.mask h N).j none))
 | 0,n,_,hf=>absurd hf (Nat.not_lt_zero _)
 | fuel + 1,n,hn,hf=>by
  by_cases z:n = N
  ·subst z
   refine .inr ⟨λl h1 h2=>by omega,?_⟩;unfold probe.go;rw [Xmg ok.srt ok.dm E.no,Xji]
  ·have hlt:n < N:=by omega
   obtain ⟨i,hi,ei⟩:=List.mem_iff_getElem.mp (E.bf n hlt);have ei':t.place.toList[i]? = some (sq t.mask h n).j:=by rw [List.getElem?_eq_getElem hi,ei]
   have hie:i < es.length:=by rw [<- ok.len];exact hi
   have ee:es[i]? = some es[i]:=List.getElem?_eq_getElem hie;have st:probe.go t hashAt h (fuel + 1) (sq t.mask h n) = if hashAt i == h then some (.candidate (sq t.mask h n).j i (t.advance (sq t.mask h n))) else probe.go t hashAt h fuel (t.advance (sq t.mask h n)):=by
    conv=>lhs;unfold probe.go
    rw [Xgw ok.srt ei']
   rw [hh i _ ee] at st
   by_cases hq:es[i].1 = h
   ·refine .inl ⟨n,i,es[i].2,Nat.le_refl _,hlt,ei',by rw [ee,<- hq],λl h1 h2=>by omega,?_⟩
    rw [st,if_pos (beq_iff_eq.mpr hq)];rfl
   ·have nh:∀ (i':Nat) (v:Value),t.place.toList[i']? = some (sq t.mask h n).j -> es[i']? ≠ some (h,v):=λi' v e1 e2=>by
     have : i' = i:=by rw [<- Xct ok.srt e1,<- Xct ok.srt ei']
     subst this;rw [ee] at e2;exact hq (by rw [Option.some.inj e2])
    have st':probe.go t hashAt h (fuel + 1) (sq t.mask h n) = probe.go t hashAt h fuel (sq t.mask h (n + 1)):=by
     rw [st,if_neg (λz=>hq (beq_iff_eq.mp z))];rfl
    rcases Xjp ok hh E fuel (n + 1) (by omega) (by omega) with ⟨k,i2,v,a1,a2,a3,a4,a5,a6⟩ | ⟨a5,a6⟩
    ·refine .inl ⟨k,i2,v,by omega,a2,a3,a4,λl h1 h2=>?_,by rw [st',a6]⟩
     by_cases q:l = n
     ·subst q;exact nh
     ·exact a5 l (by omega) h2
    ·refine .inr ⟨λl h1 h2=>?_,by rw [st',a6]⟩
     by_cases q:l = n
     ·subst q;exact nh
     ·exact a5 l (by omega) h2
theorem Xqd (ok:TOk t es) (E:Emp t.mask t.place.toList h N) {i:Nat} {v:Value} (e:es[i]? = some (h,v)):∃ k,k < N /\ t.place.toList[i]? = some (sq t.mask h k).j:=by
 have hi:i < t.place.toList.length:=by rw [ok.len];exact (List.getElem?_eq_some_iff.mp e).1
 have ej:=List.getElem?_eq_getElem hi;obtain ⟨n,en,bf⟩:=ok.rch i _ h v ej e;refine ⟨n,?_,by rw [ej,en]⟩
 rcases Nat.lt_trichotomy n N with z | z | z
 ·exact z
 ·subst z
  exact absurd (by rw [en];exact List.getElem_mem hi) E.no
 ·exact absurd (bf N z) E.no
end
def ins {α:Type} (p:Nat) (x:α) (l:List α):List α:=l.take p ++ x :: l.drop p
theorem Xcn {α:Type} (xs:Array α) (p:Nat) (x:α):(insertAt xs p x).toList = ins p x xs.toList:=by
 unfold insertAt ins;simp [Array.toList_extract,List.take_of_length_le]
theorem Xcy {α:Type} {p:Nat} {x:α} {l:List α} (hp:p <= l.length):(ins p x l).length = l.length + 1:=by
 unfold ins;simp;omega
theorem Xnw {α:Type} {p i:Nat} {x:α} {l:List α} (hp:p <= l.length):(ins p x l)[i]? = if i < p then l[i]? else if i = p then some x else l[i - 1]? := by
 unfold ins
 by_cases h1:i < p
 ·rw [if_pos h1,List.getElem?_append_left (by simp;omega),List.getElem?_take_of_lt h1]
 ·rw [if_neg h1,List.getElem?_append_right (by simp;omega)]
  have e:(l.take p).length = p:=by simp;omega
  rw [e]
  by_cases h2:i = p
  ·subst h2;simp
  ·rw [if_neg h2]
   obtain ⟨k,rfl⟩:∃ k,i = p + 1 + k:=⟨i - p - 1,by omega⟩;rw [show p + 1 + k - p = k + 1 by omega,List.getElem?_cons_succ,List.getElem?_drop]
   congr 1
   omega
theorem ins_mem {α:Type} {p:Nat} {x y:α} {l:List α}:y ∈ ins p x l ↔ y = x \/ y ∈ l:=by
 unfold ins;rw [List.mem_append,List.mem_cons]
 constructor
 ·rintro (h | h | h)
  ·exact .inr (List.mem_of_mem_take h)
  ·exact .inl h
  ·exact .inr (List.mem_of_mem_drop h)
 ·rintro (h | h)
  ·exact .inr (.inl h)
  ·rw [<- List.take_append_drop p l,List.mem_append] at h
   rcases h with h | h
   ·exact .inl h
   ·exact .inr (.inr h)
theorem Xlf {l:List Nat} {p j:Nat} (hs:l.Pairwise (· < ·)) (h1:∀ i x,i < p -> l[i]? = some x -> x < j) (h2:∀ i x,p <= i -> l[i]? = some x -> j < x):(ins p j l).Pairwise (· < ·):=by
 unfold ins;rw [<- List.take_append_drop p l,List.pairwise_append] at hs;have a1:∀ x ∈ l.take p,x < j:=λx hx=>by
  obtain ⟨i,hi,e⟩:=List.mem_iff_getElem.mp hx;simp at hi;exact h1 i x (by omega) (by rw [<- List.getElem?_take_of_lt (show i < p by omega),List.getElem?_eq_getElem (by simp;omega),e])
 have a2:∀ x ∈ l.drop p,j < x:=λx hx=>by
  obtain ⟨i,hi,e⟩:=List.mem_iff_getElem.mp hx;exact h2 (p + i) x (by omega) (by rw [<- List.getElem?_drop,List.getElem?_eq_getElem hi,e])
 rw [List.pairwise_append,List.pairwise_cons];refine ⟨hs.1,⟨a2,hs.2.1⟩,λx hx y hy=>?_⟩
 rcases List.mem_cons.mp hy with e | e
 ·rw [e];exact a1 x hx
 ·exact hs.2.2 x hx y e
section
variable {t:SetTable} {es:List (Int × Value)} {h:Int} {N:Nat}
theorem Xuu (ok:TOk t es) (E:Emp t.mask t.place.toList h N) (x:Value) (hr:es.length < t.mask) :
(t.put (sq t.mask h N).j).2 = below t.place (sq t.mask h N).j /\ below t.place (sq t.mask h N).j <= es.length /\ (t.put (sq t.mask h N).j).1 = { t with place:=insertAt t.place (below t.place (sq t.mask h N).j) (sq t.mask h N).j } /\
TOk (t.put (sq t.mask h N).j).1 (ins (below t.place (sq t.mask h N).j) (h,x) es):=by
 have hd:has t.dummies (sq t.mask h N).j = false:=by rw [ok.dm];unfold has;simp
 have e1:(t.put (sq t.mask h N).j).1 = { t with place:=insertAt t.place (below t.place (sq t.mask h N).j) (sq t.mask h N).j }:=by
  unfold put;dsimp only;rw [hd];rfl
 obtain ⟨b,c,d⟩:=Xds (j:=(sq t.mask h N).j) ok.srt;have hp:below t.place (sq t.mask h N).j <= t.place.toList.length:=by simpa using b
 have hp':below t.place (sq t.mask h N).j <= es.length:=by rw [<- ok.len];exact hp
 refine ⟨rfl,hp',e1,?_⟩;rw [e1];have pl:(insertAt t.place (below t.place (sq t.mask h N).j) (sq t.mask h N).j).toList = ins (below t.place (sq t.mask h N).j) (sq t.mask h N).j t.place.toList:=Xcn _ _ _;have lej:(sq t.mask h N).j <= t.mask:=by have:=sq_in t.mask h N;omega
 refine ⟨ok.dm,?_,?_,?_,ok.m,?_,?_⟩
 ·show (insertAt _ _ _).toList.length = _
  rw [pl,Xcy hp,Xcy hp',ok.len]
 ·show (insertAt _ _ _).toList.Pairwise _
  rw [pl];refine Xlf ok.srt c λi y hi ey=>?_
  have:=d i y hi ey
  rcases Nat.lt_or_eq_of_le this with z | z
  ·exact z
  ·exact absurd (by rw [z];exact List.mem_of_getElem? ey) E.no
 ·intro j hj
  have hj:j ∈ (insertAt _ _ _).toList:=hj;rw [pl,ins_mem] at hj
  rcases hj with z | z
  ·rw [z];exact lej
  ·exact ok.le j z
 ·show (ins _ _ _).length <= t.mask
  rw [Xcy hp'];omega
 ·intro i j h' v ei ee
  have ei:(insertAt _ _ _).toList[i]? = some j:=ei
  show Rch t.mask (insertAt _ _ _).toList h' j
  rw [pl] at ei ⊢;rw [Xnw hp] at ei;rw [Xnw hp'] at ee;have mono:∀ {h'' j'},Rch t.mask t.place.toList h'' j' -> Rch t.mask (ins (below t.place (sq t.mask h N).j) (sq t.mask h N).j t.place.toList) h'' j':=λ⟨n,a,b⟩=>⟨n,a,λk hk=>ins_mem.mpr (.inr (b k hk))⟩
  by_cases h1:i < below t.place (sq t.mask h N).j
  ·rw [if_pos h1] at ei ee
   exact mono (ok.rch i j h' v ei ee)
  ·rw [if_neg h1] at ei ee
   by_cases h2:i = below t.place (sq t.mask h N).j
   ·rw [if_pos h2] at ei ee
    cases ei;cases ee;exact ⟨N,rfl,λk hk=>ins_mem.mpr (.inr (E.bf k hk))⟩
   ·rw [if_neg h2] at ei ee
    exact mono (ok.rch _ j h' v ei ee)
end
theorem Xfo:∀ (m:Nat) (l:List Nat),l.Nodup -> (∀ e,e <= m -> e ∈ l) -> m + 1 <= l.length
 | 0,l,_,h=>List.length_pos_of_mem (h 0 (Nat.le_refl _))
 | m + 1,l,nd,h=>by
  have ih:=Xfo m (l.erase (m + 1)) (nd.erase _) λe he=>(List.mem_erase_of_ne (by omega)).mpr (h e (by omega))
  rw [List.length_erase_of_mem (h _ (Nat.le_refl _))] at ih;omega
theorem ix_lt (mask:Nat) (h:Int) {r:Nat}:∀ {R},R < r -> ix mask h R < ix mask h r:=by
 induction r with
 | zero=>intro R z;exact absurd z (Nat.not_lt_zero _)
 | succ r ih =>
  intro R z;have s:ix mask h r < ix mask h (r + 1):=by show _ < ix mask h r + _ + 1;omega
  by_cases q:R = r
  ·subst q;exact s
  ·exact Nat.lt_trans (ih (by omega)) s
structure Lay (mask:Nat) (hs:List Int) (owner:Array (Option Nat)) (pl:List Nat):Prop where
 size:owner.size = mask + 1
 nd:pl.Nodup
 le:∀ j ∈ pl,j <= mask
 at_:∀ (q j:Nat),pl[q]? = some j -> owner[j]? = some (some q)
 no:∀ j,j <= mask -> j ∉ pl -> owner[j]? = some none
 rch:∀ (q j:Nat) (h:Int),pl[q]? = some j -> hs[q]? = some h -> Rch mask pl h j
section
variable {mask:Nat} {hs:List Int} {owner:Array (Option Nat)} {pl:List Nat} {h:Int}
theorem Lay.is (L:Lay mask hs owner pl) {j:Nat} (hj:j <= mask):(owner.getD j (some 0)).isNone = true ↔ j ∉ pl:=by
 have hlt:j < owner.size:=by rw [L.size];omega
 have e:owner.getD j (some 0) = owner[j]:=by simp [Array.getD,hlt]
 rw [e]
 by_cases z:j ∈ pl
 ·obtain ⟨q,hq,eq⟩:=List.mem_iff_getElem.mp z
  have:=L.at_ q j (by rw [List.getElem?_eq_getElem hq,eq]);rw [Array.getElem?_eq_getElem hlt] at this;rw [Option.some.inj this];simp [z]
 ·have:=L.no j hj z
  rw [Array.getElem?_eq_getElem hlt] at this;rw [Option.some.inj this];simp [z]
theorem Xnz (L:Lay mask hs owner pl) (hm:mask ∈ masks) {R:Nat} (hR:(lp mask h R).1 ∉ pl):∀ fuel r,R < r + fuel -> (∀ k,k < ix mask h r -> (sq mask h k).j ∈ pl) ->
 ∃ N,layClean.free mask owner fuel (lp mask h r).1 (lp mask h r).2 = some (sq mask h N).j /\ (sq mask h N).j ∉ pl /\ ∀ k,k < N -> (sq mask h k).j ∈ pl
  | 0,r,h1,h2=>by
    have:=h2 (ix mask h R) (ix_lt mask h (by omega));rw [sq_lp] at this;exact absurd this hR
  | fuel + 1,r,h1,h2=>by
    have rs:=λk hk=>Xmc mask h _ _ _ (sq_lp mask h r) k hk
    have hin:∀ k,k <= runEnd mask (lp mask h r).1 - (lp mask h r).1 -> (lp mask h r).1 + k <= mask:=λk hk=>by
      have:=sq_in mask h (ix mask h r + k);rw [rs k hk] at this;have z:(lp mask h r).1 + k + (runEnd mask (lp mask h r).1 - (lp mask h r).1 - k) <= mask:=this;omega
    have hre:(lp mask h r).1 <= runEnd mask (lp mask h r).1:=by unfold runEnd;split <;> omega
    unfold layClean.free
    split
    · rename_i k e
      obtain ⟨p1,p2,p3⟩:=List.find?_range_eq_some.mp e;have hk:k <= runEnd mask (lp mask h r).1 - (lp mask h r).1:=by have:=List.mem_range.mp p2;omega
      have ej:(sq mask h (ix mask h r + k)).j = (lp mask h r).1 + k:=by rw [rs k hk];rfl
      refine ⟨ix mask h r + k,by rw [ej],?_,λl hl=>?_⟩
      · rw [ej];exact (L.is (hin k hk)).mp p1
      · by_cases z:l < ix mask h r
        · exact h2 l z
        · obtain ⟨k',rfl⟩:∃ k',l = ix mask h r + k':=⟨l - ix mask h r,by omega⟩
          have hk':k' < k:=by omega
          have e2:(sq mask h (ix mask h r + k')).j = (lp mask h r).1 + k':=by rw [rs k' (by omega)];rfl
          rw [e2];refine Classical.byContradiction λn=>?_
          have:=p3 k' hk';rw [(L.is (hin k' (by omega))).mpr n] at this;cases this
    · rename_i e
      have e:=List.find?_eq_none.mp e;refine Xnz L hm hR fuel (r + 1) (by omega) λl hl=>?_
      by_cases z:l < ix mask h r
      · exact h2 l z
      · obtain ⟨k',rfl⟩:∃ k',l = ix mask h r + k':=⟨l - ix mask h r,by omega⟩
        have hl':ix mask h r + k' < ix mask h r + (runEnd mask (lp mask h r).1 - (lp mask h r).1) + 1:=hl;have hk':k' <= runEnd mask (lp mask h r).1 - (lp mask h r).1:=by omega
        have e2:(sq mask h (ix mask h r + k')).j = (lp mask h r).1 + k':=by rw [rs k' hk'];rfl
        rw [e2];exact Classical.byContradiction λn=>e k' (List.mem_range.mpr (by omega)) ((L.is (hin k' hk')).mpr n)
theorem Xtr (L:Lay mask hs owner pl) (hm:mask ∈ masks) (hl:pl.length <= mask) (h:Int) :
∃ N,layClean.free mask owner (turns mask) (bits h % (mask + 1)) (bits h) = some (sq mask h N).j /\ (sq mask h N).j ∉ pl /\ ∀ k,k < N -> (sq mask h k).j ∈ pl:=by
 obtain ⟨e,he,hn⟩:∃ e,e <= mask /\ e ∉ pl:=Classical.byContradiction λz=>by
  have:=Xfo mask pl L.nd λe he=>Classical.byContradiction λn=>z ⟨e,he,n⟩
  omega
 obtain ⟨R,hR,er⟩:=Xqm hm h he;exact Xnz L hm (R:=R) (by rw [er];exact hn) (turns mask) 0 (by unfold turns;omega) λk hk=>absurd hk (Nat.not_lt_zero _)
def Xee (mask:Nat) (acc:Option (Array (Option Nat) × Nat)) (h:Int):Option (Array (Option Nat) × Nat):=do
 let (owner,k) <- acc
 let j <- layClean.free mask owner (turns mask) (bits h % (mask + 1)) (bits h)
 pure (owner.setIfInBounds j (some k),k + 1)
theorem Xkb (hm:mask ∈ masks) (hl:hs.length <= mask):∀ (rest done:List Int) (owner:Array (Option Nat)) (pl:List Nat),hs = done ++ rest -> pl.length = done.length -> Lay mask hs owner pl ->
∃ owner' pl',rest.foldl (Xee mask) (some (owner,pl.length)) = some (owner',hs.length) /\ Lay mask hs owner' pl' /\ pl'.length = hs.length
 | [],done,owner,pl,e1,e2,L=>⟨owner,pl,by rw [e1,List.append_nil,<- e2];rfl,L,by rw [e1,List.append_nil,e2]⟩
 | h :: rest,done,owner,pl,e1,e2,L=>by
  have hk:pl.length < hs.length:=by rw [e1,e2];simp
  obtain ⟨N,f1,f2,f3⟩:=Xtr L hm (by omega) h;have hj:(sq mask h N).j <= mask:=by have:=sq_in mask h N;omega
  have hjs:(sq mask h N).j < owner.size:=by rw [L.size];omega
  have st:Xee mask (some (owner,pl.length)) h = some (owner.setIfInBounds (sq mask h N).j (some pl.length),pl.length + 1):=by
   unfold Xee;simp only [Option.bind_eq_bind,Option.bind_some,f1];rfl
  have L2:Lay mask hs (owner.setIfInBounds (sq mask h N).j (some pl.length)) (pl ++ [(sq mask h N).j]):=by
   refine ⟨by rw [Array.size_setIfInBounds];exact L.size,?_,?_,?_,?_,?_⟩
   ·rw [List.nodup_append]
    exact ⟨L.nd,by simp,λa ha b hb=>by simp at hb;subst hb;exact λz=>f2 (z ▸ ha)⟩
   ·intro j hj'
    rcases List.mem_append.mp hj' with z | z
    ·exact L.le j z
    ·simp at z;rw [z];exact hj
   ·intro q j e
    rw [Array.getElem?_setIfInBounds]
    by_cases hq:q < pl.length
    ·rw [List.getElem?_append_left hq] at e
     have ne:(sq mask h N).j ≠ j:=λz=>f2 (by rw [z];exact List.mem_of_getElem? e)
     rw [if_neg ne];exact L.at_ q j e
    ·rw [List.getElem?_append_right (by omega)] at e
     have z:q - pl.length = 0:=by
      cases hz:q - pl.length with
      | zero=>rfl
      | succ n=>rw [hz] at e;simp at e
     rw [z] at e;have ej:(sq mask h N).j = j:=by simpa using e
     rw [if_pos ej,if_pos hjs,show q = pl.length by omega]
   ·intro j hj' hn
    rw [List.mem_append,List.mem_singleton] at hn;rw [Array.getElem?_setIfInBounds,if_neg (λz=>hn (.inr z.symm))];exact L.no j hj' λz=>hn (.inl z)
   ·intro q j h' e eh
    have up:∀ {h'' j'},Rch mask pl h'' j' -> Rch mask (pl ++ [(sq mask h N).j]) h'' j':=λ⟨n,a,b⟩=>⟨n,a,λk hk=>List.mem_append_left _ (b k hk)⟩
    by_cases hq:q < pl.length
    ·rw [List.getElem?_append_left hq] at e
     exact up (L.rch q j h' e eh)
    ·rw [List.getElem?_append_right (by omega)] at e
     have z:q - pl.length = 0:=by
      cases hz:q - pl.length with
      | zero=>rfl
      | succ n=>rw [hz] at e;simp at e
     rw [z] at e;have ej:(sq mask h N).j = j:=by simpa using e
     have eq:q = done.length:=by omega
     rw [e1,eq,List.getElem?_append_right (Nat.le_refl _),Nat.sub_self] at eh;have eh':h = h':=by simpa using eh
     subst eh';exact ⟨N,ej,λk hk=>List.mem_append_left _ (f3 k hk)⟩
  obtain ⟨o',p',g1,g2,g3⟩:=Xkb hm hl rest (done ++ [h]) _ _ (by rw [e1];simp) (by simp [e2]) L2;refine ⟨o',p',?_,g2,g3⟩;rw [List.foldl_cons,st];rw [List.length_append] at g1;exact g1
theorem Xno (hm:mask ∈ masks) {hashes:Array Int} (hl:hashes.size <= mask):∃ owner pl,layClean mask hashes = some owner /\ Lay mask hashes.toList owner pl /\ pl.length = hashes.size:=by
 have L0:Lay mask hashes.toList (Array.replicate (mask + 1) none) []:=by
  refine ⟨by simp,List.nodup_nil,λj hj=>absurd hj List.not_mem_nil,λq j e=>by simp at e,λj hj _=>?_,λq j h e=>by simp at e⟩;rw [Array.getElem?_replicate,if_pos (by omega)]
 obtain ⟨o,p,g1,g2,g3⟩:=Xkb hm (by simpa using hl) hashes.toList [] _ [] rfl rfl L0;refine ⟨o,p,?_,g2,by simpa using g3⟩;unfold layClean;rw [<- Array.foldl_toList];have : (hashes.toList.foldl (Xee mask) (some (Array.replicate (mask + 1) none,0))) = some (o,hashes.toList.length):=g1
 have e:(λ(acc:Option (Array (Option Nat) × Nat)) (h:Int)=>(do
  let (owner,k) <- acc
  let j <- layClean.free mask owner (turns mask) (bits h % (mask + 1)) (bits h)
  pure (owner.setIfInBounds j (some k),k + 1):Option _)) = Xee mask:=rfl
 rw [e,this];rfl
theorem Xnp (hm:mask ∈ masks) {es:Array (Int × Value)} (hl:es.size <= mask) (finger moves:Nat) (led plain:Bool):∃ t order,laid mask finger moves led plain (es.map (·.1)) = some (t,order) /\
t.mask = mask /\ t.finger = finger /\ t.led = led /\ t.moves = moves /\ t.plain = plain /\ TOk t (order.filterMap (es[·]?)).toList /\ (order.filterMap (es[·]?)).toList.Perm es.toList:=by
 obtain ⟨owner,pl,c1,L,hpl⟩:=Xno hm (hashes:=es.map (·.1)) (by simpa using hl);have hpl:pl.length = es.size:=by simpa using hpl
 let g:Nat -> Option (Nat × Nat):=λj=>(owner.getD j none).map (j,·)
 let live:=(List.range (mask + 1)).filterMap g
 have og:∀ j,j <= mask -> owner.getD j none = if j ∈ pl then owner.getD j none else none:=λj hj=>by
  by_cases z:j ∈ pl
  ·rw [if_pos z]
  ·rw [if_neg z]
   have:=L.no j hj z;simp [Array.getD_eq_getD_getElem?,this]
 have oat:∀ q j,pl[q]? = some j -> owner.getD j none = some q:=λq j e=>by
  simp [Array.getD_eq_getD_getElem?,L.at_ q j e]
 have lm:∀ j q,(j,q) ∈ live ↔ pl[q]? = some j:=λj q=>by
  constructor
  ·intro hx
   obtain ⟨j',hj',e⟩:=List.mem_filterMap.mp hx;obtain ⟨q',e1,e2⟩:=Option.map_eq_some_iff.mp e;cases e2;have hjm:j <= mask:=Nat.le_of_lt_succ (List.mem_range.mp hj')
   by_cases z:j ∈ pl
   ·obtain ⟨k,hk,ek⟩:=List.mem_iff_getElem.mp z
    have ek':pl[k]? = some j:=by rw [List.getElem?_eq_getElem hk,ek]
    rw [oat k j ek'] at e1;cases e1;exact ek'
   ·rw [og j hjm,if_neg z] at e1;cases e1
  ·intro e
   refine List.mem_filterMap.mpr ⟨j,List.mem_range.mpr (Nat.lt_succ_of_le (L.le j (List.mem_of_getElem? e))),?_⟩
   show (owner.getD j none).map (j,·) = some (j,q)
   rw [oat q j e];rfl
 have srt:(live.map (·.1)).Pairwise (· < ·):=by
  rw [List.pairwise_map,List.pairwise_filterMap];refine List.pairwise_lt_range.imp λ{a b} hab x hx y hy=>?_
  obtain ⟨_,_,rfl⟩:=Option.map_eq_some_iff.mp hx;obtain ⟨_,_,rfl⟩:=Option.map_eq_some_iff.mp hy;exact hab
 have hq:∀ p ∈ live,p.2 < es.size:=λp hp=>by
  have:=(List.getElem?_eq_some_iff.mp ((lm p.1 p.2).mp hp)).1;omega
 have om:∀ l:List (Nat × Nat),(∀ p ∈ l,p.2 < es.size) -> (l.map (·.2)).filterMap (es[·]?) = l.map λp=>es.toList.getD p.2 (0,.none):=λl=>by
  induction l with
  | nil=>intro _;rfl
  | cons p r ih =>
   intro hl;have hp:=hl p (List.mem_cons_self ..);rw [List.map_cons,List.filterMap_cons,Array.getElem?_eq_getElem hp];rw [ih λx hx=>hl x (List.mem_cons_of_mem _ hx),List.map_cons]
   congr 1
   rw [List.getD_eq_getElem?_getD,List.getElem?_eq_getElem (by simpa using hp)];simp
 let t:SetTable:={ mask,place:=(live.map (·.1)).toArray,dummies:=#[],finger,led,moves,plain }
 have lnd:(live.map (·.2)).Nodup:=by
  rw [List.Nodup,List.pairwise_map];have : live.Nodup:=by
   refine (List.pairwise_map.mp srt).imp λ{a b} hab e=>?_
   rw [e] at hab;exact Nat.lt_irrefl _ hab
  refine List.Pairwise.imp_of_mem ?_ this;intro a b ha hb ne e;have e1:=(lm a.1 a.2).mp ha;have e2:=(lm b.1 b.2).mp hb;rw [e] at e1;rw [e1] at e2;exact ne (Prod.ext (Option.some.inj e2) e)
 have perm:(live.map (·.2)).Perm (List.range es.size):=(List.perm_ext_iff_of_nodup lnd List.nodup_range).mpr λq=>by
  rw [List.mem_range,List.mem_map]
  constructor
  ·rintro ⟨p,hp,rfl⟩;exact hq p hp
  ·intro z
   exact ⟨(pl[q],q),(lm _ _).mpr (List.getElem?_eq_getElem (by omega)),rfl⟩
 refine ⟨t,(live.map (·.2)).toArray,?_,rfl,rfl,rfl,rfl,rfl,?_,?_⟩
 ·unfold laid
  rw [c1];rfl
 ·rw [Array.toList_filterMap]
  show TOk t ((live.map (·.2)).filterMap (es[·]?))
  rw [om live hq];have hlen:live.length = es.size:=by have:=perm.length_eq;simpa using this
  refine ⟨rfl,by simp [t],srt,λj hj=>?_,hm,by show (live.map _).length <= mask;rw [List.length_map];omega,λi j h v ei ee=>?_⟩
  ·have hj:j ∈ live.map (·.1):=hj
   obtain ⟨p,hp,rfl⟩:=List.mem_map.mp hj;exact L.le _ (List.mem_of_getElem? ((lm p.1 p.2).mp hp))
  ·have ei:(live.map (·.1))[i]? = some j:=ei
   rw [List.getElem?_map] at ei ee;obtain ⟨p,ep,rfl⟩:=Option.map_eq_some_iff.mp ei;rw [ep] at ee;have ee:es.toList.getD p.2 (0,.none) = (h,v):=by simpa using ee
   have hp:=List.mem_of_getElem? ep;have e1:=(lm p.1 p.2).mp hp;have hp2:=hq p hp;have eh:(es.map (·.1)).toList[p.2]? = some h:=by
    rw [Array.toList_map,List.getElem?_map,List.getElem?_eq_getElem (by simpa using hp2)];rw [List.getD_eq_getElem?_getD,List.getElem?_eq_getElem (by simpa using hp2)] at ee;simp at ee ⊢;rw [ee]
   obtain ⟨n,a,b⟩:=L.rch p.2 p.1 h e1 eh;refine ⟨n,a,λk hk=>?_⟩;have:=b k hk;obtain ⟨q',hq',eq'⟩:=List.mem_iff_getElem.mp this
   show _ ∈ live.map (·.1)
   exact List.mem_map.mpr ⟨((sq mask h k).j,q'),(lm _ _).mpr (by rw [List.getElem?_eq_getElem hq',eq']),rfl⟩
 ·rw [Array.toList_filterMap]
  show ((live.map (·.2)).filterMap (es[·]?)).Perm _
  refine (perm.filterMap _).trans ?_;have : (List.range es.size).filterMap (es[·]?) = es.toList:=by
   have z:=om ((List.range es.size).map λi=>(i,i)) (λp hp=>by
    obtain ⟨i,hi,rfl⟩:=List.mem_map.mp hp
    exact List.mem_range.mp hi)
   rw [List.map_map,List.map_map] at z;have e1:(List.range es.size).map ((λx:Nat × Nat=>x.2) ∘ λi=>(i,i)) = List.range es.size:=List.map_id _;rw [e1] at z;rw [z];refine List.ext_getElem (by simp) λi h1 h2=>?_
   have h2':i < es.size:=by simpa using h2
   simp [h2']
  rw [this]
end
section
variable {prog:Program} {w:World} {Kk:Type} [DecidableEq Kk] {kd:PySem.KeyKind prog w Kk} {A:Around} {E:Value -> Shared -> Prop} {s:Shared}
theorem Xgf (n:Nat) {v:Value} (h:carriedByValue v = true):ofAClassStatement n v = pure false:=by
 cases v <;> first | (cases h;done) | (cases n <;> rfl)
theorem Xfi {ks:List Kk} {a:Addr} {Q:Bool -> Shared -> Prop} (hk:IsTupleKey kd s.heap ks a) (h:Q false s):wpAny (model prog w) A (ofAClassStatement 8 (.ref a)) Q E s:=by
 have hT:=hk.typeIs;obtain ⟨o,items,n,ho,_,hd,hi⟩:=hk;unfold ofAClassStatement;refine wpAny_bind (wpAny_typeOf hT ?_)
 show wpAny _ _ ((if ("tuple" == "tuple") = true then pure true else isSubtype (.type "tuple") (.type "tuple")) >>= _) _ _ s
 refine wpAny_bind (wpAny_pure ?_);simp only [Bool.not_true,Bool.false_eq_true,if_false];refine wpAny_bind (wpAny_seqItems ho hd ?_);refine wpAny_bind ?_
 show wpAny _ _ (forIn items _ _) _ _ s
 rw [<- Array.forIn_toList];refine wpAny_forIn_list _ (λrest r s'=>r.1 = none /\ s' = s /\ ∀ v ∈ rest,carriedByValue v = true) _ ?_ ?_ _ _ ⟨rfl,rfl,hi.byValue⟩
 ·rintro v rest r s' ⟨hr,rfl,hall⟩
  rw [Xgf _ (hall v List.mem_cons_self)];refine wpAny_bind (wpAny_pure ?_);simp only [Bool.false_eq_true,if_false];exact wpAny_pure ⟨rfl,rfl,λu hu'=>hall u (List.mem_cons_of_mem _ hu')⟩
 ·rintro ⟨r1,r2⟩ s' ⟨hr,rfl,_⟩
  simp only at hr;subst hr;exact wpAny_pure h
theorem Xrx {x:Addr} {kx:List Kk} {ys:List Value} {Q:Bool -> Shared -> Prop} (hx:IsTupleKey kd s.heap kx x) (hy:∀ y ∈ ys,∃ ky b,y = .ref b /\ IsTupleKey kd s.heap ky b) (h:Q false s):wpAny (model prog w) A (searchCouldBeSeen (.ref x) ys) Q E s:=by
 unfold searchCouldBeSeen;refine wpAny_bind ?_
 show wpAny _ _ (forIn ys _ _) _ _ s
 refine wpAny_forIn_list _ (λrest r s'=>r.1 = none /\ s' = s /\ ∀ y ∈ rest,∃ ky b,y = .ref b /\ IsTupleKey kd s.heap ky b) _ ?_ ?_ _ _ ⟨rfl,rfl,hy⟩
 ·rintro v rest r s' ⟨hr,rfl,hall⟩
  obtain ⟨ky,b,rfl,hb⟩:=hall v List.mem_cons_self;have nx:∀ {Q':ForInStep (MProd (Option Bool) PUnit) -> Shared -> Prop},True:=λ{_}=>trivial
  have fin:(none:Option Bool) = none /\ s' = s' /\ ∀ y ∈ rest,∃ ky b,y = .ref b /\ IsTupleKey kd s'.heap ky b:=⟨rfl,rfl,λu hu=>hall u (List.mem_cons_of_mem _ hu)⟩;dsimp only
  split
  ·exact wpAny_pure fin
  ·refine wpAny_bind (wpAny_eqIsQuiet_tuple hx ?_)
   simp only [Bool.not_true,Bool.false_eq_true,if_false];refine wpAny_bind (wpAny_eqIsQuiet_tuple hb ?_);simp only [Bool.not_true,Bool.false_eq_true,if_false];refine wpAny_bind (Xfi hx ?_);simp only [Bool.false_eq_true,if_false];refine wpAny_bind (Xfi hb ?_);simp only [Bool.false_eq_true,if_false];exact wpAny_pure fin
 ·rintro ⟨r1,r2⟩ s' ⟨hr,rfl,_⟩
  simp only at hr;subst hr;exact wpAny_pure h
end
theorem Xhj {m:Nat} (h:m ∈ masks):m % 2 = 1 /\ 7 <= m /\ m <= 1023:=by
 have : masks.all (λm=>decide (m % 2 = 1 /\ 7 <= m /\ m <= 1023)) = true:=by decide
 exact of_decide_eq_true (List.all_eq_true.mp this m h)
theorem TOk.fits {t:SetTable} {es:Array (Int × Value)} (ok:TOk t es.toList):t.fits es.size = true:=by
 have h1:t.place.size = es.size:=by have:=ok.len;simpa using this
 have h2:=ok.room;unfold SetTable.fits SetTable.fill;rw [ok.dm,h1];simp at h2 ⊢;exact h2
section
variable {prog:Program} {w:World} {Kk:Type} [DecidableEq Kk] {kd:PySem.KeyKind prog w Kk} {A:Around} {E:Value -> Shared -> Prop} {s:Shared}
def entT (kd:PySem.KeyKind prog w Kk) (p:List Kk × Addr):Int × Value:=(tupleKeyHash kd p.1,.ref p.2)
variable {a b:Addr} {o:Obj} {es:Array (Int × Value)} {ep N:Nat} {t:SetTable} {ps:List (List Kk × Addr)} {k:List Kk} {Q:SetFound -> Shared -> Prop}
theorem Xgy (ho:s.heap.get? a = some o) (hd:o.data = .set es ep t) (ok:TOk t es.toList) (hes:es.toList = ps.map (entT kd)) (hps:∀ p ∈ ps,IsTupleKey kd s.heap p.1 p.2) (hk:IsTupleKey kd s.heap k b) (hu:A.units < cLine)
(Em:Emp t.mask t.place.toList (tupleKeyHash kd k) N) (q1:(∃ p ∈ ps,p.1 = k) -> Q (.there none) s) (q2:(∀ p ∈ ps,p.1 ≠ k) -> Q (.free (sq t.mask (tupleKeyHash kd k) N).j false) s) :
∀ (fuel n:Nat) (sd:Option Probe),n <= N -> N - n < fuel -> sd.getD (t.probeStart (tupleKeyHash kd k)) = sq t.mask (tupleKeyHash kd k) n ->
(∀ l,l < n -> ∀ (i:Nat) (p:List Kk × Addr),t.place.toList[i]? = some (sq t.mask (tupleKeyHash kd k) l).j -> ps[i]? = some p -> p.1 ≠ k) ->
wpAny (model prog w) A (setSearchFrom a (.ref b) (tupleKeyHash kd k) true fuel sd) Q E s
 | 0,n,sd,_,hf,_,_=>absurd hf (Nat.not_lt_zero _)
 | fuel + 1,n,sd,hn,hf,hsd,hb=>by
  have hm:=Xhj ok.m;have hgw:t.gaveWay = false:=by unfold SetTable.gaveWay;rw [hm.1];rfl
  have eps:∀ (i:Nat),es[i]? = (ps[i]?).map (entT kd):=λi=>by rw [<- Array.getElem?_toList,hes,List.getElem?_map]
  have hp:=Xjp (hashAt:=λi=>(es[i]?.map (·.1)).getD 0) ok (λi e z=>by show (es[i]?.map (·.1)).getD 0 = _;rw [<- Array.getElem?_toList,z];rfl) Em (10 * turns t.mask) n hn (by have:=Em.lt;omega);unfold setSearchFrom;refine wpAny_bind (wpAny_setState_of ho hd ok.fits ?_);dsimp only;rw [hgw,hsd];simp only [Bool.false_eq_true,if_false];have noKey:NoH t es.toList (tupleKeyHash kd k) n N -> ∀ p ∈ ps,p.1 ≠ k:=λnh p hp e=>by
   obtain ⟨i,hi,ei⟩:=List.mem_iff_getElem.mp hp;have ei':ps[i]? = some p:=by rw [List.getElem?_eq_getElem hi,ei]
   have ee:es.toList[i]? = some (tupleKeyHash kd k,.ref p.2):=by rw [hes,List.getElem?_map,ei',<- e];rfl
   obtain ⟨l,hl,el⟩:=Xqd ok Em ee
   by_cases z:l < n
   ·exact hb l z i p el ei' e
   ·exact nh l (by omega) hl i _ el ee
  split
  ·rename_i met hmet
   rcases hp with ⟨l,i,v,l1,l2,e1,e2,nh,pe⟩ | ⟨nh,pe⟩
   ·have em:some met = some (Met.candidate (sq t.mask (tupleKeyHash kd k) l).j i (sq t.mask (tupleKeyHash kd k) (l + 1))):=hmet.symm.trans pe
    cases em;dsimp only;obtain ⟨p,ep1,ep2⟩:∃ p,ps[i]? = some p /\ entT kd p = (tupleKeyHash kd k,v):=by
     rw [hes,List.getElem?_map] at e2;exact Option.map_eq_some_iff.mp e2
    have hpk:=hps p (List.mem_of_getElem? ep1);have ev:v = .ref p.2:=(Prod.mk.inj ep2).2.symm;subst ev;have ei:es[i]? = some (tupleKeyHash kd k,.ref p.2):=by rw [eps,ep1];show some (entT kd p) = _;rw [ep2]
    refine (λ(rest:(?R:Prop))=>?use) ?rest
    case use =>
     cases hled:t.led with
     | true =>
      simp only [Bool.not_true,Bool.false_eq_true,if_false];exact rest
     | false =>
      simp only [Bool.not_false,if_true];refine wpAny_bind (Xrx hk (λy hy=>?_) ?_)
      ·obtain ⟨e,he,rfl⟩:=List.mem_map.mp hy
       simp at he;have he:=Array.mem_toList_iff.mpr he.1;rw [hes] at he;obtain ⟨p',hp',rfl⟩:=List.mem_map.mp he;exact ⟨p'.1,p'.2,rfl,hps p' hp'⟩
      ·simp only [Bool.false_eq_true,if_false]
       exact rest
    case rest =>
     rw [ei];dsimp only;refine wpAny_bind (wpAny_holding (wpAny_eqBool_tuple hu hpk hk ?_));refine wpAny_bind (wpAny_setState_of ho hd ok.fits ?_);dsimp only
     by_cases e:p.1 = k
     ·rw [decide_eq_true e]
      simp only [Bool.and_self,if_true];exact wpAny_pure (q1 ⟨p,List.mem_of_getElem? ep1,e⟩)
     ·rw [decide_eq_false e]
      simp only [Bool.and_false,Bool.false_eq_true,if_false];have sm:t.sameMemory t.moves t.mask = some true:=by unfold SetTable.sameMemory;simp
      rw [sm];dsimp only;rw [if_pos rfl,Xgw ok.srt e1];dsimp only;rw [ei];dsimp only;refine wpAny_bind (wpAny_isSame_ref_self (wpAny_bind (wpAny_pure ?_)));simp only [if_true];refine Xgy ho hd ok hes hps hk hu Em q1 q2 fuel (l + 1) (some _) (by omega) (by omega) rfl λl' hl' i' p' z1 z2=>?_
      by_cases c1:l' < n
      ·exact hb l' c1 i' p' z1 z2
      ·by_cases c2:l' = l
       ·subst c2
        have : i' = i:=by rw [<- Xct ok.srt z1,<- Xct ok.srt e1]
        subst this;rw [ep1] at z2;cases z2;exact e
       ·intro z
        refine nh l' (by omega) (by omega) i' (.ref p'.2) z1 ?_;rw [hes,List.getElem?_map,z2,<- z];rfl
   ·have em:some met = some (Met.empty (sq t.mask (tupleKeyHash kd k) N).j none):=hmet.symm.trans pe
    cases em;exact wpAny_pure (q2 (noKey nh))
  ·rename_i hmet
   rcases hp with ⟨l,i,v,_,_,_,_,_,pe⟩ | ⟨_,pe⟩
   ·exact (hmet _ pe).elim
   ·exact (hmet _ pe).elim
end
theorem Xqb:∀ n,n < 256 -> sizeAbove (SetTable.grown n) - 1 ∈ masks /\ n * 5 < (sizeAbove (SetTable.grown n) - 1) * 3 /\ sizeAbove (SetTable.grown n) <= 1024:=by
 have h:(List.range 256).all (λn=>decide (sizeAbove (SetTable.grown n) - 1 ∈ masks /\ n * 5 < (sizeAbove (SetTable.grown n) - 1) * 3 /\ sizeAbove (SetTable.grown n) <= 1024)) = true:=by decide +kernel
 exact λn hn=>of_decide_eq_true (List.all_eq_true.mp h n (List.mem_range.mpr hn))
section
variable {prog:Program} {w:World} {Kk:Type} [DecidableEq Kk] {kd:PySem.KeyKind prog w Kk} {A:Around} {E:Value -> Shared -> Prop} {s:Shared}
def Xdn (kd:PySem.KeyKind prog w Kk):Prop:=∀ (n:Nat) (k:Kk) (v:Value),kd.is k v = true -> hashByValue n v = pure true
theorem Xiu (hp:Xdn kd) {ks:List Kk} {vs:List Value} (h:ItemsAre kd ks vs):∀ v ∈ vs,hashByValue 7 v = pure true:=by
 induction h with
 | nil=>intro v hv;cases hv
 | cons h1 _ ih =>
  intro v hv
  rcases List.mem_cons.mp hv with e | e
  ·rw [e];exact hp 7 _ _ h1
  ·exact ih v e
theorem Xwq (hp:Xdn kd) {ks:List Kk} {a:Addr} {Q:Bool -> Shared -> Prop} (hk:IsTupleKey kd s.heap ks a) (h:Q true s):wpAny (model prog w) A (hashByValue 8 (.ref a)) Q E s:=by
 have hT:=hk.typeIs;obtain ⟨o,items,n,ho,hc,hd,hi⟩:=hk;unfold hashByValue;refine wpAny_bind (wpAny_specialOf hT F.slot_tuple_hash.lookup ?_);dsimp only;refine wpAny_bind (wpAny_seqItems ho hd (wpAny_bind (show wpAny _ _ (forIn items _ _) _ _ s from ?_)));rw [<- Array.forIn_toList];refine wpAny_forIn_list _ (λrest r s'=>r.1 = none /\ s' = s /\ ∀ v ∈ rest,hashByValue 7 v = pure true) _ ?_ ?_ _ _ ⟨rfl,rfl,Xiu hp hi⟩
 ·rintro v rest r s' ⟨hr,rfl,hall⟩
  rw [hall v List.mem_cons_self];refine wpAny_bind (wpAny_pure ?_);simp only [Bool.not_true,Bool.false_eq_true,if_false];exact wpAny_pure ⟨rfl,rfl,λu hu'=>hall u (List.mem_cons_of_mem _ hu')⟩
 ·rintro ⟨r1,r2⟩ s' ⟨hr,rfl,_⟩
  simp only at hr;subst hr;exact wpAny_pure h
def Ld (w:World) (t:SetTable):Prop:=(w.params.followText "set-order" = false -> t.led = true) /\ t.plain = true
def SetT (kd:PySem.KeyKind prog w Kk) (h:Heap) (a:Addr) (ps:List (List Kk × Addr)):Prop:=∃ o es ep t,h.get? a = some o /\ o.ExactSet /\ o.data = .set es ep t /\ TOk t es.toList /\ es.toList = ps.map (entT kd) /\ ps.length * 5 < t.mask * 3 /\ (ps.map (·.1)).Nodup /\ Ld w t
variable {a b:Addr} {ps:List (List Kk × Addr)} {k:List Kk}
theorem Xdv {h:Heap} {o:Obj} {es es':Array (Int × Value)} {ep:Nat} {t t':SetTable} (ho:h.get? a = some o) (hd:o.data = .set es ep t):(h.update a (Obj.putSet es' t')).get? a = some { o with data:=.set es' (ep + 1) t' }:=by
 have:=Heap.get?_update_self (Obj.putSet es' t') ho (by rw [putSet_of es' t' hd];rfl);rw [putSet_of es' t' hd] at this;exact this
theorem Xjk {o:Obj} {es:Array (Int × Value)} {ep:Nat} {t:SetTable} {Q:Unit -> Shared -> Prop} {wanted:Nat} (ho:s.heap.get? a = some o) (hex:o.ExactSet) (hd:o.data = .set es ep t) (hf:t.fits es.size = true) (hes:es.toList = ps.map (entT kd)) (nd:(ps.map (·.1)).Nodup) (hld:Ld w t)
(hw:sizeAbove wanted - 1 ∈ masks /\ ps.length * 5 < (sizeAbove wanted - 1) * 3 /\ sizeAbove wanted <= 1024) (h:∀ h' ps',Heap.SameBut a s.heap h' -> SetT kd h' a ps' -> ps'.Perm ps -> (∀ o es ep t,h'.get? a = some o -> o.data = .set es ep t -> t.mask = sizeAbove wanted - 1) -> Q () { s with heap:=h' }):wpAny (model prog w) A (setRelay a wanted) Q E s:=by
 have hlen:es.size = ps.length:=by have:=congrArg List.length hes;simpa using this
 obtain ⟨t',order,e1,e2,e3,e4,e5,e6,ok,pm⟩:=Xnp hw.1 (es:=es) (by omega) t.finger (t.movedTo (sizeAbove wanted - 1)) t.led t.plain;have er:t.relaid (es.map (·.1)) wanted = some (t',order):=e1;have hsz:(order.filterMap (es[·]?)).size = es.size:=by have:=pm.length_eq;rwa [Array.length_toList,Array.length_toList] at this
 obtain ⟨ps',pm',hps'⟩:=Xaq (entT kd) pm ps hes;unfold setRelay;refine wpAny_bind (wpAny_setState_of ho hd hf ?_);dsimp only;rw [if_neg (by rw [sizeLine_eq];omega),er];refine wpAny_bind ?_;refine (λ(z:(?R:Prop))=>?use) ?z
 case use =>
  refine (show wpAny _ _ (if _ then _ else _) _ _ _ from ?_);rw [if_neg (by rw [hsz];simp)];exact z
 case z =>
  refine wpAny_pure ?_;dsimp only;refine wpAny_storeSet_of ho hd (h _ ps' (Heap.SameBut.update _ _ _) ⟨_,_,_,_,Xdv ho hd,hex,rfl,ok,hps',?_,?_⟩ pm' λo2 es2 ep2 t2 z1 z2=>?_) (by rw [hsz,sizeLine_eq];omega)
  ·rw [e2,pm'.length_eq];exact hw.2.1
  case refine_3=>rw [Xdv ho hd] at z1;cases z1;cases z2;exact e2
  ·exact ⟨(pm'.map _).nodup_iff.mpr nd,λz=>e4.trans (hld.1 z),e6.trans hld.2⟩
theorem ins_perm {α:Type} {p:Nat} {x:α} {l:List α}:(ins p x l).Perm (x :: l):=by
 unfold ins;refine List.perm_middle.trans ?_;rw [List.take_append_drop]
theorem Xtp {α β:Type} {f:α -> β} {p:Nat} {x:α} {l:List α}:(ins p x l).map f = ins p (f x) (l.map f):=by
 unfold ins;rw [List.map_append,List.map_cons,List.map_take,List.map_drop]
theorem Xrm {Q:Bool -> Shared -> Prop} (hp:Xdn kd) (hS:SetT kd s.heap a ps) (hps:∀ p ∈ ps,IsTupleKey kd s.heap p.1 p.2) (hk:IsTupleKey kd s.heap k b) (hu:A.units < cLine) (hlen:ps.length < 255)
(h:∀ h' ps' r,Heap.SameBut a s.heap h' -> SetT kd h' a ps' -> ((∃ p ∈ ps,p.1 = k) /\ ps' = ps \/ (∀ p ∈ ps,p.1 ≠ k) /\ ps'.Perm ((k,b) :: ps)) -> Q r { s with heap:=h' }) :
wpAny (model prog w) A (setAddHashed a (.ref b) (tupleKeyHash kd k)) Q E s:=by
 obtain ⟨o,es,ep,t,ho,hex,hd,ok,hes,hfull,nd,hld⟩:=id hS;have hl:es.size = ps.length:=by have:=congrArg List.length hes;simpa using this
 have hm:=Xhj ok.m;obtain ⟨N,Em⟩:=Xwr ok.srt (by rw [ok.len,hes,List.length_map];omega) ok.m (tupleKeyHash kd k);unfold setAddHashed setAddHashedIn;refine wpAny_holding (wpAny_bind (wpAny_setState_of ho hd ok.fits ?_));dsimp only;rw [show byScan (.ref b) es = false from rfl];simp only [Bool.false_eq_true,if_false];refine wpAny_bind ?_;unfold setSearch;have hN:N < 100000:=by have:=Em.lt;unfold turns at this;omega
 refine Xgy ho hd ok hes hps hk hu Em (λex=>?_) (λno=>?_) 100000 0 none (Nat.zero_le _) (by omega) rfl (λl hl=>absurd hl (Nat.not_lt_zero _))
 ·refine wpAny_pure ?_
  have:=h s.heap ps false (Heap.SameBut.refl _ _) hS (.inl ⟨ex,rfl⟩);exact this
 ·dsimp only
  refine wpAny_bind (wpAny_setState_of ho hd ok.fits ?_);dsimp only;obtain ⟨p1,p2,p3,p4⟩:=Xuu ok Em (.ref b) (by rw [hes,List.length_map];omega);have nd':((ins (below t.place (sq t.mask (tupleKeyHash kd k) N).j) (k,b) ps).map (·.1)).Nodup:=by
   refine (ins_perm.map _).nodup_iff.mpr ?_;rw [List.map_cons,List.nodup_cons];exact ⟨λz=>by obtain ⟨p,hp,e⟩:=List.mem_map.mp z;exact no p hp e,nd⟩
  have fin:∀ (tt:SetTable),tt.mask = t.mask -> tt.led = t.led -> tt.plain = true -> TOk tt (ins (below t.place (sq t.mask (tupleKeyHash kd k) N).j) (tupleKeyHash kd k,.ref b) es.toList) ->
    wpAny (model prog w) A (do
     storeSet a (insertAt es (below t.place (sq t.mask (tupleKeyHash kd k) N).j) (tupleKeyHash kd k,.ref b)) tt
     if (!false && tt.tooFull) = true then setRelay a (SetTable.grown (es.size + 1))
     pure true) Q E s:=by
   intro tt em el epl tok;have hld':Ld w tt:=⟨λz=>el.trans (hld.1 z),epl⟩;have hio:(insertAt es (below t.place (sq t.mask (tupleKeyHash kd k) N).j) (tupleKeyHash kd k,.ref b)).toList = ins (below t.place (sq t.mask (tupleKeyHash kd k) N).j) (tupleKeyHash kd k,.ref b) es.toList:=Xcn _ _ _;have hie:(insertAt es (below t.place (sq t.mask (tupleKeyHash kd k) N).j) (tupleKeyHash kd k,.ref b)).toList = (ins (below t.place (sq t.mask (tupleKeyHash kd k) N).j) (k,b) ps).map (entT kd):=by rw [hio,hes,Xtp];rfl
   have hl':(ins (below t.place (sq t.mask (tupleKeyHash kd k) N).j) (k,b) ps).length = es.size + 1:=by rw [ins_perm.length_eq,List.length_cons,hl]
   have hz:(insertAt es (below t.place (sq t.mask (tupleKeyHash kd k) N).j) (tupleKeyHash kd k,.ref b)).size = es.size + 1:=by rw [<- Array.length_toList,hie,List.length_map,hl']
   rw [<- hio] at tok;have sb0:=Heap.SameBut.update s.heap a (Obj.putSet (insertAt es (below t.place (sq t.mask (tupleKeyHash kd k) N).j) (tupleKeyHash kd k,.ref b)) tt);refine wpAny_bind (wpAny_storeSet_of ho hd ?_ (by rw [hz,sizeLine_eq];omega));have ho1:=Xdv (es':=insertAt es (below t.place (sq t.mask (tupleKeyHash kd k) N).j) (tupleKeyHash kd k,.ref b)) (t':=tt) ho hd
   by_cases tf:tt.tooFull = true
   ·rw [tf]
    simp only [Bool.not_false,Bool.and_self,if_true];have hg:=Xqb (es.size + 1) (by omega);refine wpAny_bind (Xjk (kd:=kd) (ps:=ins (below t.place (sq t.mask (tupleKeyHash kd k) N).j) (k,b) ps) ho1 hex rfl tok.fits hie nd' hld' (by rw [hl'];exact hg) λh' ps' sb st pm _=>wpAny_pure ?_);exact h _ ps' true (sb0.trans sb) st (.inr ⟨no,pm.trans ins_perm⟩)
   ·rw [Bool.eq_false_iff.mpr tf]
    simp only [Bool.not_false,Bool.and_false,Bool.false_eq_true,if_false];refine wpAny_pure (h _ _ true sb0 ⟨_,_,_,_,ho1,hex,rfl,tok,hie,?_,nd',hld'⟩ (.inr ⟨no,ins_perm⟩));have z:¬ tt.fill * 5 ≥ tt.mask * 3:=λz=>tf (by unfold tooFull;exact decide_eq_true z)
    have zf:tt.fill = es.size + 1:=by
     unfold SetTable.fill;rw [tok.dm];have:=tok.len;rw [Array.length_toList,Array.length_toList,hz] at this;rw [this];rfl
    rw [hl'];omega
  rw [p3] at p4;rw [show t.put (sq t.mask (tupleKeyHash kd k) N).j = ((t.put (sq t.mask (tupleKeyHash kd k) N).j).1,(t.put (sq t.mask (tupleKeyHash kd k) N).j).2) from rfl,p1,p3];dsimp only;rw [if_pos hld.2];exact wpAny_bind (Xwq hp hk (fin _ rfl rfl hld.2 p4))
end
open PySem PySem.SetTable PySem.Spec
theorem IsTupleKey.to {prog:Program} {w:World} {Kk:Type} [DecidableEq Kk] {kd:PySem.KeyKind prog w Kk} {h h':Heap} {k:List Kk} {b:Addr} (x:IsTupleKey kd h k b) (e:∀ o,h.get? b = some o -> h'.get? b = some o):IsTupleKey kd h' k b :=
 let ⟨o,its,n,ho,r⟩:=x;⟨o,its,n,e _ ho,r⟩
theorem SetT.to {prog:Program} {w:World} {Kk:Type} [DecidableEq Kk] {kd:PySem.KeyKind prog w Kk} {h h':Heap} {a:Addr} {ps:List (List Kk × Addr)} (x:SetT kd h a ps) (e:∀ o,h.get? a = some o -> h'.get? a = some o):SetT kd h' a ps :=
 let ⟨o,es,ep,t,ho,r⟩:=x;⟨o,es,ep,t,e _ ho,r⟩
structure Met {Kk:Type} (xs:List (List Kk × Addr)) (i:Nat) (ps:List (List Kk × Addr)):Prop where
 len:ps.length <= i
 sub:∀ p ∈ ps,p ∈ xs
 key:∀ (j:Nat) (x:List Kk × Addr),j < i -> xs[j]? = some x -> ∃ p ∈ ps,p.1 = x.1
theorem Met.step {Kk:Type} {xs ps ps':List (List Kk × Addr)} {i:Nat} {x:List Kk × Addr} (m:Met xs i ps) (e:xs[i]? = some x) (h:(∃ p ∈ ps,p.1 = x.1) /\ ps' = ps \/ (∀ p ∈ ps,p.1 ≠ x.1) /\ ps'.Perm (x :: ps)):Met xs (i + 1) ps':=by
 rcases h with ⟨ex,rfl⟩ | ⟨_,pm⟩
 ·refine ⟨Nat.le_succ_of_le m.len,m.sub,λj y hj ey=>?_⟩
  by_cases z:j = i
  ·subst z;rw [e] at ey;cases ey;exact ex
  ·exact m.key j y (by omega) ey
 ·refine ⟨by rw [pm.length_eq,List.length_cons];have:=m.len;omega,λp hp=>?_,λj y hj ey=>?_⟩
  ·rcases List.mem_cons.mp (pm.mem_iff.mp hp) with z | z
   ·rw [z];exact List.mem_of_getElem? e
   ·exact m.sub p z
  ·by_cases z:j = i
   ·subst z;rw [e] at ey;cases ey;exact ⟨x,pm.mem_iff.mpr (List.mem_cons_self ..),rfl⟩
   ·obtain ⟨p,hp,ek⟩:=m.key j y (by omega) ey
    exact ⟨p,pm.mem_iff.mpr (List.mem_cons_of_mem _ hp),ek⟩
section
variable {prog:Program} {w:World} {A:Around} {R:Result -> Shared -> Prop} {I:Addr} {fp wr:List Addr} {G:Array GenState -> Array GenState -> Prop} {n:Nat} {P:Nat -> Value -> Prop} {St:Nat -> Shared -> Prop} {Kk:Type} [DecidableEq Kk] {kd:PySem.KeyKind prog w Kk}
theorem Xoy (hpk:Xdn kd) (W:WalksS prog w A.in1 I fp wr G n P St) (S:Addr) (hSf:S ∉ fp) (xs:List (List Kk × Addr)) (hval:∀ i v,P i v -> ∃ x,xs[i]? = some x /\ v = .ref x.2) (hxs:∀ x ∈ xs,x.2 ∉ S :: wr) (hu:A.in1.units < cLine) (hb:n < 255) :
∀ (k i:Nat) (s:Shared) (ps:List (List Kk × Addr)),n - i = k -> i <= n -> St i s -> SetT kd s.heap S ps -> Met xs i ps -> (∀ x ∈ xs,IsTupleKey kd s.heap x.1 x.2) ->
(∀ s' ps',Moved (S :: wr) G s s' -> SetT kd s'.heap S ps' -> Met xs n ps' -> R (.ok (.ret .none)) s') -> codeAny (model prog w) A (.builtin "set.update.loop" ⟨[.ref S,.ref I],[]⟩) R s:=by
 have nSw:S ∉ wr:=λz=>hSf (W.sub _ z)
 have up:∀ b ∈ wr,b ∈ S :: wr:=λb hb=>List.mem_cons_of_mem _ hb
 intro k
 induction k with
 | zero =>
  intro i s ps hk hi hst hS hm hT hR;obtain rfl:i = n:=by omega
  refine codeAny_builtin PyProof.Rows.F.entry_set_update_loop ?_;rw [Around.under_plainId PyProof.Rows.F.plain_set_update_loop _];refine (show wpAny _ A.in1 (pyNext (.ref I) >>= _) _ _ s from wpAny_bind (W.done s _ _ hst λs' mv=>?_));refine (show wpAny _ A.in1 (ret Value.none) _ _ s' from wpAny_pure ?_);exact hR s' ps (mv.mono up) (hS.to λo e=>mv.heap S _ nSw e) hm
 | succ k ih =>
  intro i s ps hk hi hst hS hm hT hR;have hlt:i < n:=by omega
  refine codeAny_builtin PyProof.Rows.F.entry_set_update_loop ?_;rw [Around.under_plainId PyProof.Rows.F.plain_set_update_loop _];refine (show wpAny _ A.in1 (pyNext (.ref I) >>= _) _ _ s from wpAny_bind (W.item i s _ _ hlt hst λv s' hP hst' mv=>?_));obtain ⟨x,ex,rfl⟩:=hval i v hP;have hx:=List.mem_of_getElem? ex;have hS':=hS.to (h':=s'.heap) λo e=>mv.heap S _ nSw e
  have hT':∀ y ∈ xs,IsTupleKey kd s'.heap y.1 y.2:=λy hy=>IsTupleKey.to (hT y hy) λo e=>mv.heap _ _ (λz=>hxs y hy (List.mem_cons_of_mem _ z)) e
  refine (show wpAny _ A.in1 (holding [Value.ref x.2] (setAdd S (.ref x.2)) >>= _) _ _ s' from wpAny_bind (wpAny_holding ?_));unfold setAdd;refine wpAny_holding (wpAny_bind (wpAny_pyHash_tuple hu (hT' x hx) ?_))
  refine Xrm hpk (kd:=kd) (s:={ s' with toks:=s'.toks + (x.1.length + 1) }) hS' (λp hp=>hT' p (hm.sub p hp)) (hT' x hx) hu (by have:=hm.len;omega) λh' ps' r sb hS2 hor=>?_
  refine wpAny_pure ⟨plainId_quiet PyProof.Rows.F.plain_set_update_loop _,ih (i + 1) _ ps' (by omega) hlt (W.frame _ s' _ _ hst' (Nat.le_add_right _ _) λb hb o e=>?_) hS2 (hm.step ex hor) (λy hy=>IsTupleKey.to (hT' y hy) λo e=>?_) λs'' ps'' mv2 hS3 hm3=>?_⟩
  ·rw [sb.2 b (λz=>hSf (by rw [<- z];exact hb))];exact e
  ·rw [sb.2 _ (λz=>hxs y hy (by rw [z];exact List.mem_cons_self ..))];exact e
  ·refine hR s'' ps'' (Moved.trans W.gtrans ((mv.mono up).then_heap (Nat.le_add_right _ _) λb o hb e=>?_) mv2) hS3 hm3
   rw [sb.2 b (λz=>hb (by rw [z];exact List.mem_cons_self ..))];exact e
end
abbrev oF (led:Bool):Obj:={ cls:=.type "set", dict:=none,data:=.set #[] 0 (.fresh 0 0 led) }
theorem Xny (led:Bool):TOk (.fresh 0 0 led) []:=⟨rfl,rfl,List.Pairwise.nil,λj hj=>absurd hj List.not_mem_nil,by show 7 ∈ masks;decide,Nat.zero_le _,λi j h v e=>by simp [SetTable.fresh] at e⟩
theorem Xkh {prog:Program} {w:World} {Kk:Type} [DecidableEq Kk] (kd:PySem.KeyKind prog w Kk) {h:Heap} {a:Addr} {led:Bool} (hl:w.params.followText "set-order" = false -> led = true) (e:h.get? a = some (oF led)):SetT kd h a [] :=
 ⟨_,_,_,_,e,⟨rfl,rfl,rfl⟩,rfl,Xny led,rfl,by show 0 * 5 < 7 * 3;decide,List.nodup_nil,hl,rfl⟩
section
variable {prog:Program} {w:World} {A:Around} {E:Value -> Shared -> Prop} {s:Shared} {Kk:Type} [DecidableEq Kk] {kd:PySem.KeyKind prog w Kk}
theorem Xox (v:Value) {Q:Value -> Shared -> Prop} (h:Q (.ref s.heap.objs.size) { s with heap:=s.heap.push (oF (!w.params.followText "set-order")) }) :
codeAny (model prog w) A (.call (.builtin "set.__new__") ⟨[.type "set", v],[]⟩) (wants Q E) s:=by
 refine codeAny_of_tree (show wpAny _ A.in1 (do checkBuiltinCall "set.__new__" ⟨[.type "set", v],[]⟩;again (.builtin "set.__new__" ⟨[.type "set", v],[]⟩)) _ _ s from ?_);refine wpAny_bind (wpAny_of_eq (PySem.F.newCall_set_1 v) (wpAny_pure ⟨plainId_quiet PySem.F.plain_set_new _,codeAny_builtin PySem.F.entry_set_new ?_⟩));rw [Around.under_plainId PySem.F.plain_set_new _];unfold Builtin.«set.__new__» Builtin.Frozenset.newClass;have zs:=sub_set_self;obtain ⟨hp,g,d,tk,os⟩:=s;dsimp only;wp_walk;refine wpAny_askSetting (wpAny_pure ?_);dsimp only;simp only [newObj];exact wpAny_bind (wpAny_alloc (wpAny_pure (wpAny_pure h)))
theorem Xoi {l:Addr} {items:Array Value} {xs:List (List Kk × Addr)} {Q:Value -> Shared -> Prop} (hpk:Xdn kd) (hh:A.handled = none) (hu:A.units + 9 < cLine) (hl:s.heap.IsList l items) (hi:items.toList = xs.map λx=>.ref x.2) (hx0:∀ x ∈ xs,IsTupleKey kd s.heap x.1 x.2) (hb:xs.length < 255)
(h:∀ (h':Heap) (tk:Nat) (ps:List (List Kk × Addr)),SetT kd h' s.heap.objs.size ps -> Met xs xs.length ps -> (∀ b o,b < s.heap.objs.size -> s.heap.get? b = some o -> h'.get? b = some o) -> Q (.ref s.heap.objs.size) { s with heap:=h',toks:=tk }) :
wpAny (model prog w) A (PySem.call (.type "set") [.ref l]) Q E s:=by
 obtain ⟨c,rest,zm⟩:=F.called_set.mro;have zd:=F.called_set.made;have zs:=F.called_set.sub;refine wpAny_call (codeAny_of_tree (show wpAny _ _ (callAny (.type "set") _) _ _ _ from ?_));refine wpAny_pure ⟨Code.quiet_builtin _ (by decide +kernel),codeAny_builtin F.entry_type_call ?_⟩;rw [Around.under_plain (weight_type_call_type "set" [.ref l] []) rfl];have z1:=F.called_set.notType;have z2:=F.called_set.canCreate;have zc:=F.typeCall_set_1 (.ref l)
 repeat any_goals first | assumption | wp_step
 refine codeAny_mono (Xox (.ref l) (E:=E) (Q:=λvS sA=>∃ ld:Bool,(w.params.followText "set-order" = false -> ld = true) /\ vS = .ref s.heap.objs.size /\ sA = { s with heap:=s.heap.push (oF ld) }) ⟨_,λz=>by rw [z];rfl,rfl,rfl⟩) λr sA er=>?_
 cases r with
 | error e=>exact er
 | ok fw =>
  cases fw with
  | ret vS =>
   obtain ⟨ld,hld,rfl,rfl⟩:=er;have eS:(s.heap.push (oF ld)).get? s.heap.objs.size = some (oF ld):=Heap.get?_push_size _ rfl
   have tS:Shared.TypeIs { s with heap:=s.heap.push (oF ld) } (.ref s.heap.objs.size) "set" := ⟨_,eS,rfl⟩;have zi:=F.called_set.init.lookup;have zb:=F.called_set.init.bind (.ref s.heap.objs.size)
   repeat any_goals first | assumption | wp_step
   refine codeAny_mono (codeAny_call_builtin (R:=wants (λr sB=>r = .none /\ ∃ h' tk,sB = { s with heap:=h',toks:=tk } /\
     (∃ ps,SetT kd h' s.heap.objs.size ps /\ Met xs xs.length ps) /\
     (∀ b o,b < s.heap.objs.size -> s.heap.get? b = some o -> h'.get? b = some o)) E) F.called_set.init.plain F.entry_set_init (check_set_init_1 tS ?_)) λr2 sB er2=>?_
   ·obtain ⟨oL,gl,k1,nL,k2⟩:=hl
    obtain ⟨c1,c2,c3,c4⟩:=oL;simp only at k1 k2;subst k1;subst k2;have gl1:(s.heap.push (oF ld)).get? l = some { cls:=.type "list", dict:=c2,data:=.seq items nL,slots:=c4 }:=Heap.get?_push_of_some _ gl;have y1:=F.sub_list_set;have y2:=F.sub_list_frozenset;have y3:(Value.type "list" == Value.type "dict") = false:=by decide
    have li:(s.heap.push (oF ld)).IsList l items:=⟨_,gl1,rfl,nL,rfl⟩;unfold Builtin.«set.__init__» noKeywords Builtin.Frozenset.updateFrom;generalize ePI:pyIter = pI
    wp_walk
    subst ePI;refine wpAny_pyIter_list li ?_;refine wpAny_bind (wpAny_runValue ?_);have lS:l < s.heap.objs.size:=Heap.lt_size gl;have hd3:A.in1.in1.in1.handled = none:=by simp [hh]
    have neI:l ≠ (s.heap.push (oF ld)).objs.size:=by
     rw [Heap.size_push];exact Nat.ne_of_lt (Nat.lt_succ_of_lt lS)
    have nf:s.heap.objs.size ∉ [(s.heap.push (oF ld)).objs.size,l]:=by
     rw [Heap.size_push];simp only [List.mem_cons,List.mem_singleton,List.not_mem_nil,or_false,not_or];exact ⟨Nat.ne_of_lt (Nat.lt_succ_self _),Nat.ne_of_gt lS⟩
    have hval:∀ (i:Nat) (v:Value),items[i]? = some v -> ∃ x,xs[i]? = some x /\ v = .ref x.2:=λi v hv=>by
     rw [<- Array.getElem?_toList,hi,List.getElem?_map] at hv;obtain ⟨x,e1,e2⟩:=Option.map_eq_some_iff.mp hv;exact ⟨x,e1,e2.symm⟩
    have hzn:items.size = xs.length:=by have:=congrArg List.length hi;simpa using this
    have hlow:∀ x ∈ xs,x.2 < s.heap.objs.size:=λx hx=>by obtain ⟨o,_,_,ho,_⟩:=hx0 x hx;exact Heap.lt_size ho
    refine Xoy hpk (kd:=kd) ((Walks.list hd3 _ l neI items).toS) s.heap.objs.size nf xs hval (λx hx=>?hne) (by show A.units + 1 + 1 + 1 < cLine;omega) (by omega) (items.size - 0) 0 _ [] (by omega) (Nat.zero_le _)
     ⟨⟨_,Heap.get?_push_size _ rfl,rfl,rfl⟩,(li.push _)⟩ ?hS0 ⟨Nat.le_refl _,λp hp=>absurd hp List.not_mem_nil,λj x hj=>absurd hj (Nat.not_lt_zero _)⟩ (λx hx=>IsTupleKey.to (hx0 x hx) λo e=>Heap.get?_push_of_some _ (Heap.get?_push_of_some _ e)) ?hR
    case hne =>
     have:=hlow x hx;rw [Heap.size_push];simp only [List.mem_cons,List.not_mem_nil,or_false,not_or];exact ⟨Nat.ne_of_lt this,Nat.ne_of_lt (Nat.lt_succ_of_lt this)⟩
    case hS0 =>
     exact (Xkh kd hld (Heap.get?_push_of_some _ eS))
    case hR =>
     intro s' psE mv eS2 hmE;obtain ⟨h',g',d',tk',os'⟩:=s';have eg:g' = s.gens:=mv.gens;have ed:d' = s.drawn:=mv.drawn;have eo:os' = s.os:=mv.os;subst eg;subst ed;subst eo
     show wpAny _ _ _ _ _ _
     refine wpAny_pure ?_
     show wpAny _ _ (ret Value.none) _ _ _;refine wpAny_pure ⟨rfl,h',tk',rfl,⟨psE,eS2,by rw [<- hzn];exact hmE⟩,λb o hb e=>?_⟩
     have nb1:b ≠ s.heap.objs.size:=Nat.ne_of_lt hb;have nb2:b ≠ (s.heap.push (oF ld)).objs.size:=by
      rw [Heap.size_push];exact Nat.ne_of_lt (Nat.lt_succ_of_lt hb)
     exact mv.heap b o (by simp only [List.mem_cons,List.mem_singleton,List.not_mem_nil,or_false,not_or];exact ⟨nb1,nb2⟩) (Heap.get?_push_of_some _ (Heap.get?_push_of_some _ e))
   ·cases r2 with
    | error e=>exact er2
    | ok fw2 =>
     cases fw2 with
     | ret r =>
      obtain ⟨rfl,h',tk,rfl,eS2,kp2⟩:=er2
      repeat any_goals first | assumption | wp_step
      obtain ⟨psF,hF,mF⟩:=eS2;exact h _ _ psF hF mF kp2
     | _=>exact er2.elim
  | _=>exact er.elim
end
theorem Xfp {α:Type}:∀ (l:List α) (i:Nat) (h:i < l.length),(l[i] :: l.eraseIdx i).Perm l
 | a :: r,0,_=>.refl _
 | a :: r,i + 1,h=>by
  have ih:=Xfp r i (by simpa using h);exact (List.Perm.swap _ _ _).trans (ih.cons a)
theorem Xmt {α:Type} (nx:Nat -> Nat):∀ (fuel k:Nat) (left:List α) (out:Array α),left.length = fuel -> (pickOrder.go nx fuel k left out).toList.Perm (out.toList ++ left)
 | 0,k,left,out,h=>by
  obtain rfl:=List.eq_nil_of_length_eq_zero h;rw [List.append_nil];exact .refl _
 | fuel + 1,k,left,out,h=>by
  have hlt:nx k % left.length < left.length:=Nat.mod_lt _ (by omega);unfold pickOrder.go;rw [List.getElem?_eq_getElem hlt];dsimp only;refine (Xmt nx fuel (k + 1) _ _ (by rw [List.length_eraseIdx_of_lt hlt];omega)).trans ?_;rw [Array.toList_push,List.append_assoc];exact List.Perm.append_left _ (Xfp left _ hlt)
theorem Xhh {α:Type} (nx:Nat -> Nat) (xs:Array α):(pickOrder nx xs).toList.Perm xs.toList:=by
 have:=Xmt nx xs.size 0 xs.toList #[] (by simp);unfold pickOrder
 simpa using this
section
variable {prog:Program} {w:World} {A:Around} {E:Value -> Shared -> Prop} {s:Shared} {Kk:Type} [DecidableEq Kk] {kd:PySem.KeyKind prog w Kk} {a:Addr} {ps:List (List Kk × Addr)}
theorem Xbf {Q:Bool -> Shared -> Prop} (h:Q (w.params.followText "set-order") s):wpAny (model prog w) A setsByText Q E s:=wpAny_bind (wpAny_askSetting (wpAny_pure h))
theorem Xrp {Q:Array (Int × Value) -> Shared -> Prop} (hS:SetT kd s.heap a ps) (h:∀ (arr:Array (Int × Value)) (ps':List (List Kk × Addr)),arr.toList = ps'.map (entT kd) -> ps'.Perm ps -> Q arr s):wpAny (model prog w) A (setWalk a) Q E s:=by
 obtain ⟨o,es,ep,t,ho,hex,hd,ok,hes,hfull,nd,hld⟩:=hS;unfold setWalk;refine wpAny_bind (wpAny_setState_of ho hd ok.fits ?_);dsimp only;refine wpAny_bind (Xbf ?_)
 cases hb:w.params.followText "set-order" with
 | true =>
  simp only [if_true];refine wpAny_bind (wpAny_askSetting (wpAny_pure ?_));have pm:=Xhh ((Setting.mk (model prog w).prog (model prog w).w.params).params.setOrder a ep) es;obtain ⟨ps',p1,p2⟩:=Xaq (entT kd) pm ps hes;exact h _ ps' p2 p1
 | false =>
  simp only [Bool.false_eq_true,if_false];refine (λ(z:(?R:Prop))=>?use) ?z
  case use =>
   refine (show wpAny _ _ (if (!t.plain && decide (es.size > 1)) = true then _ else _) _ _ _ from ?_);rw [hld.2];simp only [Bool.not_true,Bool.false_and,Bool.false_eq_true,if_false];exact z
  case z =>
   refine wpAny_bind (show wpAny _ _ (if (!t.led && decide (es.size > 1)) = true then _ else _) _ _ _ from ?_);rw [hld.1 hb];simp only [Bool.not_true,Bool.false_and,Bool.false_eq_true,if_false];exact wpAny_pure (wpAny_pure (h es ps hes (.refl _)))
theorem Xou {others:List Addr} {f:Option Addr} {Q:Array (Int × Value) -> Shared -> Prop} (hS:SetT kd s.heap a ps) (h:∀ (arr:Array (Int × Value)) (ps':List (List Kk × Addr)),arr.toList = ps'.map (entT kd) -> ps'.Perm ps -> Q arr s):wpAny (model prog w) A (setWalkUnseen a others f) Q E s:=by
 obtain ⟨o,es,ep,t,ho,hex,hd,ok,hes,hfull,nd,hld⟩:=id hS;unfold setWalkUnseen;refine wpAny_bind (wpAny_setState_of ho hd ok.fits (wpAny_bind (Xbf ?_)));have e:((w.params.followText "set-order" || (t.led && t.plain) || decide (es.size <= 1)) = true):=by
  cases hb:w.params.followText "set-order" with
  | true=>rfl
  | false=>rw [hld.1 hb,hld.2];rfl
 dsimp only;rw [if_pos e];exact Xrp hS h
end
theorem Xoz:∀ n,n < 256 -> sizeAbove (n * 2) - 1 ∈ masks /\ n * 5 < (sizeAbove (n * 2) - 1) * 3 /\ sizeAbove (n * 2) <= 1024:=by
 have h:(List.range 256).all (λn=>decide (sizeAbove (n * 2) - 1 ∈ masks /\ n * 5 < (sizeAbove (n * 2) - 1) * 3 /\ sizeAbove (n * 2) <= 1024)) = true:=by decide +kernel
 exact λn hn=>of_decide_eq_true (List.all_eq_true.mp h n (List.mem_range.mpr hn))
section
variable {prog:Program} {w:World} {A:Around} {E:Value -> Shared -> Prop} {s:Shared} {Kk:Type} [DecidableEq Kk] {kd:PySem.KeyKind prog w Kk} {a S O:Addr} {ps qs:List (List Kk × Addr)}
theorem Xry {Q:Unit -> Shared -> Prop} {m:Nat} (hS:SetT kd s.heap a ps) (hm:ps.length + m < 256)
(h:∀ h' ps',Heap.SameBut a s.heap h' -> SetT kd h' a ps' -> ps'.Perm ps -> (∀ o es ep t,h'.get? a = some o -> o.data = .set es ep t -> (ps.length + m) * 5 < t.mask * 3) -> Q () { s with heap:=h' }):wpAny (model prog w) A (setRoomFor a m) Q E s:=by
 obtain ⟨o,es,ep,t,ho,hex,hd,ok,hes,hfull,nd,hld⟩:=id hS;have hl:t.place.size = ps.length:=by have:=ok.len;rw [hes,List.length_map] at this;simpa using this
 have hfl:t.fill = ps.length:=by unfold SetTable.fill;rw [ok.dm,hl];rfl
 unfold setRoomFor;refine wpAny_bind (wpAny_setState_of ho hd ok.fits ?_);dsimp only;unfold roomFor;rw [hfl,hl]
 by_cases z:(ps.length + m) * 5 ≥ t.mask * 3
 ·rw [if_pos z]
  obtain ⟨r1,r2,r3⟩:=Xoz (ps.length + m) hm;exact Xjk ho hex hd ok.fits hes nd hld ⟨r1,by omega,r3⟩ λh' ps' sb st pm me=>h h' ps' sb st pm λo2 es2 ep2 t2 y1 y2=>by rw [me o2 es2 ep2 t2 y1 y2];exact r2
 ·rw [if_neg z]
  refine wpAny_pure ?_;exact h s.heap ps (Heap.SameBut.refl _ _) hS (.refl _) λo2 es2 ep2 t2 y1 y2=>by
   rw [ho] at y1;cases y1;rw [hd] at y2;cases y2;omega
structure Uni (ps qs rs:List (List Kk × Addr)):Prop where
 len:rs.length <= ps.length + qs.length
 sub:∀ p ∈ rs,p ∈ ps \/ p ∈ qs
 l:∀ p ∈ ps,∃ r ∈ rs,r.1 = p.1
 r:∀ p ∈ qs,∃ r ∈ rs,r.1 = p.1
theorem Xjx {each:Sem Unit} {Q:Unit -> Shared -> Prop} (hp:Xdn kd) (hS:SetT kd s.heap S ps) (hO:SetT kd s.heap O qs) (ne:S ≠ O) (hps:∀ p ∈ ps,IsTupleKey kd s.heap p.1 p.2) (hqs:∀ p ∈ qs,IsTupleKey kd s.heap p.1 p.2) (hu:A.units < cLine) (hz:ps.length + qs.length < 250)
(hT:∀ p,p ∈ ps \/ p ∈ qs -> p.2 ≠ S)
(he:∀ (s':Shared) (Q':Unit -> Shared -> Prop),(∀ o,s.heap.get? O = some o -> s'.heap.get? O = some o) -> Q' () s' -> wpAny (model prog w) A each Q' E s')
(h:∀ h' rs,Heap.SameBut S s.heap h' -> SetT kd h' S rs -> Uni ps qs rs -> Q () { s with heap:=h' }):wpAny (model prog w) A (setMerge S O each) Q E s:=by
 obtain ⟨oO,eO,epO,tO,hoO,hexO,hdO,okO,hesO,hfullO,ndO,hldO⟩:=id hO;have hlO:eO.size = qs.length:=by have:=congrArg List.length hesO;simpa using this
 unfold setMerge;rw [if_neg (by simpa using ne)];refine wpAny_bind (wpAny_setState_of hoO hdO okO.fits ?_);dsimp only
 by_cases hem:eO.isEmpty = true
 ·rw [if_pos hem]
  have hq:qs = []:=by
   have : eO.size = 0:=by simpa using hem
   exact List.eq_nil_of_length_eq_zero (by omega)
  subst hq;exact wpAny_pure (h s.heap ps (Heap.SameBut.refl _ _) hS ⟨by simp,λp hp=>.inl hp,λp hp=>⟨p,hp,rfl⟩,λp hp=>absurd hp List.not_mem_nil⟩)
 ·rw [if_neg hem,hlO]
  refine wpAny_bind (Xry hS (by omega) λh1 ps1 sb1 st1 pm1 rm1=>?_);have hO1:SetT kd h1 O qs:=hO.to λo e=>by rw [sb1.2 O ne.symm];exact e
  obtain ⟨oS,eS,epS,tS,hoS,hexS,hdS,okS,hesS,hfullS,ndS,hldS⟩:=id st1;have rmS:=rm1 _ _ _ _ hoS hdS
  refine wpAny_bind (wpAny_setState_of (s:={ s with heap:=h1 }) hoS hdS okS.fits ?_);dsimp only;have hlS:tS.place.size = ps1.length:=by have:=okS.len;rw [hesS,List.length_map] at this;simpa using this
  have hfl:tS.fill = ps1.length:=by unfold SetTable.fill;rw [okS.dm,hlS];rfl
  have hl1:=pm1.length_eq;have kO:∀ o,s.heap.get? O = some o -> h1.get? O = some o:=λo e=>by rw [sb1.2 O ne.symm];exact e
  have tq:∀ p,p ∈ ps1 \/ p ∈ qs -> IsTupleKey kd h1 p.1 p.2:=λp hp'=>by
   have hx:p ∈ ps \/ p ∈ qs:=hp'.imp (λz=>pm1.mem_iff.mp z) id;have ky:IsTupleKey kd s.heap p.1 p.2:=hx.elim (hps p) (hqs p);exact IsTupleKey.to ky λo e=>by rw [sb1.2 _ (hT p hx)];exact e
  by_cases hem1:ps1 = []
  ·have hp0:ps = []:=by subst hem1;exact pm1.symm.eq_nil
   have hfl0:(tS.fill != 0) = false:=by rw [hfl,hem1];rfl
   by_cases hmk:(tS.mask == tO.mask && tO.dummies.isEmpty) = true
   ·have er:tS.road tO = .slotForSlot:=by unfold road;rw [hfl0,hmk];rfl
    rw [er];dsimp only
    refine wpAny_storeSet_of (s:={ s with heap:=h1 }) hoS hdS ?_ (by rw [hlO,sizeLine_eq];omega);refine h _ qs (sb1.trans (Heap.SameBut.update _ _ _)) ⟨_,_,_,_,Xdv hoS hdS,hexS,rfl,⟨okO.dm,okO.len,okO.srt,okO.le,okO.m,okO.room,okO.rch⟩,hesO,hfullO,ndO,λz=>?_,?_⟩ ⟨by omega,λp hp'=>.inr hp',(λp hp'=>(by rw [hp0] at hp';cases hp')),λp hp'=>⟨p,hp',rfl⟩⟩
    ·show (tS.led && tO.led) = true
     rw [hldS.1 z,hldO.1 z];rfl
    ·show (tS.plain && tO.plain) = true
     rw [hldS.2,hldO.2];rfl
   ·have er:tS.road tO = .clean:=by unfold road;rw [hfl0,if_neg (by exact Bool.false_ne_true),if_neg hmk]
    rw [er];dsimp only;obtain ⟨t',order,e1,e2,e3,e4,e5,e6,ok,pm⟩:=Xnp okS.m (es:=eO) (by rw [hlO];omega) tS.finger tS.moves (tS.led && tO.led) (tS.plain && tO.plain);rw [e1];have hsz:(order.filterMap (eO[·]?)).size = eO.size:=by have:=pm.length_eq;rwa [Array.length_toList,Array.length_toList] at this
    obtain ⟨rs,pm',hrs⟩:=Xaq (entT kd) pm qs hesO;refine wpAny_bind ?_;refine (λ(z:(?R:Prop))=>?use) ?z
    case use =>
     refine (show wpAny _ _ (if _ then _ else _) _ _ _ from ?_);rw [if_neg (by rw [hsz];simp)];exact z
    case z =>
     refine wpAny_pure ?_;dsimp only
     refine wpAny_storeSet_of (s:={ s with heap:=h1 }) hoS hdS (h _ rs (sb1.trans (Heap.SameBut.update _ _ _)) ⟨_,_,_,_,Xdv hoS hdS,hexS,rfl,ok,hrs,?_,?_,?_,?_⟩ ⟨by have:=pm'.length_eq;omega,λp hp'=>.inr (pm'.mem_iff.mp hp'),(λp hp'=>(by rw [hp0] at hp';cases hp')),λp hp'=>⟨p,pm'.mem_iff.mpr hp',rfl⟩⟩) (by rw [hsz,hlO,sizeLine_eq];omega)
     ·rw [e2,pm'.length_eq];omega
     ·exact (pm'.map _).nodup_iff.mpr ndO
     ·intro z;rw [e4,hldS.1 z,hldO.1 z];rfl
     ·rw [e6,hldS.2,hldO.2];rfl
  ·have er:tS.road tO = .oneByOne:=by
    unfold road
    rw [if_pos (by rw [hfl];cases ps1 with | nil=>exact absurd rfl hem1 | cons a r=>rfl)]
   rw [er];dsimp only
   refine wpAny_bind (Xou (s:={ s with heap:=h1 }) hO1 λarr qs' ea pq=>?_);rw [<- Array.forIn_toList,ea]
   refine wpAny_bind (wpAny_forIn_list _ (λrest _ s'=>∃ (h2:Heap) (rq done cur:List (List Kk × Addr)),s' = { s with heap:=h2 } /\ rest = rq.map (entT kd) /\ qs' = done ++ rq /\ Heap.SameBut S h1 h2 /\ SetT kd h2 S cur /\ Uni ps1 done cur) _ ?_ ?_ _ _ ⟨h1,qs',[],ps1,rfl,rfl,rfl,Heap.SameBut.refl _ _,st1,⟨by simp,λp hp'=>.inl hp',λp hp'=>⟨p,hp',rfl⟩,λp hp'=>absurd hp' List.not_mem_nil⟩⟩)
   ·rintro x rest u s' ⟨h2,rq,done,cur,rfl,hrq,hq',sb2,st2,un⟩
    cases rq with
    | nil=>cases hrq
    | cons q rq =>
     obtain ⟨rfl,rfl⟩:=List.cons.inj hrq;have hqm:q ∈ qs:=pq.mem_iff.mp (by rw [hq'];simp);have inq:∀ p ∈ done,p ∈ qs:=λp hp'=>pq.mem_iff.mp (by rw [hq'];exact List.mem_append_left _ hp')
     have sub2:∀ p ∈ cur,p ∈ ps1 \/ p ∈ qs:=λp hp'=>(un.sub p hp').imp id (inq p)
     have t2:∀ p,p ∈ ps1 \/ p ∈ qs -> IsTupleKey kd h2 p.1 p.2:=λp hp'=>IsTupleKey.to (tq p hp') λo e=>by rw [sb2.2 _ (hT p (hp'.imp (λz=>pm1.mem_iff.mp z) id))];exact e
     have hlq:qs'.length = qs.length:=pq.length_eq;have hdl:done.length + (rq.length + 1) = qs'.length:=by rw [hq'];simp
     have:=un.len;refine (show wpAny _ _ (holding [Value.ref q.2] (setAddHashed S (.ref q.2) (tupleKeyHash kd q.1)) >>= _) _ _ _ from wpAny_bind (wpAny_holding ?_))
     refine Xrm hp (kd:=kd) (s:={ s with heap:=h2 }) st2 (λp hp'=>t2 p (sub2 p hp')) (t2 q (.inr hqm)) hu (by omega) λh3 cur' r sb3 st3 hor=>?_
     have kO3:∀ o,s.heap.get? O = some o -> h3.get? O = some o:=λo e=>by rw [sb3.2 O ne.symm];show h2.get? O = some o;rw [sb2.2 O ne.symm];exact kO o e
     refine wpAny_bind (he { s with heap:=h3 } _ kO3 ?_)
     refine wpAny_bind (wpAny_setState_of (s:={ s with heap:=h3 }) (kO3 _ hoO) hdO okO.fits ?_);dsimp only;rw [if_neg (by simp)];refine wpAny_pure ⟨h3,rq,done ++ [q],cur',rfl,rfl,by rw [hq'];simp,sb2.trans sb3,st3,?_⟩
     rcases hor with ⟨ex,rfl⟩ | ⟨no,pm3⟩
     ·refine ⟨by rw [List.length_append];simp only [List.length_cons,List.length_nil];omega,λp hp'=>(un.sub p hp').imp id (λz=>List.mem_append_left _ z),un.l,λp hp'=>?_⟩
      rcases List.mem_append.mp hp' with z | z
      ·exact un.r p z
      ·rw [List.mem_singleton.mp z];exact ex
     ·refine ⟨by rw [pm3.length_eq,List.length_append];simp only [List.length_cons,List.length_nil];omega,λp hp'=>?_,λp hp'=>?_,λp hp'=>?_⟩
      ·rcases List.mem_cons.mp (pm3.mem_iff.mp hp') with z | z
       ·right;rw [z];exact List.mem_append_right _ (List.mem_singleton.mpr rfl)
       ·exact (un.sub p z).imp id λy=>List.mem_append_left _ y
      ·obtain ⟨r1,y1,y2⟩:=un.l p hp'
       exact ⟨r1,pm3.mem_iff.mpr (List.mem_cons_of_mem _ y1),y2⟩
      ·rcases List.mem_append.mp hp' with z | z
       ·obtain ⟨r1,y1,y2⟩:=un.r p z
        exact ⟨r1,pm3.mem_iff.mpr (List.mem_cons_of_mem _ y1),y2⟩
       ·rw [List.mem_singleton.mp z]
        exact ⟨(q.1,q.2),pm3.mem_iff.mpr (List.mem_cons_self ..),rfl⟩
   ·rintro u s' ⟨h2,rq,done,cur,rfl,hrq,hq',sb2,st2,un⟩
    have hr0:rq = []:=by cases rq with | nil=>rfl | cons a r=>cases hrq
    subst hr0;rw [List.append_nil] at hq';subst hq';refine wpAny_pure (h h2 cur (sb1.trans sb2) st2 ⟨?_,λp hp'=>?_,λp hp'=>un.l p (pm1.mem_iff.mpr hp'),λp hp'=>un.r p (pq.mem_iff.mpr hp')⟩)
    ·have:=un.len;have:=pq.length_eq;omega
    ·exact (un.sub p hp').imp (λz=>pm1.mem_iff.mp z) λz=>pq.mem_iff.mp z
end
theorem Xhq:entryFor table "set.__or__" = some Builtin.«frozenset.__or__» := entryFor_alias (id' := "frozenset.__or__") (by kernel_rfl) (by first | rfl | decide +kernel) (by decide +kernel) (by kernel_rfl)
section
variable {prog:Program} {w:World} {A:Around} {E:Value -> Shared -> Prop} {s:Shared} {Kk:Type} [DecidableEq Kk] {kd:PySem.KeyKind prog w Kk} {a S O:Addr} {ps qs:List (List Kk × Addr)}
theorem SetT.typeIs (h:SetT kd s.heap a ps):s.TypeIs (.ref a) "set" := let ⟨o,_,_,_,ho,hex,_⟩:=h;⟨o,ho,hex.1⟩
theorem Xrl {Q:Bool -> Shared -> Prop} (h:SetT kd s.heap a ps) (q:Q true s):wpAny (model prog w) A (Builtin.Frozenset.isAnySet (.ref a)) Q E s:=by
 unfold Builtin.Frozenset.isAnySet;have hT:=h.typeIs;have hs:=sub_set_self;refine wpAny_bind (wpAny_isInstance hT hs ?_);exact wpAny_pure q
theorem Xvq {Q:Value -> Shared -> Prop} (h:Q (.ref s.heap.objs.size) { s with heap:=s.heap.push (oF (!w.params.followText "set-order")) }):wpAny (model prog w) A (newSet (.type "set")) Q E s:=by
 unfold newSet;refine wpAny_bind (Xbf ?_);dsimp only;simp only [newObj];exact wpAny_bind (wpAny_alloc (wpAny_pure h))
theorem Xua {Q:Value -> Shared -> Prop} (h:SetT kd s.heap a ps) (q:Q (.type "set") s):wpAny (model prog w) A (Builtin.Frozenset.baseOf a) Q E s:=by
 unfold Builtin.Frozenset.baseOf;refine wpAny_bind (wpAny_isInstance h.typeIs sub_set_self ?_);exact wpAny_pure q
theorem or_ok {Q:Value -> Shared -> Prop} (hp:Xdn kd) (hS:SetT kd s.heap S ps) (hO:SetT kd s.heap O qs) (hps:∀ p ∈ ps,IsTupleKey kd s.heap p.1 p.2) (hqs:∀ p ∈ qs,IsTupleKey kd s.heap p.1 p.2) (hu:A.units + 9 < cLine) (hz:ps.length + qs.length < 250) (ne:S ≠ O)
(h:∀ h' tk rs rs1,(∀ b o,s.heap.get? b = some o -> h'.get? b = some o) -> SetT kd h' s.heap.objs.size rs -> Uni [] ps rs1 -> Uni rs1 qs rs -> Q (.ref s.heap.objs.size) { s with heap:=h',toks:=tk }):wpAny (model prog w) A (binaryOp .BitOr (.ref S) (.ref O)) Q E s:=by
 refine wpAny_binaryOp_same (T := "set") hS.typeIs hO.typeIs PySem.F.fills_set_or PySem.F.slot_set_or ?_;refine wpAny_call_entry PySem.F.slot_set_or hS.typeIs Xhq ?_ (PySem.F.args_set_or_2 _ _);refine (show wpAny _ _ (Builtin.Frozenset.slot1 "__or__" ⟨[.ref S,.ref O],[]⟩ >>= _) _ _ s from wpAny_bind ?_);have tS:=hS.typeIs;have tO:=hO.typeIs;have zs:=sub_set_self;unfold Builtin.Frozenset.slot1
 repeat any_goals first | assumption | wp_step
 obtain ⟨oS,eS,epS,t1,hoS,hexS,rS⟩:=id hS;refine wpAny_loadPart hoS (wpAny_pure ?_);rw [hexS.1];refine wpAny_of_eq zs (show wpAny _ _ (pure true) _ _ _ from wpAny_pure ?_);refine (show wpAny _ _ (Builtin.Frozenset.isAnySet (.ref O)) _ _ _ from Xrl hO ?_);rw [if_neg (by decide)];refine wpAny_bind (show wpAny _ _ (pure S) _ _ _ from wpAny_pure (wpAny_bind ?_));refine (show wpAny _ _ (Builtin.Frozenset.copyOf S >>= _) _ _ _ from wpAny_bind ?_);unfold Builtin.Frozenset.copyOf;refine wpAny_bind (Xua hS (wpAny_bind (Xvq ?_)));have k0:∀ b o,s.heap.get? b = some o -> (s.heap.push (oF (!w.params.followText "set-order"))).get? b = some o:=λb o e=>Heap.get?_push_of_some _ e
 have lt:∀ {b o},s.heap.get? b = some o -> b ≠ s.heap.objs.size:=λ{b o} e=>Nat.ne_of_lt (Heap.lt_size e)
 have hF:SetT kd (s.heap.push (oF (!w.params.followText "set-order"))) s.heap.objs.size []:=Xkh kd (λz=>by rw [z];rfl) (Heap.get?_push_size _ rfl);have hS0:SetT kd (s.heap.push (oF (!w.params.followText "set-order"))) S ps:=hS.to λo e=>k0 _ _ e
 obtain ⟨oO,_,_,_,hoO,_⟩:=id hO;have tup:∀ {p:List Kk × Addr},IsTupleKey kd s.heap p.1 p.2 -> p.2 ≠ s.heap.objs.size:=λ⟨o,_,_,e,_⟩=>lt e
 refine wpAny_bind (show wpAny _ _ (pure s.heap.objs.size) _ _ _ from wpAny_pure (wpAny_bind ?_))
 refine Xjx hp (s:={ s with heap:=s.heap.push (oF (!w.params.followText "set-order")) }) hF hS0 (lt hoS).symm (λp hp'=>absurd hp' List.not_mem_nil) (λp hp'=>IsTupleKey.to (hps p hp') λo e=>k0 _ _ e) (by show A.units + 1 < cLine;omega) (by simp;omega) (λp hp'=>hp'.elim (λz=>absurd z List.not_mem_nil) λz=>tup (hps p z)) (λs' Q' _ q=>wpAny_pure q) λh1 r1 sb1 st1 u1=>?_
 refine wpAny_pure ?_;have k1:∀ b o,s.heap.get? b = some o -> h1.get? b = some o:=λb o e=>by rw [sb1.2 b (lt e)];exact k0 b o e
 rw [if_pos (by simpa using λz:O = S=>ne z.symm)];refine wpAny_bind (show wpAny _ _ (pure s.heap.objs.size) _ _ _ from wpAny_pure (wpAny_bind (wpAny_holding ?_)));have hO1:SetT kd h1 O qs:=hO.to λo e=>k1 _ _ e
 refine (show wpAny _ _ (Builtin.Frozenset.updateFrom _ s.heap.objs.size (.ref O)) _ _ _ from ?_);unfold Builtin.Frozenset.updateFrom
 refine wpAny_bind (Xrl (s:={ s with heap:=h1 }) hO1 ?_);simp only [if_true];refine wpAny_bind (show wpAny _ _ (pure O) _ _ _ from wpAny_pure ?_);unfold Builtin.Frozenset.merge setEpoch;obtain ⟨oO1,eO,epO,tO1,hoO1,hexO,hdO,okO,rO⟩:=id hO1
 refine wpAny_bind (wpAny_bind (wpAny_setState_of (s:={ s with heap:=h1 }) hoO1 hdO okO.fits (wpAny_pure ?_)));have sub1:∀ p ∈ r1,p ∈ ps:=λp hp'=>(u1.sub p hp').elim (λz=>absurd z List.not_mem_nil) id
 have l1:=u1.len;simp only [List.length_nil,Nat.zero_add] at l1
 refine Xjx hp (s:={ s with heap:=h1 }) st1 hO1 (lt hoO).symm (λp hp'=>IsTupleKey.to (hps p (sub1 p hp')) λo e=>k1 _ _ e) (λp hp'=>IsTupleKey.to (hqs p hp') λo e=>k1 _ _ e) (by show A.units + 1 < cLine;omega) (by omega) (λp hp'=>hp'.elim (λz=>tup (hps p (sub1 p z))) λz=>tup (hqs p z)) (λs' Q' ke q=>?_) λh2 rs sb2 st2 u2=>?_
 ·unfold Builtin.Frozenset.unchanged setEpoch
  refine wpAny_bind (wpAny_bind (wpAny_setState_of (ke _ hoO1) hdO okO.fits (wpAny_pure ?_)));rw [if_neg (by simp)];exact wpAny_pure q
 ·refine wpAny_pure (wpAny_pure ⟨_,rfl,(λz=>by cases z),?_⟩)
  exact h h2 s.toks rs r1 (λb o e=>by rw [sb2.2 b (lt e)];exact k1 b o e) st2 u1 u2
end
theorem Xlo {xs:Array Nat} {i j:Nat} (hs:xs.toList.Pairwise (· < ·)) (e:xs.toList[i]? = some j):below xs (j + 1) = i + 1:=by
 obtain ⟨b,c,d⟩:=Xds (j:=j + 1) hs;obtain ⟨hi,ej⟩:=List.getElem?_eq_some_iff.mp e
 rcases Nat.lt_trichotomy (below xs (j + 1)) (i + 1) with z | z | z
 ·have:=d i j (by omega) e;omega
 ·exact z
 ·have hb:i + 1 < xs.toList.length:=by have : xs.toList.length = xs.size:=Array.length_toList;omega
  have h1:=c (i + 1) _ z (List.getElem?_eq_getElem hb);have h2:=List.pairwise_iff_getElem.mp hs i (i + 1) hi hb (by omega);omega
theorem Xln {xs:Array Nat} (hs:xs.toList.Pairwise (· < ·)):below xs 0 = 0:=by
 obtain ⟨b,c,d⟩:=Xds (j:=0) hs
 cases h:below xs 0 with
 | zero=>rfl
 | succ n =>
  rw [h] at b c;have hb:0 < xs.toList.length:=by have : xs.toList.length = xs.size:=Array.length_toList;omega
  exact absurd (c 0 _ (by omega) (List.getElem?_eq_getElem hb)) (Nat.not_lt_zero _)
theorem slot_si_next:Slot "set_iterator" "__next__" "set_iterator.__next__" :=
 .of (owner := "set_iterator") (n := "__next__") (by rw [typeLookup_type,builtinLookup_eq_fast];kernel_rfl) (by decide +kernel) (by decide +kernel) (by decide +kernel)
  (by first | exact .inl (by decide +kernel) | exact .inr (by decide +kernel)) (by rw [isSubtype_type];kernel_rfl)
theorem Xcq:entryFor table "set_iterator.__next__" = some Builtin.«set_iterator.__next__» := entryFor_of_tree (by kernel_rfl)
theorem Xdl (a:Value):argsOk "set_iterator.__next__" ⟨[a],[]⟩:=by unfold argsOk;kernel_rfl
section
variable {prog:Program} {w:World} {A:Around} {E:Value -> Shared -> Prop} {s:Shared} {Kk:Type} [DecidableEq Kk] {kd:PySem.KeyKind prog w Kk} {a:Addr} {ps:List (List Kk × Addr)}
structure SetO (kd:PySem.KeyKind prog w Kk) (h:Heap) (a:Addr) (ps:List (List Kk × Addr)) (es:Array (Int × Value)) (ep:Nat) (t:SetTable):Prop where
 ob:∃ o,h.get? a = some o /\ o.ExactSet /\ o.data = .set es ep t
 ok:TOk t es.toList
 es:es.toList = ps.map (entT kd)
 ld:Ld w t
theorem SetT.open (h:SetT kd s.heap a ps):∃ es ep t,SetO kd s.heap a ps es ep t:=let ⟨o,es,ep,t,ho,hex,hd,ok,hes,_,_,ld⟩:=h;⟨es,ep,t,⟨o,ho,hex,hd⟩,ok,hes,ld⟩
def ordr (w:World) (a:Addr) (ep:Nat) (es:Array (Int × Value)):Array (Int × Value):=if w.params.followText "set-order" = true then pickOrder (w.params.setOrder a ep) es else es
theorem Xdy (w:World) (a:Addr) (ep:Nat) (es:Array (Int × Value)):(ordr w a ep es).toList.Perm es.toList:=by
 unfold ordr;split
 ·exact Xhh _ _
 ·exact .refl _
theorem walkO {es:Array (Int × Value)} {ep:Nat} {t:SetTable} {Q:Array (Int × Value) -> Shared -> Prop} (hS:SetO kd s.heap a ps es ep t) (h:Q (ordr w a ep es) s):wpAny (model prog w) A (setWalk a) Q E s:=by
 obtain ⟨⟨o,ho,hex,hd⟩,ok,hes,hld⟩:=hS;unfold setWalk;refine wpAny_bind (wpAny_setState_of ho hd ok.fits ?_);dsimp only;refine wpAny_bind (Xbf ?_);unfold ordr at h
 cases hb:w.params.followText "set-order" with
 | true =>
  rw [hb,if_pos rfl] at h;simp only [if_true];exact wpAny_bind (wpAny_askSetting (wpAny_pure h))
 | false =>
  rw [hb,if_neg Bool.false_ne_true] at h;simp only [Bool.false_eq_true,if_false];refine (λ(z:(?R:Prop))=>?use) ?z
  case use =>
   refine (show wpAny _ _ (if (!t.plain && decide (es.size > 1)) = true then _ else _) _ _ _ from ?_);rw [hld.2];simp only [Bool.not_true,Bool.false_and,Bool.false_eq_true,if_false];exact z
  case z =>
   refine wpAny_bind (show wpAny _ _ (if (!t.led && decide (es.size > 1)) = true then _ else _) _ _ _ from ?_);rw [hld.1 hb];simp only [Bool.not_true,Bool.false_and,Bool.false_eq_true,if_false];exact wpAny_pure (wpAny_pure h)
def AtS (w:World) (t:SetTable) (i slot:Nat):Prop:=w.params.followText "set-order" = false -> below t.place slot = i
theorem Xnc {es:Array (Int × Value)} {ep i slot:Nat} {t:SetTable} {Q:Option (Value × Nat) -> Shared -> Prop} (hS:SetO kd s.heap a ps es ep t) (hs:AtS w t i slot)
(h1:∀ e slot',(ordr w a ep es)[i]? = some e -> AtS w t (i + 1) slot' -> Q (some (e.2,slot')) s) (h2:(ordr w a ep es)[i]? = none -> Q none s):wpAny (model prog w) A (setNext a slot i ep) Q E s:=by
 obtain ⟨⟨o,ho,hex,hd⟩,ok,hes,hld⟩:=id hS;unfold setNext;refine wpAny_bind (wpAny_setState_of ho hd ok.fits ?_);dsimp only;refine wpAny_bind (Xbf ?_)
 cases hb:w.params.followText "set-order" with
 | true =>
  simp only [if_true];rw [if_neg (by simp)];refine wpAny_bind (walkO hS (wpAny_pure ?_))
  cases e:(ordr w a ep es)[i]? with
  | none=>exact h2 e
  | some x=>exact h1 x slot e λz=>by rw [hb] at z;cases z
 | false =>
  have eo:ordr w a ep es = es:=by unfold ordr;rw [hb,if_neg Bool.false_ne_true]
  rw [eo] at h1 h2;simp only [Bool.false_eq_true,if_false];refine (λ(z:(?R:Prop))=>?use) ?z
  case use =>
   refine (show wpAny _ _ (if (!t.plain && decide (es.size > 1)) = true then _ else _) _ _ _ from ?_);rw [hld.2];simp only [Bool.not_true,Bool.false_and,Bool.false_eq_true,if_false];exact z
  case z =>
   refine wpAny_bind (show wpAny _ _ (if (!t.led && !es.isEmpty) = true then _ else _) _ _ _ from ?_);rw [hld.1 hb];simp only [Bool.not_true,Bool.false_and,Bool.false_eq_true,if_false];refine wpAny_pure ?_;rw [hs hb];have hlen:t.place.size = es.size:=by have:=ok.len;simpa using this
   cases e:es[i]? with
   | none=>exact wpAny_pure (h2 e)
   | some x =>
    have hi:i < es.size:=(Array.getElem?_eq_some_iff.mp e).1;have ep':t.place[i]? = some t.place[i]:=Array.getElem?_eq_getElem (by omega);rw [ep'];exact wpAny_pure (h1 x _ e λ_=>Xlo ok.srt (by rw [Array.getElem?_toList];exact ep'))
def siObj (a slot i n ep:Nat):Obj:={ cls:=.type "set_iterator", data:=.fields #[rawInt slot,rawInt i,.ref a,rawInt n,rawInt ep] }
theorem Xrv {it:Addr} {es:Array (Int × Value)} {ep i slot:Nat} {t:SetTable} {e:Int × Value} {Q:Option Value -> Shared -> Prop} (hi:s.heap.get? it = some (siObj a slot i es.size ep)) (hS:SetO kd s.heap a ps es ep t) (hs:AtS w t i slot) (hx:(ordr w a ep es)[i]? = some e)
(h:∀ h' slot',h'.get? it = some (siObj a slot' (i + 1) es.size ep) -> AtS w t (i + 1) slot' -> Heap.SameBut it s.heap h' -> Q (some e.2) { s with heap:=h' }):wpAny (model prog w) A (pyNext (.ref it)) Q E s:=by
 have hT:s.TypeIs (.ref it) "set_iterator" := ⟨_,hi,rfl⟩;obtain ⟨⟨o,ho,hex,hd⟩,ok,hes,hld⟩:=id hS;unfold pyNext;refine wpAny_bind (wpAny_attempt (wpAny_callSpecial?_slot (name:=Str.ofString "__next__") hT slot_si_next (wpAny_call_entry slot_si_next hT Xcq ?_ (Xdl _))));unfold Builtin.«set_iterator.__next__»;refine wpAny_bind (show wpAny _ _ (slotArgs "__next__" 0 _) _ _ _ from ?_);unfold slotArgs
 repeat any_goals first | assumption | wp_step
 rw [hd];dsimp only;have hft:(t.place.size != es.size || decide (t.fill > t.mask)) = false:=by
  have:=ok.fits;unfold SetTable.fits at this;simp at this ⊢;exact this
 rw [hft,if_neg Bool.false_ne_true];refine wpAny_pure (wpAny_pure ?_);refine (λ(z:(?R:Prop))=>?use) ?z
 case use =>
  refine (show wpAny _ _ (if ((es.size:Int) != (es.size:Int)) = true then _ else _) _ _ _ from ?_);rw [if_neg (by simp)];refine (show wpAny _ _ (setNext a ((slot:Int)).toNat ((i:Int)).toNat ((ep:Int)).toNat >>= _) _ _ _ from ?_);exact z
 case z =>
  simp only [Int.toNat_natCast];refine wpAny_bind (Xnc hS hs (λe' slot' ee at'=>?_) (λen=>by rw [hx] at en;cases en));rw [hx] at ee;cases ee;dsimp only;refine wpAny_bind (wpAny_setField hi rfl (by simp) ?_);have g1:(s.heap.update it (Obj.mapFields (·.setIfInBounds 0 (rawInt slot')))).get? it = some (siObj a slot' i es.size ep):=Heap.get?_update_self _ hi rfl
  refine wpAny_bind (wpAny_setField (s:={ s with heap:=s.heap.update it (Obj.mapFields (·.setIfInBounds 0 (rawInt slot'))) }) g1 rfl (by simp) ?_);have g2:((s.heap.update it (Obj.mapFields (·.setIfInBounds 0 (rawInt slot')))).update it (Obj.mapFields (·.setIfInBounds 1 (rawInt ((i:Int) + 1))))).get? it = some (siObj a slot' (i + 1) es.size ep):=Heap.get?_update_self _ g1 rfl;exact wpAny_pure ⟨_,rfl,wpAny_pure (h _ slot' g2 at' ((Heap.SameBut.update _ _ _).trans (Heap.SameBut.update _ _ _)))⟩
theorem Xun {it:Addr} {es:Array (Int × Value)} {ep i slot:Nat} {t:SetTable} {Q:Option Value -> Shared -> Prop} (hh:A.handled = none) (hi:s.heap.get? it = some (siObj a slot i es.size ep)) (hS:SetO kd s.heap a ps es ep t) (hs:AtS w t i slot) (hx:(ordr w a ep es)[i]? = none)
(h:∀ h',(∀ b o,b ≠ it -> s.heap.get? b = some o -> h'.get? b = some o) -> Q none { s with heap:=h' }):wpAny (model prog w) A (pyNext (.ref it)) Q E s:=by
 have hT:s.TypeIs (.ref it) "set_iterator" := ⟨_,hi,rfl⟩;obtain ⟨⟨o,ho,hex,hd⟩,ok,hes,hld⟩:=id hS;unfold pyNext;refine wpAny_bind (wpAny_attempt (wpAny_callSpecial?_slot (name:=Str.ofString "__next__") hT slot_si_next (wpAny_call_entry slot_si_next hT Xcq ?_ (Xdl _))));unfold Builtin.«set_iterator.__next__»;refine wpAny_bind (show wpAny _ _ (slotArgs "__next__" 0 _) _ _ _ from ?_);unfold slotArgs
 repeat any_goals first | assumption | wp_step
 rw [hd];dsimp only;have hft:(t.place.size != es.size || decide (t.fill > t.mask)) = false:=by
  have:=ok.fits;unfold SetTable.fits at this;simp at this ⊢;exact this
 rw [hft,if_neg Bool.false_ne_true];refine wpAny_pure (wpAny_pure ?_);refine (λ(z:(?R:Prop))=>?use) ?z
 case use =>
  refine (show wpAny _ _ (if ((es.size:Int) != (es.size:Int)) = true then _ else _) _ _ _ from ?_);rw [if_neg (by simp)];refine (show wpAny _ _ (setNext a ((slot:Int)).toNat ((i:Int)).toNat ((ep:Int)).toNat >>= _) _ _ _ from ?_);exact z
 case z =>
  simp only [Int.toNat_natCast];refine wpAny_bind (Xnc hS hs (λe' slot' ee at'=>by rw [hx] at ee;cases ee) (λen=>?_));dsimp only;refine wpAny_bind (wpAny_setField hi rfl (by simp) ?_);refine wpAny_bind ?_;simp only [newExc,newTuple];refine wpAny_bind (wpAny_newObj_type ?_ (by size_fits));refine wpAny_bind (m:=firstArgMember _ _) (wpAny_of_eq (a:=Value.none) (by first | rfl | (simp only [firstArgMember];rfl)) ?_);refine wpAny_newObj_type ?_ (by size_fits);simp only [raiseNew];refine wpAny_bind (wpAny_handled ?_);rw [show A.in1.handled = none from hh];refine wpAny_bind (wpAny_pure (wpAny_throw ?_));refine wpAny_bind (wpAny_isInstance (T := "StopIteration") (b:=true) ⟨_,Heap.get?_push_size _ rfl,rfl⟩ isSubtype_stop ?_);simp only [if_true];refine wpAny_pure (h _ λb o hb e=>?_);exact Heap.get?_push_of_some _ (Heap.get?_push_of_some _ ((Heap.get?_update_ne _ _ _ _ hb).trans e))
end
open PySem PySem.SetTable PySem.Spec PyProof.Rows
theorem Xeu:entryFor table "set.__iter__" = some Builtin.«frozenset.__iter__» := entryFor_alias (id' := "frozenset.__iter__") (by kernel_rfl) (by first | rfl | decide +kernel) (by decide +kernel) (by kernel_rfl)
theorem Xdf:Slot "set_iterator" "__iter__" "set_iterator.__iter__" :=
 .of (owner := "set_iterator") (n := "__iter__") (by rw [typeLookup_type,builtinLookup_eq_fast];kernel_rfl) (by decide +kernel) (by decide +kernel) (by decide +kernel)
  (by first | exact .inl (by decide +kernel) | exact .inr (by decide +kernel)) (by rw [isSubtype_type];kernel_rfl)
theorem Xgm:entryFor table "set_iterator.__iter__" = some Builtin.«dict_keyiterator.__iter__» := entryFor_alias (id' := "dict_keyiterator.__iter__") (by kernel_rfl) (by first | rfl | decide +kernel) (by decide +kernel) (by kernel_rfl)
theorem Xic (a:Value):argsOk "set_iterator.__iter__" ⟨[a],[]⟩:=by unfold argsOk;kernel_rfl
theorem Xlc:typeLookup (.type "set") "__len__" = pure (some (.builtin "set.__len__")):=by rw [typeLookup_type,builtinLookup_eq_fast];kernel_rfl
section
variable {prog:Program} {w:World} {A:Around} {E:Value -> Shared -> Prop} {s:Shared} {Kk:Type} [DecidableEq Kk] {kd:PySem.KeyKind prog w Kk} {a:Addr} {ps:List (List Kk × Addr)} {es:Array (Int × Value)} {ep:Nat} {t:SetTable}
theorem SetO.typeIs (h:SetO kd s.heap a ps es ep t):s.TypeIs (.ref a) "set" := let ⟨o,ho,hex,_⟩:=h.ob;⟨o,ho,hex.1⟩
theorem SetO.to {h h':Heap} (x:SetO kd h a ps es ep t) (e:∀ o,h.get? a = some o -> h'.get? a = some o):SetO kd h' a ps es ep t:=⟨let ⟨o,ho,r⟩:=x.ob;⟨o,e _ ho,r⟩,x.ok,x.es,x.ld⟩
theorem Xpz {Q:Bool -> Shared -> Prop} (hT:s.TypeIs (.ref a) "set") (h:Q false s):wpAny (model prog w) A (Builtin.List.listLengthHint (.ref a)) Q E s:=by
 unfold Builtin.List.listLengthHint;refine wpAny_bind (wpAny_specialOf hT Xlc ?_);generalize hid:("set.__len__" : String) = id0
 wp_delta
 rw [show splitId id0 = some ("set", "__len__") from by subst hid;decide +kernel];subst hid;refine wpAny_bind (wpAny_isInstance (T := "set") (b:=true) hT (by rw [isSubtype_type];kernel_rfl) ?_);refine wpAny_ite_split (λhab=>absurd hab (by decide)) (λ_=>?_);refine wpAny_ite_split (λ_=>?_) (λhab=>absurd (by decide +kernel) hab);refine wpAny_bind (wpAny_typeOf hT ?_);exact wpAny_pure h
theorem fitsB {t:SetTable} {es:Array (Int × Value)} (ok:TOk t es.toList):(t.place.size != es.size || decide (t.fill > t.mask)) = false:=by
 have:=ok.fits;unfold SetTable.fits at this;simp at this ⊢;exact this
theorem Xqf {Q:Bool -> Shared -> Prop} (hS:SetO kd s.heap a ps es ep t) (h:Q false s):wpAny (model prog w) A (setDrawn a) Q E s:=by
 obtain ⟨⟨o,ho,hex,hd⟩,ok,hes,hld⟩:=hS;unfold setDrawn;refine wpAny_bind (wpAny_setState_of ho hd ok.fits (wpAny_bind (Xbf ?_)));refine (show wpAny _ _ (pure (!w.params.followText "set-order" && (!t.plain && decide (es.size > 1)))) _ _ _ from ?_);rw [hld.2];simp only [Bool.not_true,Bool.false_and,Bool.and_false];exact wpAny_pure h
theorem Xpx {Q:Value -> Shared -> Prop} (hS:SetO kd s.heap a ps es ep t) (h:Q (.ref s.heap.objs.size) { s with heap:=s.heap.push (siObj a 0 0 es.size ep) }):wpAny (model prog w) A (pyIter (.ref a)) Q E s:=by
 have hT:=hS.typeIs;obtain ⟨⟨o,ho,hex,hd⟩,ok,hes,hld⟩:=id hS;refine wpAny_pyIter_slot hT PySem.F.slot_set_iter (wpAny_call_entry PySem.F.slot_set_iter hT Xeu ?_ (PySem.F.args_set_iter_1 _));unfold Builtin.«frozenset.__iter__»;refine wpAny_bind (show wpAny _ _ (Builtin.Frozenset.slot0 "__iter__" _) _ _ _ from ?_);unfold Builtin.Frozenset.slot0 slotArgs
 repeat any_goals first | assumption | wp_step
 rw [hd];dsimp only;rw [fitsB ok,if_neg Bool.false_ne_true];refine wpAny_pure (wpAny_pure (wpAny_pure (wpAny_bind (Xqf hS ?_))));simp only [Bool.false_eq_true,if_false];refine wpAny_bind (wpAny_pure ?_);unfold setEpoch;refine wpAny_bind (wpAny_bind (wpAny_setState_of ho hd ok.fits (wpAny_pure ?_)));unfold newFields;refine wpAny_bind (wpAny_newObj_type ?_ (by size_fits));refine wpAny_pure ⟨_,rfl, "set_iterator", _,⟨_,Heap.get?_push_size _ rfl,rfl⟩,slot_si_next.lookup,?_⟩;exact h
theorem Xtm {it:Addr} {n i slot:Nat} {Q:Value -> Shared -> Prop} (hi:s.heap.get? it = some (siObj a slot i n ep)) (h:Q (.ref it) s):wpAny (model prog w) A (pyIter (.ref it)) Q E s:=by
 have hT:s.TypeIs (.ref it) "set_iterator" := ⟨_,hi,rfl⟩;refine wpAny_pyIter_slot hT Xdf (wpAny_call_entry Xdf hT Xgm ?_ (Xic _));refine (show wpAny _ _ (ret (.ref it)) _ _ s from ?_);exact wpAny_pure ⟨_,rfl, "set_iterator", _,hT,slot_si_next.lookup,h⟩
theorem Xlr (hh:A.handled = none) (I:Addr) (hne:a ≠ I):Walks prog w A I [I,a] [I] es.size (λi v=>∃ e,(ordr w a ep es)[i]? = some e /\ e.2 = v) (λi h=>(∃ slot,h.get? I = some (siObj a slot i es.size ep) /\ AtS w t i slot) /\ SetO kd h a ps es ep t) where
 sub:=λb hb=>by simp at hb;simp [hb]
 frame:=λ_ _ _ st hk=>⟨let ⟨sl,e,r⟩:=st.1;⟨sl,hk I (by simp) _ e,r⟩,st.2.to λo e=>hk a (by simp) o e⟩
 item:=λi s Q E hi st hQ=>by
  obtain ⟨⟨slot,e,at'⟩,hS⟩:=st;have hl:(ordr w a ep es).size = es.size:=by have:=(Xdy w a ep es).length_eq;simpa using this
  have hx:(ordr w a ep es)[i]? = some (ordr w a ep es)[i]:=Array.getElem?_eq_getElem (by omega);refine Xrv e hS at' hx λh' slot' e' at2 sb=>?_
  exact hQ _ h' s.toks ⟨_,hx,rfl⟩ ⟨⟨slot',e',at2⟩,hS.to λo z=>by rw [sb.2 a hne];exact z⟩ λb o hb z=>by rw [sb.2 b (λy=>hb (by simp [y]))];exact z
 done:=λs Q E st hQ=>by
  obtain ⟨⟨slot,e,at'⟩,hS⟩:=st;have hl:(ordr w a ep es).size = es.size:=by have:=(Xdy w a ep es).length_eq;simpa using this
  exact Xun hh e hS at' (Array.getElem?_eq_none (by omega)) λh' kp=>hQ h' s.toks λb o hb z=>kp b o (λy=>hb (by simp [y])) z
 self:=λ_ _ _ _ st hQ=>let ⟨_,e,_⟩:=st.1;Xtm e hQ
theorem Xtj:PySem.W.KdlSrc prog w "set" a a es.size (λi v=>∃ e,(ordr w a ep es)[i]? = some e /\ e.2 = v) (λh=>SetO kd h a ps es ep t) where
 type:=λ_ h=>h.typeIs
 there:=λ_ h=>let ⟨o,ho,_⟩:=h.ob;⟨Heap.lt_size ho,Heap.lt_size ho⟩
 keep:=λ_ _ h hk=>h.to λo e=>hk a (.inl rfl) o e
 notList:=by decide
 notTuple:=by decide
 hint:=λ_ _ _ _ h q=>Xpz h.typeIs q
 iter:=λ_ s hh h=>⟨_,_,λ_ _ q=>Xpx h q,Xlr hh _ (let ⟨o,ho,_⟩:=h.ob;Nat.ne_of_lt (Heap.lt_size ho)),⟨⟨0,Heap.get?_push_size _ rfl,λ_=>Xln h.ok.srt⟩,h.to λo e=>Heap.get?_push_of_some _ e⟩⟩
theorem Xja (hS:SetT kd s.heap a ps) (hn:ps.length < 255):∃ ps':List (List Kk × Addr),ps'.Perm ps /\ ∀ {A:Around} {E:Value -> Shared -> Prop} {Q:List Value -> Shared -> Prop},A.handled = none ->
 (∀ h' tk,(∀ b o,s.heap.get? b = some o -> h'.get? b = some o) -> Q (ps'.map λp=>.ref p.2) { s with heap:=h',toks:=tk }) -> wpAny (model prog w) A (collect (.ref a)) Q E s:=by
  obtain ⟨es,ep,t,hO⟩:=hS.open;obtain ⟨o,ho,hex,hd⟩:=hO.ob;have hlt:a < s.heap.objs.size:=Heap.lt_size ho;have hsz:es.size = ps.length:=by have:=congrArg List.length hO.es;simpa using this
  obtain ⟨ps',pm,hp'⟩:=Xaq (entT kd) (Xdy w a ep es) ps hO.es;refine ⟨ps',pm,λ{A E Q} hh h=>?_⟩;unfold collect;refine wpAny_bind (wpAny_runValue (codeAny_builtin entry_proto_collect' ?_));refine (show wpAny _ _ (do again (.builtin "list.__iadd__" ⟨[<- newList [],.ref a],[]⟩)) _ _ s from wpAny_bind (wpAny_newList (wpAny_pure ⟨Code.quiet_builtin _ (by decide +kernel),codeAny_builtin entry_list_iadd' ?_⟩)))
  refine (show wpAny _ _ (Builtin.List.listExtendWith (.ref s.heap.objs.size) (.ref a) (.ref s.heap.objs.size)) _ _ { s with heap:=s.heap.push (seqObj "list" #[] 0) } from ?_)
  refine PySem.W.kdl_extend (A:=A) (R:=λr s'=>match r with
      | .ok (.ret v)=>wpAny (model prog w) A (match v with
            | Value.ref a=>do
              let o <- load a
              match o.data with
                | .seq xs _=>pure xs.toList
                | _=>unsupported "internal:collect"
            | _=>unsupported "internal:collect") Q E s'
      | .ok _=>False
      | .error e=>E e s') (s:={ s with heap:=s.heap.push (seqObj "list" #[] 0) }) (T := "set") (r:=a) (d:=a) (n:=es.size) (Xtj (kd:=kd) (ps:=ps) (ep:=ep) (t:=t)) hh (hO.to λo e=>Heap.get?_push_of_some _ e) s.heap.objs.size (Nat.ne_of_gt hlt) (Nat.ne_of_gt hlt) (.ref s.heap.objs.size) 0 (Heap.get?_push_size _ rfl) (λh' tk acc' c' hk hS' hI=>?_) (by rw [sizeLine_eq];omega)
  refine wpAny_bind (wpAny_load hS' ?_);have e:acc'.toList = ps'.map λp=>.ref p.2:=by
    have l1:acc'.size = es.size:=hI.1;refine List.ext_getElem? λj=>?_
    rw [List.getElem?_map];have hz:ps'.length = ps.length:=pm.length_eq
    by_cases hj:j < acc'.size
    · have ej:acc'.toList[j]? = some acc'[j]:=by rw [Array.getElem?_toList,Array.getElem?_eq_getElem hj]
      obtain ⟨x,e1,e2⟩:=hI.2 j acc'[j] (Array.getElem?_eq_getElem hj);rw [<- Array.getElem?_toList,hp',List.getElem?_map] at e1;obtain ⟨p,e3,rfl⟩:=Option.map_eq_some_iff.mp e1;rw [ej,e3,<- e2];rfl
    · rw [List.getElem?_eq_none (by simp;omega),List.getElem?_eq_none (by omega)];rfl
  refine wpAny_pure ?_;rw [e];exact h h' tk λb o z=>hk b o (Nat.ne_of_lt (Heap.lt_size z)) (Heap.get?_push_of_some _ z)
end
theorem Xhe (prog:Program) (w:World):Xdn (intKind prog w):=λn k v h=>by
 obtain ⟨t,rfl⟩:∃ t,v = .int k t:=by
  cases v with
  | int i t =>
   have : i = k:=by simpa [intKind,Value.isInt] using h
   subst this;exact ⟨t,rfl⟩
  | _=>simp [intKind,Value.isInt] at h
 cases n <;> rfl
def Tups (H:Hp) (qs:List (List Int × Addr)):Prop:=∀ q ∈ qs,H q.2 = some (.tup (q.1.map V.int))
abbrev setHO (P:Program) (w:World) (a:Addr) (ps:List (List Int × Addr)):HO:=.ext λh=>SetT (intKind P w) h a ps
section
variable {X:Cx}
theorem Xii {pins:List (Addr × Obj)} {σ:L2.St} {H:Hp} {s:Shared} (I:Inv X pins σ H s) {q:List Int × Addr} (h:H q.2 = some (.tup (q.1.map V.int))):IsTupleKey (intKind X.prog X.w) s.heap q.1 q.2:=by
 obtain ⟨_,its,r,o,ho,hc,n,hd⟩:=(show ObjOk X.prog X.w H s.heap q.2 (.tup (q.1.map V.int)) from I.hok _ _ h);refine ⟨o,its.toArray,n,ho,hc,hd,?_⟩
 show ItemsAre _ q.1 its
 clear hd ho h
 generalize q.1 = ks at r
 induction ks generalizing its with
 | nil=>cases r;exact .nil
 | cons k ks ih =>
  cases r with
  | cons r1 r2 =>
   obtain ⟨t,rfl⟩:=(show ∃ t,_ = Value.int k t from r1);exact .cons (by simp [intKind,Value.isInt]) (ih _ r2)
def rSetV (P:Program) (w:World) (K:PySem.W.Frag) (xs:List V) (H:Hp) (Q:VK):Prop:=∃ (l:Addr) (vs:List V) (qs:List (List Int × Addr)),xs = [.ref l] /\ SqL K H l vs /\ vs = qs.map (λq=>V.ref q.2) /\ Tups H qs /\ qs.length < 250 /\
 ∀ p ps,H p = none -> Met qs qs.length ps -> (ps.map (·.1)).Nodup -> Q (.ref p) (upd H p (setHO P w p ps))
theorem Xes (hc:X.calm = true) (hu:X.A.units + 9 < cLine):CallR X (.type "set") (rSetV X.prog X.w X.K):=by
 intro pins s σ H xs us Q I r h;obtain ⟨l,vs,qs,rfl,hl,rfl,ht,hz,q⟩:=h
 cases r with
 | cons r1 r =>
  cases r;cases (show _ = Value.ref l from r1);obtain ⟨its,rv,pl,hz2⟩:=I.list hl;have hi:its.toArray.toList = qs.map λx=>.ref x.2:=by
   show its = _
   clear pl hl ht hz q hz2
   induction qs generalizing its with
   | nil=>cases rv;rfl
   | cons x qs ih=>cases rv with | cons a b=>cases (show _ = Value.ref x.2 from a);rw [List.map_cons,ih _ b]
  refine Xoi (kd:=intKind X.prog X.w) (Xhe _ _) (I.ok.hd hc) hu pl.isList hi (λx hx=>Xii I (ht x hx)) (by omega) λh' tk ps st mt kp=>?_
  have hn:H s.heap.objs.size = none:=I.hok.fresh (Nat.le_refl _);refine ⟨.ref s.heap.objs.size,_,I.laid (t':=tk) (λb o e=>kp b o (Heap.lt_size e) e) (Nat.le_refl _) ?_,rfl,q _ ps hn mt (let ⟨_,_,_,_,_,_,_,_,_,_,nd,_⟩:=st;nd)⟩;exact Xri st (let ⟨o,_,_,_,e,_⟩:=st;⟨o,e⟩) λh1 h2 x k=>x.to k
def rUniV (P:Program) (w:World) (x y:V) (H:Hp) (Q:VK):Prop:=∃ S O ps qs,x = .ref S /\ y = .ref O /\ S ≠ O /\ H S = some (setHO P w S ps) /\ H O = some (setHO P w O qs) /\ Tups H ps /\ Tups H qs /\ ps.length + qs.length < 250 /\
 ∀ p rs rs1,H p = none -> Uni [] ps rs1 -> Uni rs1 qs rs -> (rs.map (·.1)).Nodup -> Q (.ref p) (upd H p (setHO P w p rs))
theorem Xst (hu:X.A.units + 9 < cLine):OpR X (binaryOp .BitOr) (rUniV X.prog X.w):=by
 intro pins s σ H x y v u Q I rx ry h;obtain ⟨S,O,ps,qs,rfl,rfl,ne,hS,hO,tp,tq,hz,q⟩:=h;cases rx;cases ry;obtain ⟨sS,_,_⟩:=I.hok S _ hS;obtain ⟨sO,_,_⟩:=I.hok O _ hO;refine or_ok (kd:=intKind X.prog X.w) (Xhe _ _) sS sO (λp hp=>Xii I (tp p hp)) (λp hp=>Xii I (tq p hp)) hu hz ne λh' tk rs rs1 kp st u1 u2=>?_
 have hn:H s.heap.objs.size = none:=I.hok.fresh (Nat.le_refl _);refine ⟨.ref s.heap.objs.size,_,I.laid (t':=tk) kp (Nat.le_refl _) ?_,rfl,q _ rs rs1 hn u1 u2 (let ⟨_,_,_,_,_,_,_,_,_,_,nd,_⟩:=st;nd)⟩;exact Xri st (let ⟨o,_,_,_,e,_⟩:=st;⟨o,e⟩) λh1 h2 x k=>x.to k
def tD (k:List Int):D:=.tup (k.map D.int)
def keyT:D -> List Int
 | .tup xs=>xs.map λd=>match d with | .int i=>i | _=>0
 | _=>[]
theorem Xit (k:List Int):keyT (tD k) = k:=by
 show (k.map D.int).map _ = k
 rw [List.map_map];exact List.map_id _
theorem Xup {K:PySem.W.Frag} {H:Hp} {q:List Int × Addr} (h:H q.2 = some (.tup (q.1.map V.int))):Rep K H (tD q.1) (.ref q.2):=by
 unfold tD;simp only [Rep];exact ⟨q.2,_,rfl,h,Reps.ints q.1⟩
theorem Xgb {K:PySem.W.Frag} {H:Hp}:∀ {qs:List (List Int × Addr)},Tups H qs -> Reps K H (qs.map λq=>tD q.1) (qs.map λq=>V.ref q.2)
 | [],_=>Reps.nil
 | q :: qs,h=>Reps.cons (Xup (h q (List.mem_cons_self ..))) (Xgb λp hp=>h p (List.mem_cons_of_mem _ hp))
theorem Xgu:∀ qs:List (List Int × Addr),Vals (qs.map λq=>V.ref q.2) (qs.map λq=>Value.ref q.2)
 | []=>.nil
 | q :: qs=>.cons rfl (Xgu qs)
def Xsb (P:Program) (w:World) (xs:List V) (H:Hp) (Q:VK):Prop:=∃ (a:Addr) (ps:List (List Int × Addr)) (m:Nat),xs = [.ref a] /\ H a = some (setHO P w a ps) /\ Tups H ps /\ 0 < m /\ (∀ p ∈ ps,p.1.length = m) /\ ps.length < 250 /\
 ∀ l (ps2:List (List Int × Addr)),H l = none -> ps2.Perm ps -> (ps2.map λp=>tD p.1).Pairwise (λx y=>HT.lexLt (keyT y) (keyT x) = false) -> Q (.ref l) (upd H l (.lst (ps2.map λp=>V.ref p.2)))
theorem Xdk (hc:X.calm = true):CallR X (.builtin "sorted") (Xsb X.prog X.w):=by
 intro pins s σ H xs us Q I r h;obtain ⟨a,ps,m,rfl,ha,tp,hm,hl,hz,q⟩:=h
 cases r with
 | cons r1 r2 =>
  cases r2;cases (show _ = Value.ref a from r1);obtain ⟨sS,_,_⟩:=I.hok a _ ha;obtain ⟨ps',pm,col⟩:=Xja sS (by omega);have tp':Tups H ps':=λp hp=>tp p (pm.mem_iff.mp hp)
  have lz:ps'.length = ps.length:=pm.length_eq;refine Xfc (ds:=ps'.map λp=>tD p.1) (vs:=ps'.map λp=>V.ref p.2) (by simp) (by rw [List.length_map,sizeLine_eq];omega) (λA Q' E' hA k=>col (hA.trans (I.ok.hd hc)) λh' tk kp=>k _ _ (I.kept (t':=tk) kp) (Xgu ps')) (Xkx (key:=keyT) (m:=m) ⟨hm,λd hd=>?_⟩ (Xgb tp')) λl L hn hp hR=>?_
  ·obtain ⟨p,hp,rfl⟩:=List.mem_map.mp hd
   rw [Xit];exact ⟨hl p (pm.mem_iff.mp hp),rfl⟩
  ·rw [show (ps'.map λp=>tD p.1).zip (ps'.map λp=>V.ref p.2) = ps'.map λp=>(tD p.1,V.ref p.2) from by rw [List.zip_map']] at hp
   obtain ⟨ps2,p2,rfl⟩:=Xaq (λp:List Int × Addr=>(tD p.1,V.ref p.2)) hp ps' rfl;rw [List.map_map] at hR ⊢;exact q l ps2 hn (p2.trans pm) hR
end
theorem Xce {K:PySem.W.Frag} {G:Hp}:∀ {ks:List (List Int)} {vs:List V},Reps K G (ks.map tD) vs -> ∃ qs:List (List Int × Addr),vs = qs.map (λq=>V.ref q.2) /\ Tups G qs /\ qs.map (·.1) = ks
 | [],vs,h=>⟨[],by simpa only [List.map_nil,Reps] using h,λq hq=>(by cases hq),rfl⟩
 | k :: ks,vs,h=>by
  simp only [List.map_cons,Reps] at h;obtain ⟨v,r,rfl,h1,h2⟩:=h;unfold tD at h1;simp only [Rep] at h1;obtain ⟨a,ws,rfl,e,hr⟩:=h1;rw [Reps.ints_inv hr] at e;obtain ⟨qs,rfl,t,e2⟩:=Xce h2
  exact ⟨(k,a) :: qs,rfl,λq hq=>by
   rcases List.mem_cons.mp hq with z | z
   ·rw [z];exact e
   ·exact t q z,by rw [List.map_cons,e2]⟩
theorem Met.keys {xs ps:List (List Int × Addr)} (m:Met xs xs.length ps) (k:List Int):k ∈ ps.map (·.1) ↔ k ∈ xs.map (·.1):=by
 constructor
 ·intro h
  obtain ⟨p,hp,rfl⟩:=List.mem_map.mp h;exact List.mem_map.mpr ⟨p,m.sub p hp,rfl⟩
 ·intro h
  obtain ⟨x,hx,rfl⟩:=List.mem_map.mp h;obtain ⟨i,hi,e⟩:=List.mem_iff_getElem.mp hx;obtain ⟨p,hp,ek⟩:=m.key i x hi (by rw [List.getElem?_eq_getElem hi,e]);exact List.mem_map.mpr ⟨p,hp,ek⟩
theorem Uni.keys {ps qs rs1 rs:List (List Int × Addr)} (u1:Uni [] ps rs1) (u2:Uni rs1 qs rs) (k:List Int):k ∈ rs.map (·.1) ↔ k ∈ ps.map (·.1) \/ k ∈ qs.map (·.1):=by
 constructor
 ·intro h
  obtain ⟨p,hp,rfl⟩:=List.mem_map.mp h
  rcases u2.sub p hp with z | z
  ·rcases u1.sub p z with y | y
   ·cases y
   ·exact .inl (List.mem_map.mpr ⟨p,y,rfl⟩)
  ·exact .inr (List.mem_map.mpr ⟨p,z,rfl⟩)
 ·rintro (h | h)
  ·obtain ⟨p,hp,rfl⟩:=List.mem_map.mp h
   obtain ⟨r1,y1,e1⟩:=u1.r p hp;obtain ⟨r2,y2,e2⟩:=u2.l r1 y1;exact List.mem_map.mpr ⟨r2,y2,e2.trans e1⟩
  ·obtain ⟨p,hp,rfl⟩:=List.mem_map.mp h
   obtain ⟨r2,y2,e2⟩:=u2.r p hp;exact List.mem_map.mpr ⟨r2,y2,e2⟩
theorem Xmq {ps:List (List Int × Addr)} (h:(ps.map λp=>tD p.1).Pairwise (λx y=>HT.lexLt (keyT y) (keyT x) = false)):(ps.map (·.1)).Pairwise λx y=>HT.lexLt y x = false:=by
 rw [List.pairwise_map] at h ⊢;exact h.imp λ{a b} z=>by rw [Xit,Xit] at z;exact z
def Xgr (ks ms:List (List Int)):Prop:=ms.Nodup /\ (∀ k,k ∈ ms ↔ k ∈ ks) /\ ms.Pairwise λx y=>HT.lexLt y x = false
section
variable {X:Cx} {H0:Hp} {e a b:Expr} {te ta tb:RE} {p p2 p3 pos pos2 pos3 bpos:Pos}
def Xjm (te:RE) (δ:List Sl) (Q:D -> Prop):Prop:=te δ λd=>∃ (ks:List (List Int)) (m:Nat),d = .lst (ks.map tD) /\ 0 < m /\ (∀ k ∈ ks,k.length = m) /\ ks.length < 250 /\ ∀ ms,Xgr ks ms -> Q (.lst (ms.map tD))
theorem Xne (hc:X.calm = true) (hu:X.A.units + 9 < cLine) (hm:X.mg "sorted" = none) (hm2:X.mg "set" = none) (ha:PB2 X H0 e te) (hg:Gl X "sorted" := by rfl) (hg2:Gl X "set" := by rfl)
(he:starEach [e] X.env = (false,eval e X.env) :: starEach [] X.env:=by rfl) (hpl:(backTo pos2 (starEach [] X.env)).any (·.1) = false:=by rfl)
(he2:starEach [.Call (.Name "set" p2) [e] [] pos2] X.env = (false,eval (.Call (.Name "set" p2) [e] [] pos2) X.env) :: starEach [] X.env:=by rfl) (hpl2:(backTo pos (starEach [] X.env)).any (·.1) = false:=by rfl) :
PN2 X H0 (.Call (.Name "sorted" p) [.Call (.Name "set" p2) [e] [] pos2] [] pos) (Xjm te) :=
 PE.weak (Xci (Xdk hc) hg hm rfl (Xbc (Xch (Xes hc hu) hg2 hm2 rfl (Xbc ha Xcj he) (by decide) (by decide) he hpl) Xcj he2) (by decide) (by decide) he2 hpl2) λσ H Q ⟨δ,G,Qd,hs,ht,k⟩=>⟨δ,G,_,hs,ht,λv H1 G1 d n1 r1 ⟨ks,m,ed,hm0,hml,hz,q⟩=>by
  subst ed;obtain ⟨l,ws,rfl,h2,h3⟩:=r1;obtain ⟨qs,rfl,tq,ek⟩:=Xce h3;have lq:qs.length = ks.length:=by rw [<- ek,List.length_map]
  refine ⟨l,_,qs,rfl,h2,rfl,λx hx=>n1.hs.sub _ _ (tq x hx),by omega,λa1 ps hn mt nd=>?_⟩;obtain ⟨n2,s2⟩:=n1.hs.laid (o:=setHO X.prog X.w a1 ps) hn;have tp2:Tups (upd G1 a1 (setHO X.prog X.w a1 ps)) ps:=λx hx=>s2 _ _ (tq x (mt.sub x hx))
  refine ⟨a1,ps,m,rfl,Xac,λx hx=>n2.sub _ _ (tp2 x hx),hm0,λx hx=>hml _ (by rw [<- ek];exact List.mem_map.mpr ⟨x,mt.sub x hx,rfl⟩),by have:=mt.len;omega,λl2 ps2 hn2 pm hR=>?_⟩;refine k _ _ _ (.lst ((ps2.map (·.1)).map tD)) (n2.fresh hn2 ⟨_,Xac,?_⟩) (n1.g.trans s2) ((n1.h.trans (Xal hn)).trans (Xal hn2)) (q _ ⟨(pm.map _).nodup_iff.mpr nd,λx=>?_,Xmq hR⟩)
  ·rw [List.map_map]
   exact Xgb λx hx=>tp2 x (pm.mem_iff.mp hx)
  ·rw [(pm.map _).mem_iff,mt.keys,ek]⟩
def Xjl (ta tb:RE) (δ:List Sl) (Q:D -> Prop):Prop:=ta δ λd=>∃ (ks:List (List Int)) (m:Nat),d = .lst (ks.map tD) /\ ks.length < 120 /\ (∀ k ∈ ks,k.length = m) /\ 0 < m /\ tb δ λd2=>∃ ks2:List (List Int),d2 = .lst (ks2.map tD) /\ ks2.length < 120 /\ (∀ k ∈ ks2,k.length = m) /\ ∀ ms,Xgr (ks ++ ks2) ms -> Q (.lst (ms.map tD))
theorem Xnd (hc:X.calm = true) (hu:X.A.units + 9 < cLine) (hm:X.mg "sorted" = none) (hm2:X.mg "set" = none) (ha:PB2 X H0 a ta) (hb:PB2 X H0 b tb) (hg:Gl X "sorted" := by rfl) (hg2:Gl X "set" := by rfl)
(he:starEach [a] X.env = (false,eval a X.env) :: starEach [] X.env:=by rfl) (hpl:(backTo pos2 (starEach [] X.env)).any (·.1) = false:=by rfl)
(heb:starEach [b] X.env = (false,eval b X.env) :: starEach [] X.env:=by rfl) (hplb:(backTo pos3 (starEach [] X.env)).any (·.1) = false:=by rfl)
(he2:starEach [.BinOp (.Call (.Name "set" p2) [a] [] pos2) .BitOr (.Call (.Name "set" p3) [b] [] pos3) bpos] X.env = (false,eval (.BinOp (.Call (.Name "set" p2) [a] [] pos2) .BitOr (.Call (.Name "set" p3) [b] [] pos3) bpos) X.env) :: starEach [] X.env:=by rfl) (hpl2:(backTo pos (starEach [] X.env)).any (·.1) = false:=by rfl) :
PN2 X H0 (.Call (.Name "sorted" p) [.BinOp (.Call (.Name "set" p2) [a] [] pos2) .BitOr (.Call (.Name "set" p3) [b] [] pos3) bpos] [] pos) (Xjl ta tb) :=
 PE.weak (Xci (Xdk hc) hg hm rfl (Xbc (pe_op (Xst hu) (Xch (Xes hc hu) hg2 hm2 rfl (Xbc ha Xcj he) (by decide) (by decide) he hpl) (Xch (Xes hc hu) hg2 hm2 rfl (Xbc hb Xcj heb) (by decide) (by decide) heb hplb)) Xcj he2) (by decide) (by decide) he2 hpl2) λσ H Q ⟨δ,G,Qd,hs,ht,k⟩=>⟨δ,G,_,hs,ht,λv H1 G1 d n1 r1 ⟨ks,m,ed,hz,hml,hm0,q⟩=>by
  subst ed;obtain ⟨l,ws,rfl,h2,h3⟩:=r1;obtain ⟨qs,rfl,tq,ek⟩:=Xce h3;have lq:qs.length = ks.length:=by rw [<- ek,List.length_map]
  refine ⟨l,_,qs,rfl,h2,rfl,λx hx=>n1.hs.sub _ _ (tq x hx),by omega,λa1 ps hn mt nd=>?_⟩;obtain ⟨n2,s2⟩:=n1.hs.laid (o:=setHO X.prog X.w a1 ps) hn;refine ⟨δ,_,_,n2,q,λv2 H3 G3 d2 n3 r3 ⟨ks2,ed2,hz2,hml2,q2⟩=>?_⟩;subst ed2;obtain ⟨l2,ws2,rfl,g2,g3⟩:=r3;obtain ⟨qs2,rfl,tq2,ek2⟩:=Xce g3;have lq2:qs2.length = ks2.length:=by rw [<- ek2,List.length_map]
  refine ⟨l2,_,qs2,rfl,g2,rfl,λx hx=>n3.hs.sub _ _ (tq2 x hx),by omega,λa2 ps2 hn2 mt2 nd2=>?_⟩;obtain ⟨n4,s4⟩:=n3.hs.laid (o:=setHO X.prog X.w a2 ps2) hn2;have e1:H3 a1 = some (setHO X.prog X.w a1 ps):=n3.h _ _ Xac;have ne:a1 ≠ a2:=λz=>by rw [z,hn2] at e1;cases e1
  have l1:=mt.len;have l2':=mt2.len;have t1:Tups (upd G3 a2 (setHO X.prog X.w a2 ps2)) ps:=λx hx=>s4 _ _ (n3.g _ _ (s2 _ _ (tq x (mt.sub x hx))))
  have t2:Tups (upd G3 a2 (setHO X.prog X.w a2 ps2)) ps2:=λx hx=>s4 _ _ (tq2 x (mt2.sub x hx))
  refine ⟨a1,a2,ps,ps2,rfl,rfl,ne,by rw [Xad ne];exact e1,Xac,λx hx=>n4.sub _ _ (t1 x hx),λx hx=>n4.sub _ _ (t2 x hx),by omega,λa3 rs rs1 hn3 u1 u2 nd3=>?_⟩;obtain ⟨n5,s5⟩:=n4.laid (o:=setHO X.prog X.w a3 rs) hn3;have subs:∀ x ∈ rs,x ∈ ps \/ x ∈ ps2:=λx hx=>(u2.sub x hx).imp (λz=>(u1.sub x z).elim (λy=>by cases y) id) id
  have t3:Tups (upd (upd G3 a2 (setHO X.prog X.w a2 ps2)) a3 (setHO X.prog X.w a3 rs)) rs:=λx hx=>s5 _ _ ((subs x hx).elim (t1 x) (t2 x))
  have hlr:rs.length < 250:=by have:=u1.len;have:=u2.len;simp only [List.length_nil,Nat.zero_add] at *;omega
  refine ⟨a3,rs,m,rfl,Xac,λx hx=>n5.sub _ _ (t3 x hx),hm0,λx hx=>?_,hlr,λl5 ps5 hn5 pm hR=>?_⟩
  ·rcases subs x hx with z | z
   ·exact hml _ (by rw [<- ek];exact List.mem_map.mpr ⟨x,mt.sub x z,rfl⟩)
   ·exact hml2 _ (by rw [<- ek2];exact List.mem_map.mpr ⟨x,mt2.sub x z,rfl⟩)
  ·refine k _ _ _ (.lst ((ps5.map (·.1)).map tD)) (n5.fresh hn5 ⟨_,Xac,?_⟩) (((n1.g.trans s2).trans n3.g).trans (s4.trans s5)) ((((n1.h.trans (Xal hn)).trans n3.h).trans (Xal hn2)).trans ((Xal hn3).trans (Xal hn5))) (q2 _ ⟨(pm.map _).nodup_iff.mpr nd3,λx=>?_,Xmq hR⟩)
   ·rw [List.map_map]
    exact Xgb λx hx=>t3 x (pm.mem_iff.mp hx)
   ·rw [(pm.map _).mem_iff,u1.keys u2,mt.keys,mt2.keys,ek,ek2,List.mem_append]⟩
end
def RawD (h:Heap) (d:Addr) (es:Array DictEntry) (ep:Nat):Prop:=∃ o,h.get? d = some o /\ o.ExactDict /\ o.data = .dict es ep
theorem RawD.to {h h':Heap} {d:Addr} {es:Array DictEntry} {ep:Nat} (x:RawD h d es ep) (e:∀ o,h.get? d = some o -> h'.get? d = some o):RawD h' d es ep:=let ⟨o,ho,r⟩:=x;⟨o,e _ ho,r⟩
theorem RawD.ty {s:Shared} {d:Addr} {es:Array DictEntry} {ep:Nat} (x:RawD s.heap d es ep):s.TypeIs (.ref d) "dict" := let ⟨o,ho,hc,_⟩:=x;⟨o,ho,hc.1⟩
def kiObj (d i n ep:Nat):Obj:={ cls:=.type "dict_keyiterator", data:=.fields #[.ref d,.int i 0,.int n 0,.int ep 0] }
theorem ki_is {h:Heap} {it d i n ep:Nat} (e:h.get? it = some (kiObj d i n ep)):h.IsKeyIter it d i n ep:=⟨_,e,rfl,rfl⟩
section
variable {prog:Program} {w:World} {A:Around} {E:Value -> Shared -> Prop} {s:Shared} {d it:Addr} {es:Array DictEntry} {ep i:Nat}
theorem Xpy {Q:Value -> Shared -> Prop} (hd:(d == sysModules) = false) (hm:RawD s.heap d es ep) (h:Q (.ref s.heap.objs.size) { s with heap:=s.heap.push (kiObj d 0 es.size ep) }):wpAny (model prog w) A (pyIter (.ref d)) Q E s:=by
 have hT:=hm.ty;obtain ⟨o,ho,hc,hdat⟩:=hm;refine wpAny_pyIter_slot hT PySem.F.slot_dict_iter (wpAny_call_entry PySem.F.slot_dict_iter hT PySem.F.entry_dict_iter ?_ (PySem.F.args_dict_iter_1 _));unfold Builtin.«dict.__iter__» Builtin.Dict.dictSlotNone;refine wpAny_bind (wpAny_bind (wpAny_notOrdered_dict hT (show wpAny _ _ (pure (Value.ref d)) _ _ s from wpAny_pure (show wpAny _ _ (Builtin.Dict.showsAll d >>= _) _ _ s from ?_))));unfold Builtin.Dict.showsAll;rw [if_neg (by rw [hd];exact Bool.false_ne_true)];refine wpAny_bind (wpAny_pure (wpAny_bind (wpAny_dictEntries ho hdat (wpAny_bind (wpAny_dictEpoch ho hdat ?_)))));exact wpAny_bind (wpAny_newObj_type (wpAny_pure ⟨_,rfl, "dict_keyiterator", _,⟨_,Heap.get?_push_size _ rfl,rfl⟩,PySem.F.slot_dict_keyiterator_next.lookup,h⟩))
theorem Xju {Q:Option Value -> Shared -> Prop} (hi:s.heap.get? it = some (kiObj d i es.size ep)) (hm:RawD s.heap d es ep)
(h1:∀ e h',es[i]? = some e -> h'.get? it = some (kiObj d (i + 1) es.size ep) -> Heap.SameBut it s.heap h' -> Q (some e.key) { s with heap:=h' })
(h2:es[i]? = none -> A.handled = none /\ ∀ h',(∀ b o,b ≠ it -> s.heap.get? b = some o -> h'.get? b = some o) -> Q none { s with heap:=h' }):wpAny (model prog w) A (pyNext (.ref it)) Q E s:=by
 have hT:=(ki_is hi).typeIs;obtain ⟨od,hod,hcd,hdd⟩:=hm;unfold pyNext;refine wpAny_bind (wpAny_attempt (wpAny_callSpecial?_slot (name:=Str.ofString "__next__") hT PySem.F.slot_dict_keyiterator_next (wpAny_call_entry PySem.F.slot_dict_keyiterator_next hT PySem.F.entry_dict_keyiterator_next ?_ (PySem.F.args_dict_keyiterator_next_1 _))));refine wpAny_bind (wpAny_pure (wpAny_bind (wpAny_bind (wpAny_bind (wpAny_typeNameOfWhole_keyiter hT (wpAny_pure (wpAny_bind (wpAny_fieldsOf hi rfl ?_))))))));simp only [show Builtin.Dict_items.ownsTuple "dict_keyiterator" = false by decide,Bool.false_eq_true,if_false];refine (show wpAny _ _ (if (Value.ref d == Value.none) = true then _ else _) _ _ s from ?_);rw [if_neg (show ¬ ((Value.ref d == Value.none) = true) from Bool.false_ne_true)];refine wpAny_bind (wpAny_pure (wpAny_bind (wpAny_dictEntries hod hdd ?_)));rw [if_neg (by simp)];refine wpAny_bind (wpAny_pure (wpAny_bind (wpAny_dictEpoch hod hdd ?_)));rw [if_neg (by simp)];refine wpAny_pure ?_;simp only [show ¬ ((i:Int) < 0) from by omega,if_false,Int.toNat_natCast]
 cases hx:es[i]? with
 | some e =>
  refine wpAny_bind (wpAny_bind (wpAny_typeNameOfWhole_keyiter hT (wpAny_pure ?_)));refine wpAny_bind (wpAny_isOneOf_keyiter hT (show wpAny _ _ (setField (.ref it) 1 (rawInt ((i:Int) + 1)) >>= _) _ _ s from wpAny_bind (wpAny_setField hi rfl (by simp) ?_)));have g1:(s.heap.update it (Obj.mapFields (·.setIfInBounds 1 (rawInt ((i:Int) + 1))))).get? it = some (kiObj d (i + 1) es.size ep):=Heap.get?_update_self _ hi rfl
  refine wpAny_bind (wpAny_holding (wpAny_bind (wpAny_isOneOf_keyiter (s:={ s with heap:=s.heap.update it (Obj.mapFields (·.setIfInBounds 1 (rawInt ((i:Int) + 1)))) }) (ki_is g1).typeIs ?_)));refine (show wpAny _ _ (pure e.key) _ _ _ from wpAny_pure (wpAny_pure ⟨_,rfl,wpAny_pure (h1 e _ hx g1 (Heap.SameBut.update ..))⟩))
 | none =>
  obtain ⟨hh,h2⟩:=h2 hx;refine wpAny_bind (wpAny_bind (wpAny_typeNameOfWhole_keyiter hT (wpAny_pure ?_)));refine (show wpAny _ _ (setField (.ref it) 0 .none >>= _) _ _ s from wpAny_bind (wpAny_setField hi rfl (by simp) ?_));refine (show wpAny _ _ (newExc (.type "StopIteration") [] >>= _) _ _ _ from wpAny_bind ?_);simp only [newExc,newTuple];refine wpAny_bind (wpAny_newObj_type (wpAny_bind (m:=firstArgMember _ _) (wpAny_of_eq (a:=Value.none) (by first | rfl | (simp only [firstArgMember];rfl)) (wpAny_newObj_type ?_ (by size_fits)))) (by size_fits));simp only [raiseNew];refine wpAny_bind (wpAny_handled ?_);rw [show A.in1.handled = none from hh];refine wpAny_bind (wpAny_pure (wpAny_throw ?_));refine wpAny_bind (wpAny_isInstance (T := "StopIteration") (b:=true) ⟨_,Heap.get?_push_size _ rfl,rfl⟩ isSubtype_stop (wpAny_pure (h2 _ λb o hb e=>?_)));exact Heap.get?_push_of_some _ (Heap.get?_push_of_some _ ((Heap.get?_update_ne _ _ _ _ hb).trans e))
theorem Xls (hh:A.handled = none) (I:Addr) (hne:d ≠ I):Walks prog w A I [I,d] [I] es.size (λi v=>∃ e,es[i]? = some e /\ e.key = v) (λi h=>h.get? I = some (kiObj d i es.size ep) /\ RawD h d es ep) where
 sub:=λb hb=>by simp at hb;simp [hb]
 frame:=λ_ _ _ st hk=>⟨hk I (by simp) _ st.1,st.2.to λo e=>hk d (by simp) o e⟩
 item:=λi s Q E hi st hQ=>Xju st.1 st.2 (λe h' hx g sb=>hQ _ h' s.toks ⟨e,hx,rfl⟩ ⟨g,st.2.to λo z=>by rw [sb.2 d hne];exact z⟩ λb o hb z=>by rw [sb.2 b (λy=>hb (by simp [y]))];exact z) λhn=>by rw [Array.getElem?_eq_getElem hi] at hn;cases hn
 done:=λs Q E st hQ=>Xju st.1 st.2 (λe h' hx=>by rw [Array.getElem?_eq_none (Nat.le_refl _)] at hx;cases hx) λ_=>⟨hh,λh' kp=>hQ h' s.toks λb o hb z=>kp b o (λy=>hb (by simp [y])) z⟩
 self:=λ_ _ _ _ st hQ=>wpAny_pyIter_keyiter (ki_is st.1) hQ
theorem Xtk (lo:(d == sysModules) = false):PySem.W.KdlSrc prog w "dict" d d es.size (λi v=>∃ e,es[i]? = some e /\ e.key = v) (λh=>RawD h d es ep) where
 type:=λ_ h=>h.ty
 there:=λ_ h=>let ⟨o,ho,_⟩:=h;⟨Heap.lt_size ho,Heap.lt_size ho⟩
 keep:=λ_ _ h hk=>h.to λo e=>hk d (.inl rfl) o e
 notList:=by decide
 notTuple:=by decide
 hint:=λ_ _ _ _ h q=>PySem.W.kdl_hint_dict h.ty q
 iter:=λ_ s hh h=>⟨_,_,λ_ _ q=>Xpy lo h q,Xls hh _ (let ⟨o,ho,_⟩:=h;Nat.ne_of_lt (Heap.lt_size ho)),⟨Heap.get?_push_size _ rfl,h.to λo e=>Heap.get?_push_of_some _ e⟩⟩
end
def Xmp (K:PySem.W.Frag) (xs:List V) (H:Hp) (Q:VK):Prop:=∃ a kws,xs = [.ref a] /\ Rd H a (.dT kws) /\ ∀ p (qs:List (List Key × Addr)),H p = none -> qs.map (·.1) = kws.map (·.1) -> (∀ q ∈ qs,H q.2 = some (.tup (q.1.map kV))) -> Q (.ref p) (upd H p (.lst (qs.map λq=>V.ref q.2)))
theorem Xlm {X:Cx} (hc:X.calm = true):CallR X (.type "list") (Xmp X.K):=by
 intro pins s σ H xs us Q I r h;obtain ⟨a,kws,rfl,ha,q⟩:=h
 cases r with
 | cons r1 r2 =>
  cases r2;cases (show _ = Value.ref a from r1);obtain ⟨hz,hS,vs,kt,o,es,ep,h1,h2,h3,h4,_,_⟩:=dt_rd I.hok ha;have hkl:kws.length = vs.length:=Paired.length kt;have hsz:es.size = vs.length:=by have:=congrArg List.length h4;simpa using this
  refine PySem.W.kdl_call (T := "dict") (r:=a) (d:=a) (n:=es.size) (Xtk (ep:=ep) hS) (I.ok.hd hc) ⟨o,h1,h2,h3⟩ (by omega) λh' tk acc' c' kp hS' hI=>?_
  have hn:H s.heap.objs.size = none:=I.hok.fresh (Nat.le_refl _);have eq1:acc'.toList = vs.map λx=>.ref x.2.1:=by
   have l1:acc'.size = es.size:=hI.1;refine List.ext_getElem? λj=>?_
   rw [List.getElem?_map]
   by_cases hj:j < acc'.size
   ·have ej:acc'.toList[j]? = some acc'[j]:=by rw [Array.getElem?_toList,Array.getElem?_eq_getElem hj]
    obtain ⟨x,e1,e2⟩:=hI.2 j acc'[j] (Array.getElem?_eq_getElem hj);rw [<- Array.getElem?_toList,h4,List.getElem?_map] at e1;obtain ⟨p,e3,rfl⟩:=Option.map_eq_some_iff.mp e1;rw [ej,e3,<- e2];rfl
   ·rw [List.getElem?_eq_none (by simp;omega),List.getElem?_eq_none (by omega)];rfl
  have all:∀ {l:List (List Key × V)} {m:List (List Key × Addr × Value)},KT H l m -> (m.map λx=>(x.1,x.2.1)).map (·.1) = l.map (·.1) /\ ∀ x ∈ m.map λx=>(x.1,x.2.1),H x.2 = some (.tup (x.1.map kV)):=by
   intro l m k
   induction k with
   | nil=>exact ⟨rfl,λx hx=>nomatch hx⟩
   | @cons p q ps qs hq t ih =>
    refine ⟨by simp only [List.map_cons];rw [ih.1,hq.1],λx hx=>?_⟩
    rcases List.mem_cons.mp hx with e | hx
    ·subst e
     show H q.2.1 = some (.tup (q.1.map kV))
     rw [<- hq.1];exact hq.2.1
    ·exact ih.2 x hx
  obtain ⟨a1,a2⟩:=all kt;have vr:∀ (m:List (List Key × Addr)),Vals (m.map λx=>V.ref x.2) (m.map λx=>Value.ref x.2):=λm=>by
   induction m with
   | nil=>exact .nil
   | cons x m ih=>exact .cons rfl ih
  refine ⟨.ref s.heap.objs.size,_,I.laid (t':=tk) kp (Nat.le_refl _) (show ObjOk X.prog X.w _ h' _ (.lst ((vs.map λx=>(x.1,x.2.1)).map λx=>V.ref x.2)) from ⟨by simp;omega,acc'.toList,c',?_,by rw [hS']⟩),rfl,q _ _ hn a1 a2⟩;have:=vr (vs.map λx=>(x.1,x.2.1));rw [eq1];rw [List.map_map,List.map_map] at this;rw [List.map_map];exact this
def kTup (k:List Key):D:=.tup (k.map kD)
def Xkm (ds:List D) (Q:D -> Prop):Prop:=match ds with
 | [.dT kvs]=>Q (.lst (kvs.map λq=>kTup q.1))
 | _=>False
theorem RepT.keys {K:PySem.W.Frag} {G:Hp}:∀ {kvs:List (List Key × D)} {kws:List (List Key × V)},RepT K G kvs kws -> kws.map (·.1) = kvs.map (·.1)
 | [],kws,h=>by simp only [RepT] at h;subst h;rfl
 | (k,d) :: r,kws,h=>by
  simp only [RepT] at h;obtain ⟨v,q,rfl,_,h3⟩:=h;simp only [List.map_cons];rw [RepT.keys h3]
theorem Xml {K:PySem.W.Frag} {H:Hp}:∀ ks:List Key,Reps K H (ks.map kD) (ks.map kV)
 | []=>Reps.nil
 | k :: ks=>Reps.cons (Xwi k) (Xml ks)
theorem Xha {K:PySem.W.Frag} {H:Hp}:∀ {qs:List (List Key × Addr)},(∀ q ∈ qs,H q.2 = some (.tup (q.1.map kV))) -> Reps K H (qs.map λq=>kTup q.1) (qs.map λq=>V.ref q.2)
 | [],_=>Reps.nil
 | q :: qs,h=>Reps.cons (by unfold kTup;simp only [Rep];exact ⟨q.2,_,rfl,h q (List.mem_cons_self ..),Xml q.1⟩) (Xha λp hp=>h p (List.mem_cons_of_mem _ hp))
theorem Xpr {K:PySem.W.Frag}:LfN K (Xmp K) Xkm:=λH0 σ δ G H vs ds Qd Q hs r h k=>by
 unfold Xkm at h
 split at h
 ·rename_i kvs
  obtain ⟨v,rr,rfl,⟨a,kws,rfl,h2,h3⟩,h4⟩:=r;obtain rfl:rr = []:=h4;refine ⟨a,kws,rfl,h2,λl qs hl e tq=>?_⟩;have eq1:(kvs.map λq=>kTup q.1) = qs.map λq=>kTup q.1:=by
   have : qs.map (·.1) = kvs.map (·.1):=e.trans h3.keys;have:=congrArg (List.map kTup) this;rw [List.map_map,List.map_map] at this;exact this.symm
  rw [eq1] at h;exact k _ _ G (.lst (qs.map λq=>kTup q.1)) (hs.fresh hl ⟨_,Xac,Xha λq hq=>(hs.hard (tq q hq) (λz=>z)).1⟩) (Same.refl _) (Xal hl) h
 ·exact h.elim
section
variable {X:Cx} {H0:Hp} {e:Expr} {es:List Expr} {tr:RA} {pos p:Pos}
theorem Xsx (hc:X.calm = true) (hm:X.mg "list" = none) (ha:PAB2 X H0 (e :: es) tr) (hg:Gl X "list" := by rfl)
(he:starEach (e :: es) X.env = (false,eval e X.env) :: starEach es X.env:=by rfl) (hpl:(backTo pos (starEach es X.env)).any (·.1) = false:=by rfl):PN2 X H0 (.Call (.Name "list" p) (e :: es) [] pos) (rCB Xkm tr) :=
 Xjv (Xlm hc) Xpr hm rfl ha hg (by decide) (by decide) he hpl
end
structure QE (X:Cx) (H0:Hp) (e:Expr) (t:RE):Prop where
 run:PE2 X H0 e t
structure QB (X:Cx) (H0:Hp) (e:Expr) (t:RE):Prop where
 run:PB2 X H0 e t
structure QN (X:Cx) (H0:Hp) (e:Expr) (t:RE):Prop where
 run:PN2 X H0 e t
structure QT (X:Cx) (H0:Hp) (e:Expr) (t:RT):Prop where
 run:PT2 X H0 e t
structure QW (X:Cx) (H0:Hp) (e:Expr) (t:RT):Prop where
 run:PW2 X H0 e t
structure QA (X:Cx) (H0:Hp) (e:List Expr) (t:RA):Prop where
 run:PA2 X H0 e t
structure QAB (X:Cx) (H0:Hp) (e:List Expr) (t:RA):Prop where
 run:PAB2 X H0 e t
structure QAL (X:Cx) (H0:Hp) (i:Nat) (e:List Expr) (t:RA):Prop where
 run:PAL X H0 i e t
structure QO (X:Cx) (H0:Hp) (e:Option Expr) (t:RO):Prop where
 run:PO2 X H0 e t
structure QS (X:Cx) (H0:Hp) (e:Stmt) (t:RS):Prop where
 run:PS2 X H0 e t
structure QSs (X:Cx) (H0:Hp) (e:List Stmt) (t:RS):Prop where
 run:PSs2 X H0 e t
structure QG (X:Cx) (H0:Hp) (e:Expr) (t:RG):Prop where
 run:PG2 X H0 e t
structure QGs (X:Cx) (H0:Hp) (e:List Expr) (t:RGs):Prop where
 run:PGs2 X H0 e t
structure QGp (X:Cx) (H0:Hp) (nT:Nat) (e:Expr) (t:RGp):Prop where
 run:PGp X H0 nT e t
structure QGsp (X:Cx) (H0:Hp) (nT:Nat) (e:List Expr) (t:RGsp):Prop where
 run:PGsp X H0 nT e t
structure QIf (X:Cx) (H0:Hp) (e:List Expr) (t:RT):Prop where
 run:PIf2 X H0 e t
namespace Wr
section
variable {K:PySem.W.Frag} {H0:Hp} {σ:L2.St} {δ:List Sl} {G G' H H':Hp} {d:D} {v:V}
end
section
variable {X:Cx} {H0:Hp} {e a b c:Expr} {t ta tb tc:RE} {pos:Pos}
theorem PE2_bo (h:QE X H0 e t):QB X H0 e t :=
 ⟨M.PE2.bo h.run⟩
theorem PN2_fx (h:QN X H0 e t):QE X H0 e t :=
 ⟨M.PN2.fx h.run⟩
theorem PN2_bo (h:QN X H0 e t):QB X H0 e t :=
 ⟨M.PN2.bo h.run⟩
theorem e_var (i:Nat) {x:Str} {pos:Pos} (hN:X.N[i]? = some x:=by rfl) (hv:Vis X.env.scope x:=by first | exact Or.inl rfl | exact Or.inr (Or.inl rfl) | exact Or.inr (Or.inr rfl)) (hd:(x == ("__debug__" : Str)) = false:=by decide) (hcd:(x == ("__classdict__" : Str)) = false:=by decide):QE X H0 (.Name x pos) (rVar i) :=
 ⟨M.e_var i hN hv hd hcd⟩
theorem b_var (i:Nat) {x:Str} {pos:Pos} (hN:X.N[i]? = some x:=by rfl) (hv:Vis X.env.scope x:=by first | exact Or.inl rfl | exact Or.inr (Or.inl rfl) | exact Or.inr (Or.inr rfl)) (hd:(x == ("__debug__" : Str)) = false:=by decide) (hcd:(x == ("__classdict__" : Str)) = false:=by decide):QB X H0 (.Name x pos) (rVarB i) :=
 ⟨M.b_var i hN hv hd hcd⟩
theorem e_int {i:Int} {j:Nat} {pos:Pos}:QE X H0 (.Constant (.int i) j pos) (rC (.int i)) :=
 ⟨M.e_int ⟩
theorem e_bl {b:Bool} {j:Nat} {pos:Pos}:QE X H0 (.Constant (.bool b) j pos) (rC (.bl b)) :=
 ⟨M.e_bl ⟩
theorem e_non {j:Nat} {pos:Pos}:QE X H0 (.Constant .none j pos) (rC .non) :=
 ⟨M.e_non ⟩
theorem e_str {x:Str} {j:Nat} {pos:Pos}:QE X H0 (.Constant (.str x) j pos) (rC (.str x)) :=
 ⟨M.e_str ⟩
theorem e_cmp {op:CmpOp} {r:R2} {r2:D -> D -> (D -> Prop) -> Prop} (ho:OpR X (compareOp op) r) (lf:Lf2 X.K r r2) (ha:QB X H0 a ta) (hb:QB X H0 b tb) (hm:behindInMarks op b = false):QE X H0 (.Compare a [op] [b] pos) (rOp r2 ta tb) :=
 ⟨M.e_cmp ho lf ha.run hb.run hm⟩
theorem t_cmp {op:CmpOp} {r:R2} {r2:D -> D -> (D -> Prop) -> Prop} (ho:OpR X (compareOp op) r) (lf:Lf2 X.K r r2) (ha:QB X H0 a ta) (hb:QB X H0 b tb) (hm:behindInMarks op b = false):QT X H0 (.Compare a [op] [b] pos) (rTest (rOp r2 ta tb)) :=
 ⟨M.t_cmp ho lf ha.run hb.run hm⟩
theorem e_add (ha:QB X H0 a ta) (hb:QB X H0 b tb):QE X H0 (.BinOp a .Add b pos) (rOp (dI0 λi j=>.int (i + j)) ta tb) :=
 ⟨M.e_add ha.run hb.run⟩
theorem e_mul (ha:QB X H0 a ta) (hb:QB X H0 b tb):QE X H0 (.BinOp a .Mult b pos) (rOp (dI CMul λi j=>.int (i * j)) ta tb) :=
 ⟨M.e_mul ha.run hb.run⟩
theorem e_fdiv (ha:QB X H0 a ta) (hb:QB X H0 b tb):QE X H0 (.BinOp a .FloorDiv b pos) (rOp (dI CDv λi j=>.int (i / j)) ta tb) :=
 ⟨M.e_fdiv ha.run hb.run⟩
theorem e_mod (ha:QB X H0 a ta) (hb:QB X H0 b tb):QE X H0 (.BinOp a .Mod b pos) (rOp (dI (λ_ j=>0 < j) λi j=>.int (i % j)) ta tb) :=
 ⟨M.e_mod ha.run hb.run⟩
theorem e_pow (ha:QB X H0 a ta) (hb:QB X H0 b tb):QE X H0 (.BinOp a .Pow b pos) (rOp (dI CPow λi j=>.int (i ^ j.toNat)) ta tb) :=
 ⟨M.e_pow ha.run hb.run⟩
end
section
variable {X:Cx} {H0:Hp} {e a b c:Expr} {t ta tb tc:RE} {u uA uB:RT} {pos:Pos} {rest:List Expr}
theorem PW2_pt (h:QW X H0 e u):QT X H0 e u :=
 ⟨M.PW2.pt h.run⟩
theorem t_and1 (ha:QT X H0 a uA):QW X H0 (.BoolOp .And [a] pos) uA :=
 ⟨M.t_and1 ha.run⟩
theorem t_or1 (ha:QT X H0 a uA):QW X H0 (.BoolOp .Or [a] pos) uA :=
 ⟨M.t_or1 ha.run⟩
theorem t_and (ha:QT X H0 a uA) (hb:QW X H0 (.BoolOp .And (b :: rest) pos) uB):QW X H0 (.BoolOp .And (a :: b :: rest) pos) (rAnd uA uB) :=
 ⟨M.t_and ha.run hb.run⟩
theorem t_or (ha:QT X H0 a uA) (hb:QW X H0 (.BoolOp .Or (b :: rest) pos) uB):QW X H0 (.BoolOp .Or (a :: b :: rest) pos) (rOr uA uB) :=
 ⟨M.t_or ha.run hb.run⟩
theorem t_not (ha:QT X H0 a uA):QT X H0 (.UnaryOp .Not a pos) (rNot uA) :=
 ⟨M.t_not ha.run⟩
theorem t_val (h:QE X H0 e t) (he:∀ whole,isTrue e X.env whole = (do let v <- whole;standAt e.pos;holding [v] (truthy v)):=by intro _;rfl):QT X H0 e (rTest t) :=
 ⟨M.t_val h.run he⟩
theorem e_one {op:BoolOp} (ha:QE X H0 a ta):QE X H0 (.BoolOp op [a] pos) ta :=
 ⟨M.e_one ha.run⟩
theorem e_and (ha:QE X H0 a ta) (hb:QE X H0 (.BoolOp .And (b :: rest) pos) tb):QE X H0 (.BoolOp .And (a :: b :: rest) pos) (rAndV ta tb) :=
 ⟨M.e_and ha.run hb.run⟩
theorem e_not (ha:QE X H0 a ta):QE X H0 (.UnaryOp .Not a pos) (rNotV ta) :=
 ⟨M.e_not ha.run⟩
variable {es:List Expr} {tr:RA}
theorem a_nil  : QA X H0 [] rNil :=
 ⟨M.a_nil ⟩
theorem a_cons (ha:QE X H0 e t) (hr:QA X H0 es tr) (hs:starEach (e :: es) X.env = (false,eval e X.env) :: starEach es X.env:=by rfl):QA X H0 (e :: es) (rCons t tr) :=
 ⟨M.a_cons ha.run hr.run hs⟩
theorem e_tup {x1} (h:QA X H0 es tr):QE X H0 (.Tuple es x1 pos) (rTupD tr) :=
 ⟨M.e_tup h.run⟩
theorem n_lst (h:QA X H0 es tr):QN X H0 (.List es pos) (rLstD tr) :=
 ⟨M.n_lst h.run⟩
theorem n_dK {pos:Pos}:QN X H0 (.Dict [] [] pos) Xqs :=
 ⟨M.n_dK ⟩
theorem n_dT {pos:Pos}:QN X H0 (.Dict [] [] pos) Xqr :=
 ⟨M.n_dT ⟩
theorem e_ix (ha:QB X H0 a ta) (hb:QB X H0 b tb) (hp:Xjg b:=by intro _ _;rfl):QE X H0 (.Subscript a b pos) (rOp dIx ta tb) :=
 ⟨M.e_ix ha.run hb.run hp⟩
theorem o_none  : QO X H0 none (λ_ Q=>Q none) :=
 ⟨M.o_none ⟩
theorem o_some (h:QB X H0 e t):QO X H0 (some e) (rPart t) :=
 ⟨M.o_some h.run⟩
variable {lo hi:Option Expr} {tl th:RO} {p2:Pos}
theorem n_slL (he:QB X H0 e t) (hl:QO X H0 lo tl) (hu:QO X H0 hi th):QN X H0 (.Subscript e (.Slice lo hi none p2) pos) (rSlL2 t tl th) :=
 ⟨M.n_slL he.run hl.run hu.run⟩
end
section
variable {X:Cx} {H0:Hp} {e:Expr} {t:RE} {lo hi:Option Expr} {tl th:RO} {p2 pos:Pos}
end
section
variable {X:Cx} {H0:Hp} {e tg:Expr} {te:RE} {st:Stmt} {rest b1 b2:List Stmt} {t u:RS} {c:Expr} {tc:RT} {pos pos':Pos} {x:Str}
theorem s_nil  : QSs X H0 [] rNext :=
 ⟨M.s_nil ⟩
theorem s_cons (h1:QS X H0 st t) (h2:QSs X H0 rest u):QSs X H0 (st :: rest) (rSeq t u) :=
 ⟨M.s_cons h1.run h2.run⟩
theorem s_one (h1:QS X H0 st t):QSs X H0 [st] t :=
 ⟨M.s_one h1.run⟩
theorem s_freeze (i:Nat) (h:QSs X H0 rest t):QSs X H0 rest (Xin i t) :=
 ⟨M.s_freeze i h.run⟩
theorem s_ret (he:QE X H0 e te):QS X H0 (.Return (some e) pos) (rRet te) :=
 ⟨M.s_ret he.run⟩
theorem s_retN (he:QN X H0 e te):QS X H0 (.Return (some e) pos) (rRetN te) :=
 ⟨M.s_retN he.run⟩
theorem s_retO (i:Nat) (hN:X.N[i]? = some x:=by rfl) (hv:Vis X.env.scope x:=by first | exact Or.inl rfl | exact Or.inr (Or.inl rfl) | exact Or.inr (Or.inr rfl)) (hd:(x == ("__debug__" : Str)) = false:=by decide) (hcd:(x == ("__classdict__" : Str)) = false:=by decide):QS X H0 (.Return (some (.Name x pos')) pos) (rRetO i) :=
 ⟨M.s_retO i hN hv hd hcd⟩
theorem s_if (hc:QT X H0 c tc) (ha:QSs X H0 b1 t) (hb:QSs X H0 b2 u):QS X H0 (.If c b1 b2 pos) (rIf tc t u) :=
 ⟨M.s_if hc.run ha.run hb.run⟩
theorem g_name (i:Nat) (hN:X.N.Nodup) (hi:X.N[i]? = some x:=by rfl) (hx:Loc X.env.scope x:=by first | exact Or.inl rfl | exact Or.inr rfl) (hf:X.fn x = true \/ X.env.scope.names.lookup x = some .local:=by first | exact .inl rfl | exact .inr rfl | assumption):QG X H0 (.Name x pos) (gSet i) :=
 ⟨M.g_name i hN hi hx hf⟩
theorem s_set (i:Nat) (hN:X.N.Nodup) (he:QE X H0 e te) (hi:X.N[i]? = some x:=by rfl) (hx:Loc X.env.scope x:=by first | exact Or.inl rfl | exact Or.inr rfl) (hs:swapsWith e (some (.Name x pos')) pos.line X.env = pure false:=by rfl) (hf:X.fn x = true \/ X.env.scope.names.lookup x = some .local:=by first | exact .inl rfl | exact .inr rfl | assumption):QS X H0 (.Assign [.Name x pos'] e pos) (rSet i te) :=
 ⟨M.s_set i hN he.run hi hx hs hf⟩
theorem s_setN (i:Nat) (hN:X.N.Nodup) (he:QN X H0 e te) (hi:X.N[i]? = some x:=by rfl) (hx:Loc X.env.scope x:=by first | exact Or.inl rfl | exact Or.inr rfl) (hs:swapsWith e (some (.Name x pos')) pos.line X.env = pure false:=by rfl) (hf:X.fn x = true \/ X.env.scope.names.lookup x = some .local:=by first | exact .inl rfl | exact .inr rfl | assumption):QS X H0 (.Assign [.Name x pos'] e pos) (rSetN i te) :=
 ⟨M.s_setN i hN he.run hi hx hs hf⟩
theorem gs_nil  : QGs X H0 [] gNil2 :=
 ⟨M.gs_nil ⟩
variable {es:List Expr} {g:RG} {gs:RGs}
theorem gs_cons (h1:QG X H0 e g) (h2:QGs X H0 es gs) (hs:(assignEach (e :: es) X.env).map (·.2) = assign e X.env :: (assignEach es X.env).map (·.2):=by rfl):QGs X H0 (e :: es) (Xrh g gs) :=
 ⟨M.gs_cons h1.run h2.run hs⟩
theorem g_tup {n k:Nat} (hc:X.calm = true) (h:QGs X H0 es gs) (hn:(assignEach es X.env).length = n:=by rfl) (hst:(assignEach es X.env).findIdx? (·.1) = none:=by rfl):QG X H0 (.Tuple es k pos) (gTup2 n gs) :=
 ⟨M.g_tup hc h.run hn hst⟩
theorem s_asg (he:QE X H0 e te) (hg:QG X H0 tg g) (hs:swapsWithSole [tg] e pos.line X.env = pure false:=by rfl) (hw:swappedStores [tg] e X.env = pure none:=by rfl) (h1:(assignEach [tg] X.env).map (·.2) = [assign tg X.env]:=by rfl):QS X H0 (.Assign [tg] e pos) (rAsg te g) :=
 ⟨M.s_asg he.run hg.run hs hw h1⟩
variable {iter:Expr} {body:List Stmt} {tb:RS}
theorem s_forL (hp:PassesOwn (model X.prog X.w) X.A X.env X.xe) (hc:X.calm = true) (hi:QE X H0 iter te) (hg:QG X H0 tg g) (hb:QSs X H0 body tb) (hs:∀ x,foldedSetIterable iter X.env x = pure x:=by intro _;rfl):QS X H0 (.For tg iter body [] pos) (rForL te g tb) :=
 ⟨M.s_forL hp hc hi.run hg.run hb.run hs⟩
theorem s_forT (hp:PassesOwn (model X.prog X.w) X.A X.env X.xe) (hc:X.calm = true) (hi:QE X H0 iter te) (hg:QG X H0 tg g) (hb:QSs X H0 body tb) (hs:∀ x,foldedSetIterable iter X.env x = pure x:=by intro _;rfl):QS X H0 (.For tg iter body [] pos) (rForT te g tb) :=
 ⟨M.s_forT hp hc hi.run hg.run hb.run hs⟩
end
section
variable {X:Cx} {H0:Hp} {e tg:Expr} {te:RE} {st:Stmt} {pos pos':Pos} {x:Str} {es:List Expr} {g:RG} {gs:RGs} {iter:Expr} {body:List Stmt} {tb:RS}
variable {tr:RA} {a1 a2:Expr}
theorem s_forR1 {p pos2:Pos} (hp:PassesOwn (model X.prog X.w) X.A X.env X.xe) (hc:X.calm = true) (hgl:Gl X "range") (hm:X.mg "range" = none) (ha:QA X H0 [a1] tr) (hg:QG X H0 tg g) (hb:QSs X H0 body tb) (hst:starEach [a1] X.env = [(false,eval a1 X.env)]:=by rfl) (hs:∀ x,foldedSetIterable (.Call (.Name "range" p) [a1] [] pos2) X.env x = pure x:=by intro _;rfl):QS X H0 (.For tg (.Call (.Name "range" p) [a1] [] pos2) body [] pos) (Xqq tr g tb) :=
 ⟨M.s_forR1 hp hc hgl hm ha.run hg.run hb.run hst hs⟩
end
section
variable {P:Program} {w:World} {K:PySem.W.Frag} {mg:Str -> Option Value} {base:Heap}
theorem fun_ok {x qual:Str} {st:Stmt} {f:Addr} {fd:FuncData} {N ps:List Str} {k:Nat} {sp:Sp2} (F:Fun K x qual st f fd) (S:FnScope N ps (Xab st)) (len:∀ ds Qd,sp ds Qd -> ds.length = ps.length) (hbody:∀ (cdv:Value) (A:Around) (outer:List Env) (s:Shared) (H:Hp) (E:XK),Room k (A.deeper (envOfC qual (Xab st) s.heap.objs.size f cdv)) -> ∀ ds Qd,sp ds Qd ->
∃ t,QSs (cxOf CX0 P w K mg base N qual (Xab st) f cdv A outer s H E).nox H (Xax st) t /\ t { nx:=λ_=>Qd (.val .non),rt:=λr _=>Qd r } (Xmb N ds)):FnOk P w K mg base CX0 (k + 1) f fd ps (Xag K sp) :=
 M.fun_ok F S len λcdv A outer s H E hr ds Qd h=>let ⟨t,a,b⟩:=hbody cdv A outer s H E hr ds Qd h;⟨t,a.run,b⟩
end
section
variable {X:Cx} {H0:Hp} {pins:List (Addr × Obj)} {σ:L2.St} {δ:List Sl} {G H:Hp} {s:Shared}
end
section
variable {X:Cx} {H0:Hp} {k:Nat} {x:Str} {sp:Sp2} {e:Expr} {es:List Expr} {tr:RA} {p pos:Pos}
theorem e_call (F:Fn2 X.prog X.w X.K X.mg X.base k x sp) (hr:Room k X.A) (ha:QA X H0 (e :: es) tr) (hg:Gl X x:=by rfl) (hdb:(x == ("__debug__" : Str)) = false:=by decide) (he:starEach (e :: es) X.env = (false,eval e X.env) :: starEach es X.env:=by rfl) (hpl:(backTo pos (starEach es X.env)).any (·.1) = false:=by rfl):QE X H0 (.Call (.Name x p) (e :: es) [] pos) (rCall sp tr) :=
 ⟨M.e_call F hr ha.run hg hdb he hpl⟩
theorem n_call (F:Fn2 X.prog X.w X.K X.mg X.base k x sp) (hr:Room k X.A) (ha:QA X H0 (e :: es) tr) (hg:Gl X x:=by rfl) (hdb:(x == ("__debug__" : Str)) = false:=by decide) (he:starEach (e :: es) X.env = (false,eval e X.env) :: starEach es X.env:=by rfl) (hpl:(backTo pos (starEach es X.env)).any (·.1) = false:=by rfl):QN X H0 (.Call (.Name x p) (e :: es) [] pos) (Xqx sp tr) :=
 ⟨M.n_call F hr ha.run hg hdb he hpl⟩
end
section
variable {prog:Program} {w:World} {A:Around} {E:Value -> Shared -> Prop}
end
section
variable {X:Cx} {H0:Hp} {es:List Expr} {gs:RGs} {pos:Pos}
theorem g_lst {n k:Nat} (hc:X.calm = true) (h:QGs X H0 es gs) (hn:(assignEach es X.env).length = n:=by rfl) (hst:(assignEach es X.env).findIdx? (·.1) = none:=by rfl):QG X H0 (.Tuple es k pos) (gLst2 n gs) :=
 ⟨M.g_lst hc h.run hn hst⟩
end
section
variable {X:Cx} {H0:Hp}
variable {ts:List Expr} {k:Nat} {tp p pos pos2:Pos} {a:Expr} {tr:RA} {g:RG} {tb:RS} {body:List Stmt}
theorem s_forE (hp:PassesOwn (model X.prog X.w) X.A X.env X.xe) (hc:X.calm = true) (hgl:Gl X "enumerate") (hm:X.mg "enumerate" = none) (ha:QA X H0 [a] tr) (hg:QG X H0 (.Tuple ts k tp) g) (hb:QSs X H0 body tb) (hst:starEach [a] X.env = [(false,eval a X.env)]:=by rfl) (hs:∀ x,foldedSetIterable (.Call (.Name "enumerate" p) [a] [] pos2) X.env x = pure x:=by intro _;rfl):QS X H0 (.For (.Tuple ts k tp) (.Call (.Name "enumerate" p) [a] [] pos2) body [] pos) (rForE tr g tb) :=
 ⟨M.s_forE hp hc hgl hm ha.run hg.run hb.run hst hs⟩
end
section
variable {X:Cx} {H0:Hp} {e:Expr} {t:RE} {pos p:Pos} {es:List Expr} {tr:RA} {x:Str} {id T:String}
theorem ab_nil  : QAB X H0 [] rNil :=
 ⟨M.ab_nil ⟩
theorem ab_cons (ha:QB X H0 e t) (hr:QAB X H0 es tr) (hs:starEach (e :: es) X.env = (false,eval e X.env) :: starEach es X.env:=by rfl):QAB X H0 (e :: es) (rCons t tr) :=
 ⟨M.ab_cons ha.run hr.run hs⟩
variable {r:List V -> Hp -> VK -> Prop} {r2:List D -> (D -> Prop) -> Prop}
theorem e_len (hm:X.mg "len" = none) (ha:QAB X H0 (e :: es) tr) (hg:Gl X "len" := by rfl) (he:starEach (e :: es) X.env = (false,eval e X.env) :: starEach es X.env:=by rfl) (hpl:(backTo pos (starEach es X.env)).any (·.1) = false:=by rfl):QE X H0 (.Call (.Name "len" p) (e :: es) [] pos) (rCB dLen tr) :=
 ⟨M.e_len hm ha.run hg he hpl⟩
theorem n_list (hm:X.mg "list" = none) (ha:QAB X H0 (e :: es) tr) (hg:Gl X "list" := by rfl) (he:starEach (e :: es) X.env = (false,eval e X.env) :: starEach es X.env:=by rfl) (hpl:(backTo pos (starEach es X.env)).any (·.1) = false:=by rfl):QN X H0 (.Call (.Name "list" p) (e :: es) [] pos) (rCB Xgo tr) :=
 ⟨M.n_list hm ha.run hg he hpl⟩
theorem e_min2 (hc:X.calm = true) (hm:X.mg "min" = none) (ha:QAB X H0 (e :: es) tr) (hg:Gl X "min" := by rfl) (he:starEach (e :: es) X.env = (false,eval e X.env) :: starEach es X.env:=by rfl) (hpl:(backTo pos (starEach es X.env)).any (·.1) = false:=by rfl):QE X H0 (.Call (.Name "min" p) (e :: es) [] pos) (rCB (λds Q=>two? ds (λi j=>if j < i then j else i) Q) tr) :=
 ⟨M.e_min2 hc hm ha.run hg he hpl⟩
end
section
variable {X:Cx} {H0:Hp} {e:Expr} {t:RE} {pos cpos apos p:Pos} {x:Str}
theorem s_app (i:Nat) (he:QE X H0 e t) (hN:X.N[i]? = some x:=by rfl) (hv:Vis X.env.scope x:=by first | exact Or.inl rfl | exact Or.inr (Or.inl rfl) | exact Or.inr (Or.inr rfl)) (hd:(x == ("__debug__" : Str)) = false:=by decide) (hcd:(x == ("__classdict__" : Str)) = false:=by decide) (hbase:attributeBase (.Name x p) "append" X.env (eval (.Name x p) X.env) = eval (.Name x p) X.env:=by rfl) (hfew:((backTo cpos (starEach [e] X.env)).all (λx=>!x.1) && (backToKw cpos (keywordEach [] X.env)).all (λx=>x.1.isSome)
&& decide ([e].length + ([]:List Keyword).length + (if ([]:List Keyword).isEmpty then 0 else 1) < 30)) = true:=by rfl) (hline:(apos.endLine == cpos.line) = true:=by rfl) (hs:starEach [e] X.env = (false,eval e X.env) :: starEach [] X.env:=by rfl) (hplain:(backTo cpos (starEach [] X.env)).any (·.1) = false:=by rfl) (hsw:swapsWith (.Call (.Attribute (.Name x p) "append" apos) [e] [] cpos) none pos.line X.env = pure false:=by rfl):QS X H0 (.Expr (.Call (.Attribute (.Name x p) "append" apos) [e] [] cpos) pos) (rApp i t) :=
 ⟨M.s_app i he.run hN hv hd hcd hbase hfew hline hs hplain hsw⟩
end
section
variable {X:Cx} {H0:Hp} {e:Expr} {t:RE} {pos p p2:Pos} {T:String} {x:Str}
theorem e_isi (k:KindOk X.K T) (hm:X.mg "isinstance" = none) (hm2:X.mg x = none) (ha:QB X H0 e t) (hv:bootBuiltins x = some (.type T):=by rfl) (hg:Gl X "isinstance" := by rfl) (hg2:Gl X x:=by rfl) (hn:x ≠ "__name__" := by decide) (hdb:(x == ("__debug__" : Str)) = false:=by decide) (he:starEach (e :: [.Name x p2]) X.env = (false,eval e X.env) :: starEach [.Name x p2] X.env:=by rfl) (he2:starEach [.Name x p2] X.env = (false,eval (.Name x p2) X.env) :: starEach [] X.env:=by rfl) (hpl:(backTo pos (starEach [.Name x p2] X.env)).any (·.1) = false:=by rfl):QE X H0 (.Call (.Name "isinstance" p) [e,.Name x p2] [] pos) (rIsi T t) :=
 ⟨M.e_isi k hm hm2 ha.run hv hg hg2 hn hdb he he2 hpl⟩
end
section
variable {X:Cx} {H0:Hp} {e:Expr} {es:List Expr} {tr:RA} {pos p:Pos}
theorem e_sum (hc:X.calm = true) (hm:X.mg "sum" = none) (ha:QAB X H0 (e :: es) tr) (hg:Gl X "sum" := by rfl) (he:starEach (e :: es) X.env = (false,eval e X.env) :: starEach es X.env:=by rfl) (hpl:(backTo pos (starEach es X.env)).any (·.1) = false:=by rfl):QE X H0 (.Call (.Name "sum" p) (e :: es) [] pos) (rCB dSum tr) :=
 ⟨M.e_sum hc hm ha.run hg he hpl⟩
end
section
variable {X:Cx} {H0:Hp} {e:Expr} {te:RE} {pos pos':Pos} {x:Str}
theorem s_augadd (i:Nat) (hN:X.N.Nodup) (he:QE X H0 e te) (hi:X.N[i]? = some x:=by rfl) (hx:Loc X.env.scope x:=by first | exact Or.inl rfl | exact Or.inr rfl) (hf:X.fn x = true \/ X.env.scope.names.lookup x = some .local:=by first | exact .inl rfl | exact .inr rfl | assumption):QS X H0 (.AugAssign (.Name x pos') .Add e pos) (rAug (λi j=>i + j) i te) :=
 ⟨M.s_augadd i hN he.run hi hx hf⟩
end
section
variable {X:Cx} {H0:Hp} {a b e f value o:Expr} {ta tb te tf:RE} {pos pos' apos cpos p:Pos} {x:Str}
theorem e_dget (hu:X.A.units + 1 < cLine) (ha:QB X H0 a ta) (hb:QB X H0 b tb) (hs:NoSl b:=by intro _ _;rfl):QE X H0 (.Subscript a b pos) (rOp dDGet ta tb) :=
 ⟨M.e_dget hu ha.run hb.run hs⟩
theorem t_din (hu:X.A.units + 1 < cLine) (ha:QB X H0 a ta) (hb:QB X H0 b tb) (h1:behindInMarks .In b = false:=by rfl):QT X H0 (.Compare a [.In] [b] pos) (rTest (rOp (dDIn false) ta tb)) :=
 ⟨M.t_din hu ha.run hb.run h1⟩
theorem t_dnotin (hu:X.A.units + 1 < cLine) (ha:QB X H0 a ta) (hb:QB X H0 b tb) (h1:behindInMarks .NotIn b = false:=by rfl):QT X H0 (.Compare a [.NotIn] [b] pos) (rTest (rOp (dDIn true) ta tb)) :=
 ⟨M.t_dnotin hu ha.run hb.run h1⟩
theorem s_dput (i:Nat) (hu:X.A.units + 1 < cLine) (hk:QE X H0 e te) (hv:QE X H0 value tf) (hN:X.N[i]? = some x:=by rfl) (hvs:Vis X.env.scope x:=by first | exact Or.inl rfl | exact Or.inr (Or.inl rfl) | exact Or.inr (Or.inr rfl)) (hd:(x == ("__debug__" : Str)) = false:=by decide) (hcd:(x == ("__classdict__" : Str)) = false:=by decide) (hs:swapsWith value (some (.Subscript (.Name x p) e pos')) pos.line X.env = pure false:=by rfl):QS X H0 (.Assign [.Subscript (.Name x p) e pos'] value pos) (rDPut i te tf) :=
 ⟨M.s_dput i hu hk.run hv.run hN hvs hd hcd hs⟩
variable {es:List Expr} {tr:RA}
end
section
variable {X:Cx} {H0:Hp} {c:Expr} {body:List Stmt} {tc:RT} {tb:RS} {pos:Pos}
theorem s_while (hp:PassesOwn (model X.prog X.w) X.A X.env X.xe) (hc:QT X H0 c tc) (hb:QSs X H0 body tb):QS X H0 (.While c body [] pos) (Xmo tc tb) :=
 ⟨M.s_while hp hc.run hb.run⟩
end
section
variable {K:PySem.W.Frag} {H0:Hp} {σ:L2.St} {δ:List Sl} {G H:Hp}
end
section
variable {P:Program} {w:World} {K:PySem.W.Frag} {mg:Str -> Option Value} {base:Heap}
end
section
variable {X:Cx} {H0:Hp} {pins:List (Addr × Obj)} {σ:L2.St} {δ:List Sl} {G H:Hp} {s:Shared}
end
section
variable {X:Cx} {H0:Hp} {k:Nat} {x:Str} {sp:Sp3} {e:Expr} {es:List Expr} {t:RE} {tr:RA} {p pos:Pos} {i:Nat}
variable {tg:Expr} {g:RG}
end
section
variable {K:PySem.W.Frag} {H0:Hp} {σ:L2.St} {δ:List Sl} {G H H':Hp}
end
section
variable {X:Cx} {H0:Hp} {k:Nat} {fx:Str} {sp:Sp2} {e:Expr} {te:RE} {p p2 pos kp:Pos} {S:SR}
end
section
variable {X:Cx} {H0:Hp} {a b e:Expr} {ta tb:RE} {pos:Pos}
theorem n_cat (ha:QB X H0 a ta) (hb:QB X H0 b tb):QN X H0 (.BinOp a .Add b pos) (rCat2 ta tb) :=
 ⟨M.n_cat ha.run hb.run⟩
variable {x:Str} {p apos cpos:Pos}
end
section
variable {prog:Program} {w:World} {A:Around} {E:Value -> Shared -> Prop} {s:Shared}
end
section
variable {X:Cx} {pins:List (Addr × Obj)} {σ:L2.St} {H:Hp} {s:Shared}
end
section
variable {X:Cx} {H0:Hp} {e:Expr} {es:List Expr} {tr:RA} {pos p:Pos}
theorem n_sort (hm:X.mg "sorted" = none) (ha:QAB X H0 (e :: es) tr) (hg:Gl X "sorted" := by rfl) (he:starEach (e :: es) X.env = (false,eval e X.env) :: starEach es X.env:=by rfl) (hpl:(backTo pos (starEach es X.env)).any (·.1) = false:=by rfl):QN X H0 (.Call (.Name "sorted" p) (e :: es) [] pos) (rCB dSort tr) :=
 ⟨M.n_sort hm ha.run hg he hpl⟩
end
section
variable {K:PySem.W.Frag} {H0:Hp} {σ:L2.St} {δ:List Sl} {G H:Hp}
end
section
variable {X:Cx} {H0:Hp} {tg:Expr} {g:RG} {body:List Stmt} {tb:RS} {pos p:Pos} {x:Str}
end
section
variable {X:Cx} {pins:List (Addr × Obj)} {σ:L2.St} {H:Hp} {s:Shared} {h':Heap}
end
section
variable {X:Cx} {H0:Hp}
variable {ts:List Expr} {k:Nat} {tp p pos pos2:Pos} {a b:Expr} {tr:RA} {g:RG} {tb:RS} {body:List Stmt}
end
section
variable {X:Cx} {H0:Hp} {pins:List (Addr × Obj)} {σ:L2.St} {H:Hp} {s:Shared}
variable {e:Expr} {es:List Expr} {tr:RA} {p pos:Pos}
variable {k i:Nat} {x:Str} {sp:Sp3} {b1 b2:List Stmt} {t u:RS} {p2 p3 p4:Pos}
end
section
variable {K:PySem.W.Frag} {H0:Hp} {σ:L2.St} {δ:List Sl} {G H:Hp}
end
section
variable {X:Cx} {H0:Hp} {nT:Nat} {x:Str} {pos:Pos} {e:Expr} {es:List Expr}
theorem gp_name (i:Nat) (hlt:i < nT) (hN:X.N.Nodup) (hi:X.N[i]? = some x:=by rfl) (hx:Loc X.env.scope x:=by first | exact Or.inl rfl | exact Or.inr rfl) (hf:X.fn x = true \/ X.env.scope.names.lookup x = some .local:=by first | exact .inl rfl | exact .inr rfl | assumption):QGp X H0 nT (.Name x pos) (gpSet i) :=
 ⟨M.gp_name i hlt hN hi hx hf⟩
theorem gsp_nil  : QGsp X H0 nT [] gpNil :=
 ⟨M.gsp_nil ⟩
variable {g:RGp} {gs:RGsp}
theorem gsp_cons (h1:QGp X H0 nT e g) (h2:QGsp X H0 nT es gs) (hs:(assignEach (e :: es) X.env).map (·.2) = assign e X.env :: (assignEach es X.env).map (·.2):=by rfl):QGsp X H0 nT (e :: es) (Xbu g gs) :=
 ⟨M.gsp_cons h1.run h2.run hs⟩
theorem gp_tup {n k:Nat} (hc:X.calm = true) (h:QGsp X H0 nT es gs) (hn:(assignEach es X.env).length = n:=by rfl) (hst:(assignEach es X.env).findIdx? (·.1) = none:=by rfl):QGp X H0 nT (.Tuple es k pos) (gpTup n gs) :=
 ⟨M.gp_tup hc h.run hn hst⟩
theorem if_nil  : QIf X H0 [] rTrue :=
 ⟨M.if_nil ⟩
theorem if_one {t:RT} (h:QT X H0 e t):QIf X H0 [e] t :=
 ⟨M.if_one h.run⟩
variable {target iter elt:Expr} {ifs:List Expr} {scope:Scope} {N':List Str} {te tel:RE} {tc:RT}
theorem n_comp (ok:CompOk X scope nT N') (hi:QE X H0 iter te) (hg:∀ s3 H3 C cl fp,QGp (compX X scope N' s3 H3 C cl fp) H0 nT target g) (hif:∀ s3 H3 C cl fp,QIf (compX X scope N' s3 H3 C cl fp) H0 ifs tc) (hel:∀ s3 H3 C cl fp,QE (compX X scope N' s3 H3 C cl fp) H0 elt tel) (hs:∀ x,foldedSetIterable iter X.env x = pure x:=by intro _;rfl):QN X H0 (.ListComp elt [⟨target,iter,ifs,0⟩] scope pos) (rComp nT te g tc tel) :=
 ⟨M.n_comp ok hi.run (λa b c d e=>(hg a b c d e).run) (λa b c d e=>(hif a b c d e).run) (λa b c d e=>(hel a b c d e).run) hs⟩
end
section
variable {X:Cx} {H0:Hp} {nT:Nat} {pos:Pos} {g:RGp} {target iter elt:Expr} {ifs:List Expr} {scope:Scope} {N':List Str} {te tel:RE} {tc:RT}
theorem s_setCompF {y:Str} {py spos:Pos} (i:Nat) (hNd:X.N.Nodup) (ok:CompOk X scope nT N') (hi:QE X H0 iter te) (hg:∀ s3 H3 C cl fp,QGp (compX X scope N' s3 H3 C cl fp) H0 nT target g) (hif:∀ s3 H3 C cl fp,QIf (compX X scope N' s3 H3 C cl fp) H0 ifs tc) (hel:∀ s3 H3 C cl fp,QE (compX X scope N' s3 H3 C cl fp) H0 elt tel) (hN:X.N[i]? = some y:=by rfl) (hx:Loc X.env.scope y:=by first | exact Or.inl rfl | exact Or.inr rfl) (hf:X.fn y = true \/ X.env.scope.names.lookup y = some .local:=by first | exact .inl rfl | exact .inr rfl | assumption) (hs:∀ x,foldedSetIterable iter X.env x = pure x:=by intro _;rfl) (hsw:swapsWith (.ListComp elt [⟨target,iter,ifs,0⟩] scope pos) (some (.Name y py)) spos.line X.env = pure true:=by rfl):QS X H0 (.Assign [.Name y py] (.ListComp elt [⟨target,iter,ifs,0⟩] scope pos) spos) (Xhb i nT te g tc tel) :=
 ⟨M.s_setCompF i hNd ok hi.run (λa b c d e=>(hg a b c d e).run) (λa b c d e=>(hif a b c d e).run) (λa b c d e=>(hel a b c d e).run) hN hx hf hs hsw⟩
end
section
variable {X:Cx} {H0:Hp} {nT:Nat} {pos:Pos} {g:RGp} {target iter kx vx:Expr} {ifs:List Expr} {scope:Scope} {N':List Str} {te tk tv:RE} {tc:RT}
theorem n_dcompT (hu:X.A.units < cLine) (ok:CompOk X scope nT N') (hi:QE X H0 iter te) (hg:∀ s3 H3 C cl fp,QGp (compX X scope N' s3 H3 C cl fp) H0 nT target g) (hif:∀ s3 H3 C cl fp,QIf (compX X scope N' s3 H3 C cl fp) H0 ifs tc) (hkx:∀ s3 H3 C cl fp,QE (compX X scope N' s3 H3 C cl fp) H0 kx tk) (hvx:∀ s3 H3 C cl fp,QE (compX X scope N' s3 H3 C cl fp) H0 vx tv) (hs:∀ x,foldedSetIterable iter X.env x = pure x:=by intro _;rfl):QN X H0 (.DictComp kx vx [⟨target,iter,ifs,0⟩] scope pos) (Xqw nT te g tc tk tv) :=
 ⟨M.n_dcompT hu ok hi.run (λa b c d e=>(hg a b c d e).run) (λa b c d e=>(hif a b c d e).run) (λa b c d e=>(hkx a b c d e).run) (λa b c d e=>(hvx a b c d e).run) hs⟩
end
section
variable {X:Cx} {H0:Hp} {o e:Expr} {ta te:RE} {apos cpos:Pos}
theorem e_dget1 (hu:X.A.units + 1 < cLine) (ho:QB X H0 o ta) (he:QE X H0 e te) (m:M1 X o "get" apos e cpos:=by exact ⟨rfl,rfl,rfl,rfl⟩):QE X H0 (.Call (.Attribute o "get" apos) [e] [] cpos) (Xqu ta te) :=
 ⟨M.e_dget1 hu ho.run he.run m⟩
end
section
variable {X:Cx} {scope:Scope} {N':List Str} {target iter kx vx:Expr} {ifs:List Expr} {pos:Pos} {g:TG} {tc:TT} {tk tv:TE} {nT:Nat} {wi:TI}
end
section
variable {X:Cx} {H0:Hp} {nT:Nat} {pos:Pos} {g:RGp} {target iter kx vx:Expr} {ifs:List Expr} {scope:Scope} {N':List Str} {te tk tv:RE} {tc:RT}
end
section
variable {X:Cx} {H0:Hp} {a b:Expr} {p p2 pos pos2:Pos}
end
section
variable {K:PySem.W.Frag} {H0:Hp} {σ:L2.St} {δ:List Sl} {G H G1 H1:Hp} {i:Nat} {d:D} {p:Addr}
end
section
variable {X:Cx} {H0:Hp} {e:Expr} {t:RE} {u:RT}
end
section
variable {X:Cx} {H0:Hp} {x y:Str} {pos p1 p2 p3:Pos} {k:Nat}
variable {f:Str} {sp:Sp2} {e:Expr} {es:List Expr} {tr:RA} {p:Pos}
end
section
variable {X:Cx} {pins:List (Addr × Obj)} {σ:L2.St} {H:Hp} {s:Shared} {a:Addr} {kws:List (Key × V)} {ob:Obj}
end
section
variable {X:Cx} {tg:Expr}
end
section
variable {X:Cx} {H0:Hp} {tg:Expr} {g:RG} {body:List Stmt} {tb:RS} {pos p:Pos} {x:Str}
end
section
variable {prog:Program} {w:World} {A:Around} {E:Value -> Shared -> Prop} {s:Shared}
end
section
variable {X:Cx} {H0:Hp} {e:Expr} {es:List Expr} {tr:RA} {pos p:Pos}
end
section
variable {X:Cx} {H0:Hp} {e value:Expr} {te tv:RE} {pos pos' cpos apos p:Pos} {x:Str}
end
section
variable {X:Cx} {H0:Hp} {ts:List Expr} {k:Nat} {tp p p2 pos pos2:Pos} {a:Expr} {ta:RE} {g:RG} {tb:RS} {body:List Stmt} {x:Str}
end
section
variable {K:PySem.W.Frag} {H0:Hp} {σ:L2.St} {δ:List Sl} {G H:Hp}
end
section
variable {X:Cx} {H0:Hp} {e e1 e2:Expr} {t t1 t2:RE} {pos p1 p3:Pos} {k3:Nat} {x:Str}
end
section
variable {X:Cx} {H0:Hp} {f x:Str} {sp:Sp2} {e:Expr} {es:List Expr} {tr:RA} {k:Nat} {p p1 pos p5:Pos}
end
section
variable {K:PySem.W.Frag} {H0:Hp} {σ:L2.St} {δ:List Sl} {G H:Hp} {i k g:Nat} {q:Addr} {ds:List D} {y:D}
end
section
variable {X:Cx} {H0:Hp} {e:Expr} {t:RE} {u:RT}
end
section
variable {X:Cx} {H0:Hp} {e:Expr} {te:RE} {pos cpos apos p ps pk:Pos} {x:Str} {kc:Nat}
end
section
variable {X:Cx} {H0:Hp} {f x:Str} {sp:Sp2} {e:Expr} {es:List Expr} {tr:RA} {k:Nat} {p p1 pos p5:Pos}
end
section
variable {X:Cx} {H0:Hp} {e a:Expr} {te ta:RE} {pos pos' cpos apos p p2 p3 p4 p5 p6:Pos} {x f:Str} {j:Nat}
end
end Wr
end M
namespace My
open PySem L2 M
def top (i:Nat):Stmt:=PySem.Challenge.pw_feastfall_k23_turns_between_two_layings.main.body.getD i (.Pass ⟨0,0,0,0⟩)
abbrev Z33:Stmt:=top 1
abbrev Z35:List Str:=["rows"]
theorem Z2u:FnScope Z35 ["rows"] (Xab Z33):=⟨rfl,rfl,rfl,by decide +kernel,rfl,by decide +kernel,by decide +kernel⟩
abbrev Zg:Stmt:=top 2
abbrev Z11:List Str:=["names", "befores", "afters", "old", "new", "turns", "number", "year", "before", "after"]
theorem Zj:FnScope Z11 ["names", "befores", "afters"] (Xab Zg):=⟨rfl,rfl,rfl,by decide +kernel,rfl,by decide +kernel,by decide +kernel⟩
abbrev Z25:Stmt:=top 3
abbrev Z2n:List Str:=["rows"]
theorem Z22:FnScope Z2n ["rows"] (Xab Z25):=⟨rfl,rfl,rfl,by decide +kernel,rfl,by decide +kernel,by decide +kernel⟩
abbrev Z34:Stmt:=top 4
abbrev Z37:List Str:=["befores", "afters", "names"]
theorem Z31:FnScope Z37 ["befores", "afters"] (Xab Z34):=⟨rfl,rfl,rfl,by decide +kernel,rfl,by decide +kernel,by decide +kernel⟩
abbrev Z2o:Stmt:=top 6
abbrev Z2v:List Str:=["turn", "number", "year", "before", "after"]
theorem Z2m:FnScope Z2v ["turn"] (Xab Z2o):=⟨rfl,rfl,rfl,by decide +kernel,rfl,by decide +kernel,by decide +kernel⟩
abbrev Z2j:Stmt:=top 7
abbrev Z2w:List Str:=["turns", "days"]
theorem Z2i:FnScope Z2w ["turns"] (Xab Z2j):=⟨rfl,rfl,rfl,by decide +kernel,rfl,by decide +kernel,by decide +kernel⟩
abbrev Z18:Stmt:=top 9
abbrev Z2d:List Str:=["_law_script", "_law_place"]
theorem Z1c:FnScope Z2d ["_law_script", "_law_place"] (Xab Z18):=⟨rfl,rfl,rfl,by decide +kernel,rfl,by decide +kernel,by decide +kernel⟩
abbrev Z17:Stmt:=top 10
abbrev Z2a:List Str:=["_law_cell_here", "_law_one", "_law_two"]
theorem Z1d:FnScope Z2a ["_law_cell_here"] (Xab Z17):=⟨rfl,rfl,rfl,by decide +kernel,rfl,by decide +kernel,by decide +kernel⟩
abbrev Zq:Stmt:=top 11
abbrev Zv:List Str:=["_law_cell_here", "_law_sizes", "_law_rest", "_law_found", "_law_k", "_law_size"]
theorem Zl:FnScope Zv ["_law_cell_here", "_law_sizes"] (Xab Zq):=⟨rfl,rfl,rfl,by decide +kernel,rfl,by decide +kernel,by decide +kernel⟩
abbrev Z10:Stmt:=top 12
abbrev Z1t:List Str:=["_law_thing"]
theorem Zt:FnScope Z1t ["_law_thing"] (Xab Z10):=⟨rfl,rfl,rfl,by decide +kernel,rfl,by decide +kernel,by decide +kernel⟩
abbrev Z7:Stmt:=top 13
abbrev Ze:List Str:=["_law_place"]
theorem Za:FnScope Ze ["_law_place"] (Xab Z7):=⟨rfl,rfl,rfl,by decide +kernel,rfl,by decide +kernel,by decide +kernel⟩
abbrev Z2:Stmt:=top 14
abbrev Z8:List Str:=["_law_found", "_law_turn", "_law_place"]
theorem Z3:FnScope Z8 ["_law_found"] (Xab Z2):=⟨rfl,rfl,rfl,by decide +kernel,rfl,by decide +kernel,by decide +kernel⟩
abbrev Z2e:Stmt:=top 15
abbrev Z2q:List Str:=["_law_entries_here", "_law_shut_here", "_law_days", "_law_rows", "_law_rank", "_law_number", "_law_year", "_law_way", "_law_own", "_law_day", "_law_how"]
theorem Z2c:FnScope Z2q ["_law_entries_here", "_law_shut_here"] (Xab Z2e):=⟨rfl,rfl,rfl,by decide +kernel,rfl,by decide +kernel,by decide +kernel⟩
abbrev Z1p:Stmt:=top 16
abbrev Z1v:List Str:=["_law_script", "_law_a", "_law_b", "_law_c", "_law_d", "_law_far", "_law_span", "_law_few", "_law_base"]
theorem Z1h:FnScope Z1v ["_law_script"] (Xab Z1p):=⟨rfl,rfl,rfl,by decide +kernel,rfl,by decide +kernel,by decide +kernel⟩
abbrev Zc:Stmt:=top 17
abbrev Zr:List Str:=["_law_cells", "_law_span", "_law_few", "_law_base", "_law_crowd", "_law_found", "_law_names", "_law_cell_here", "_law_rank", "_law_number", "_law_big", "_law_year", "_law_way", "_law_own", "_law_sort", "_law_k"]
theorem Zf:FnScope Zr ["_law_cells", "_law_span", "_law_few", "_law_base", "_law_crowd"] (Xab Zc):=⟨rfl,rfl,rfl,by decide +kernel,rfl,by decide +kernel,by decide +kernel⟩
abbrev Z19:Stmt:=top 18
abbrev Z1y:List Str:=["_law_cell_here", "_law_span", "_law_base", "_law_sizes", "_law_k", "_law_drawn", "_law_shut_here"]
theorem Z1g:FnScope Z1y ["_law_cell_here", "_law_span", "_law_base"] (Xab Z19):=⟨rfl,rfl,rfl,by decide +kernel,rfl,by decide +kernel,by decide +kernel⟩
abbrev Z14:Stmt:=top 19
abbrev Z23:List Str:=["_law_script", "_law_most", "_law_span", "_law_few", "_law_base", "_law_crowd", "_law_entries_here", "_law_shut_here"]
theorem Z1a:FnScope Z23 ["_law_script", "_law_most"] (Xab Z14):=⟨rfl,rfl,rfl,by decide +kernel,rfl,by decide +kernel,by decide +kernel⟩
abbrev Zn:Stmt:=top 20
abbrev Zy:List Str:=["_law_rows", "_law_places_here", "_law_row"]
theorem Zm:FnScope Zy ["_law_rows"] (Xab Zn):=⟨rfl,rfl,rfl,by decide +kernel,rfl,by decide +kernel,by decide +kernel⟩
abbrev Z1f:Stmt:=top 21
abbrev Z27:List Str:=["_law_turns", "_law_days", "_law_turn", "_law_place"]
theorem Z1j:FnScope Z27 ["_law_turns"] (Xab Z1f):=⟨rfl,rfl,rfl,by decide +kernel,rfl,by decide +kernel,by decide +kernel⟩
abbrev Z21:Stmt:=top 22
abbrev Z2p:List Str:=["_law_befores", "_law_afters", "_law_elder", "_law_newer", "_law_due_here", "_law_name", "_law_before", "_law_after"]
theorem Z1x:FnScope Z2p ["_law_befores", "_law_afters"] (Xab Z21):=⟨rfl,rfl,rfl,by decide +kernel,rfl,by decide +kernel,by decide +kernel⟩
abbrev Z3c:Stmt:=top 23
abbrev Z3d:List Str:=["_law_script", "_law_entries_here", "_law_shut_here", "_law_first", "_law_last", "_law_step", "_law_same", "_law_others", "_law_k", "_law_one", "_law_befores", "_law_afters", "_law_ones", "_law_twos", "_law_found", "_law_about"]
theorem Z38:FnScope Z3d ["_law_script"] (Xab Z3c):=⟨rfl,rfl,rfl,by decide +kernel,rfl,by decide +kernel,by decide +kernel⟩
theorem Z1o:(["turn", "day", "0acc", "0turns", "0days"]:List Str).Nodup:=by decide +kernel
theorem Z36:(["_law_turn", "0acc", "0_law_script", "0_law_entries_here", "0_law_shut_here", "0_law_first", "0_law_last", "0_law_step", "0_law_same", "0_law_others", "0_law_k", "0_law_one", "0_law_befores", "0_law_afters", "0_law_ones", "0_law_twos", "0_law_found", "0_law_about"]:List Str).Nodup:=by decide +kernel
theorem Z26:(["number", "year", "how", "day", "0acc", "0rows"]:List Str).Nodup:=by decide +kernel
theorem Z12:(["number", "year", "how", "day", "0acc", "0rows"]:List Str).Nodup:=by decide +kernel
theorem Z15:(["place", "0acc", "0turn", "0number", "0year", "0before", "0after"]:List Str).Nodup:=by decide +kernel
def Z1i:Sp2:=λds Q=>∃ c:Int,ds = [.int c] /\ ∀ v:Int,Q (.val (.int v))
def Z1u:Sp2:=λds Q=>∃ (ns:List Int) (i:Int),ds = [.lst (ns.map D.int),.int i] /\ 0 <= i /\ ∀ v:Int,Q (.val (.int v))
def Zi:Sp2:=λds Q=>∃ (c:Int) (sizes:List Int),ds = [.int c,.lst (sizes.map D.int)] /\ (∀ s ∈ sizes,0 < s /\ s < 2 ^ 200) /\ sizes.length <= 100 /\ ∀ out,Drawn out sizes -> Q (.new (.lst (out.map D.int)))
section
variable {P:Program} {w:World} {K:PySem.W.Frag} {mg:Str -> Option Value} {base:Heap}
theorem Z1e {f:Addr} {fd:FuncData} (F:Fun K "_law_cell" "_law_cell" Z18 f fd)  (z_len:mg "len" = none)  : FnOk P w K mg base CX0 (0 + 1) f fd ["_law_script", "_law_place"] (Xag K Z1u):=by
 refine Wr.fun_ok F Z1c (by rintro ds Qd ⟨ns,i,rfl,_⟩;rfl) (λcdv A outer s H E hr ds Qd h=>?_);obtain ⟨ns,i,rfl,hi,q⟩:=h;obtain ⟨n,rfl⟩:=Int.eq_ofNat_of_zero_le hi
 refine ⟨_,(Wr.s_cons (Wr.s_if (Wr.t_cmp op_lt lf_lt (Wr.b_var 1) (Wr.PE2_bo (Wr.e_len z_len (Wr.ab_cons (Wr.b_var 0) Wr.ab_nil))) (Xam _)) (Wr.s_one (Wr.s_ret (Wr.e_ix (Wr.b_var 0) (Wr.b_var 1))))
   Wr.s_nil) (Wr.s_one (Wr.s_ret (Wr.e_int)))),?_⟩
 exact if_p (p:=(n:Int) < ((ns.map D.int).length:Int)) (λQ q=>q) (λhlt=>⟨_,Xub (by rw [List.length_map] at hlt;omega),q _⟩) (λ_=>q _)
theorem Z13 {f:Addr} {fd:FuncData} (F:Fun K "_law_seed" "_law_seed" Z17 f fd)   : FnOk P w K mg base CX0 (0 + 1) f fd ["_law_cell_here"] (Xag K Z1i):=by
 refine Wr.fun_ok F Z1d (by rintro ds Qd ⟨c,rfl,_⟩;rfl) (λcdv A outer s H E hr ds Qd h=>?_);obtain ⟨c,rfl,q⟩:=h
 refine ⟨_,(Wr.s_cons (Wr.s_if (Wr.t_cmp op_ge lf_ge (Wr.b_var 0) (Wr.PE2_bo (Wr.e_pow (Wr.PE2_bo (Wr.e_int)) (Wr.PE2_bo (Wr.e_int)))) (Xam _)) (Wr.s_one (Wr.s_ret (Wr.e_var 0)))
   Wr.s_nil) (Wr.s_cons (Wr.s_set 1 Z1d.nd (Wr.e_mod (Wr.PE2_bo (Wr.e_mul (Wr.PE2_bo (Wr.e_mod (Wr.PE2_bo (Wr.e_add (Wr.PE2_bo (Wr.e_mul (Wr.b_var 0) (Wr.PE2_bo (Wr.e_int)))) (Wr.PE2_bo (Wr.e_int)))) (Wr.PE2_bo (Wr.e_int)))) (Wr.PE2_bo (Wr.e_int)))) (Wr.PE2_bo (Wr.e_int)))) (Wr.s_cons (Wr.s_set 2 Z1d.nd (Wr.e_mod (Wr.PE2_bo (Wr.e_mul (Wr.PE2_bo (Wr.e_mod (Wr.PE2_bo (Wr.e_add (Wr.PE2_bo (Wr.e_mul (Wr.b_var 0) (Wr.PE2_bo (Wr.e_int)))) (Wr.PE2_bo (Wr.e_int)))) (Wr.PE2_bo (Wr.e_int)))) (Wr.PE2_bo (Wr.e_int)))) (Wr.PE2_bo (Wr.e_int)))) (Wr.s_one (Wr.s_ret (Wr.e_add (Wr.PE2_bo (Wr.e_mul (Wr.b_var 1) (Wr.PE2_bo (Wr.e_int)))) (Wr.b_var 2))))))),?_⟩
 exact if_by (λQ q=>⟨cpow,q⟩) (λ_=>q _) (λ_=>⟨cmulR,cpos,cmulR,cpos,cmulR,cpos,cmulR,cpos,cmulR,q _⟩)
theorem Zh {f:Addr} {fd:FuncData} (F:Fun K "_law_digits" "_law_digits" Zq f fd) (Ya:Fn2 P w K mg base 1 "_law_seed" Z1i) (z_enumerate:mg "enumerate" = none)  : FnOk P w K mg base CX0 (1 + 1) f fd ["_law_cell_here", "_law_sizes"] (Xag K Zi):=by
 refine Wr.fun_ok F Zl (by rintro ds Qd ⟨c,ss,rfl,_⟩;rfl) (λcdv A outer s H E hr ds Qd h=>?_);obtain ⟨c,sizes,rfl,hpos,hlen,q⟩:=h
 refine ⟨_,(Wr.s_cons (Wr.s_set 2 Zl.nd (Wr.e_call Ya hr (Wr.a_cons (Wr.e_var 0) Wr.a_nil))) (Wr.s_cons (Wr.s_setN 3 Zl.nd (Wr.n_lst Wr.a_nil)) (Wr.s_cons (Wr.s_forE PassesOwn.never rfl rfl z_enumerate (Wr.a_cons (Wr.e_var 1) Wr.a_nil) (Wr.g_tup (n:=2) rfl (Wr.gs_cons (Wr.g_name 4 Zl.nd) (Wr.gs_cons (Wr.g_name 5 Zl.nd) Wr.gs_nil))) (Wr.s_cons (Wr.s_if (Wr.t_cmp op_lt lf_lt (Wr.b_var 2) (Wr.b_var 5) (Xam _)) (Wr.s_one (Wr.s_set 2 Zl.nd (Wr.e_call Ya hr (Wr.a_cons (Wr.e_add (Wr.PE2_bo (Wr.e_add (Wr.b_var 2) (Wr.PE2_bo (Wr.e_mul (Wr.PE2_bo (Wr.e_int)) (Wr.b_var 4))))) (Wr.PE2_bo (Wr.e_mod (Wr.b_var 0) (Wr.PE2_bo (Wr.e_int))))) Wr.a_nil))))
   Wr.s_nil) (Wr.s_cons (Wr.s_app 3 (Wr.e_mod (Wr.b_var 2) (Wr.b_var 5))) (Wr.s_one (Wr.s_set 2 Zl.nd (Wr.e_fdiv (Wr.b_var 2) (Wr.b_var 5))))))) (Wr.s_one (Wr.s_retO 3))))),?_⟩
 refine ⟨_,rfl,λr0=>⟨Nat.zero_le _,?_⟩⟩
 refine Xan (λds δ=>∃ (k:Nat) (rest:Int) (acc done ss:List Int),ds = enumD k (ss.map D.int) /\ δ = [.fr (.int c),.fr (.lst (sizes.map D.int)),.fr (.int rest),.ow (.lst (acc.map D.int)),.un,.un] /\
  Drawn acc done /\ sizes = done ++ ss /\ acc.length + ss.length <= 100) ?_ ?_ _ _ ⟨0,r0,[],[],sizes,rfl,rfl,.nil,rfl,by simpa using hlen⟩
 ·rintro δ ⟨k,rest,acc,done,ss,e,rfl,hd,hs,_⟩
  cases ss with
  | cons s ss=>cases e
  | nil=>exact q acc (by rw [hs,List.append_nil];exact hd)
 ·rintro d r δ L hL ⟨k,rest,acc,done,ss,e,rfl,hd,hs,hl⟩
  cases ss with
  | nil=>cases e
  | cons s ss =>
   have e1:d = .tup [.int k,.int s]:=by cases e;rfl
   have e2:r = enumD (k + 1) (ss.map D.int):=by cases e;rfl
   subst e1 e2;have hs':=hpos s (by rw [hs];simp);have hlen2:(acc.map D.int).length < sizeLine:=by rw [List.length_map];simp at hl;exact Xai (by omega)
   have fin:∀ r':Int,L [.fr (.int c),.fr (.lst (sizes.map D.int)),.fr (.int (r' / s)),.ow (.lst (acc.map D.int ++ [.int (r' % s)])),.fr (.int k),.fr (.int s)]:=λr' =>
    hL _ _ ⟨k + 1,r' / s,acc ++ [r' % s],done ++ [s],ss,rfl,rfl,hd.snoc (Int.emod_nonneg _ (by omega)) (Int.emod_lt_of_pos _ hs'.1),by simp [hs],by simp at hl ⊢;omega⟩ (by rw [List.map_append];repeat constructor)
   refine ⟨rfl,if_by (λQ q=>q) (λ_=>⟨cmulL,cpos,_,rfl,λv=>⟨hs'.1,hlen2,hs',fin v⟩⟩) (λ_=>⟨hs'.1,hlen2,hs',fin rest⟩)⟩
def openM (kvs:List (Key × D)) (rank day:Int):Bool:=match valD kvs (.inl day) with
 | some (.int b)=>decide (rank <= b)
 | _=>true
def Bounds (kvs:List (Key × D)):Prop:=∀ p ∈ kvs,∃ b:Int,p.2 = .int b
theorem Xov {κ:Type} [DecidableEq κ] {kvs:List (κ × D)} {k:κ} {d:D} (h:valD kvs k = some d):∃ p ∈ kvs,p.2 = d:=by
 unfold valD at h;obtain ⟨p,hp,rfl⟩:=Option.map_eq_some_iff.mp h;exact ⟨p,List.mem_of_find?_eq_some hp,rfl⟩
theorem Bounds.at {kvs:List (Key × D)} (h:Bounds kvs) {k:Key} {d:D} (e:valD kvs k = some d):∃ b:Int,d = .int b:=by
 obtain ⟨p,hp,rfl⟩:=Xov e;exact h p hp
def Z2s:Sp2:=λds Q=>∃ (rank day:Int) (kvs:List (Key × D)),ds = [.int rank,.int day,.dK kvs] /\ Bounds kvs /\ Q (.val (.bl (openM kvs rank day)))
def Z2x:Sp2:=λds Q=>∃ a b c x y:D,ds = [.tup [a,b,c,x,y]] /\ Q (.val (.tup [a,b,c]))
structure Ent where
 rank:Int
 number:Int
 year:Int
 way:Str
 own:Int
def Ent.d (e:Ent):D:=.tup [.int e.rank,.int e.number,.int e.year,.str e.way,.int e.own]
structure Row where
 number:Int
 year:Int
 how:Str
 day:Int
def Row.d (r:Row):D:=.tup [.int r.number,.int r.year,.str r.how,.int r.day]
def Ent.key (e:Ent):List Int:=[e.rank,e.number,e.year]
def Ent.name (e:Ent):Int × Int:=(e.number,e.year)
def keyI:D -> List Int
 | .tup (.int a :: .int b :: .int c :: _)=>[a,b,c]
 | _=>[0]
structure Ordd (es os:List Ent):Prop where
 perm:os.Perm es
 rise:os.Pairwise λa b=>HT.lexLt a.key b.key = true
abbrev Names (es:List Ent):Prop:=(es.map Ent.name).Nodup
theorem Names.keys {es:List Ent} (h:Names es):(es.map Ent.key).Nodup:=by
 unfold Names List.Nodup at h;unfold List.Nodup;rw [List.pairwise_map] at h ⊢;refine h.imp λ{a b} n e=>n ?_
 unfold Ent.key at e;unfold Ent.name
 injection e with _ e
 injection e with e1 e
 injection e with e2 _
 rw [e1,e2]
theorem Xpw (es:List Ent):(es.map Ent.d).map keyI = es.map Ent.key:=by rw [List.map_map];rfl
def keyD:D -> D
 | .tup [a,b,c,_,_]=>.tup [a,b,c]
 | d=>d
theorem Xss {es:List Ent} {ods:List D} (hp:ods.Perm (es.map Ent.d)) (hR:ods.Pairwise λa b=>HT.lexLt (keyI a) (keyI b) = true):∃ os,ods = os.map Ent.d /\ Ordd es os:=by
 obtain ⟨os,p,rfl⟩:=Xaq Ent.d hp es rfl;rw [List.pairwise_map] at hR;exact ⟨os,rfl,p,hR⟩
def Z2r:Sp2:=λds Q=>∃ es:List Ent,ds = [.lst (es.map Ent.d)] /\ Names es /\ ∀ os,Ordd es os -> Q (.new (.lst (os.map Ent.d)))
theorem Xmf {es:List Ent} (hn:Names es):SMix keyI 3 (es.map Ent.d):=by
 refine ⟨by decide,λd hd=>?_,by rw [Xpw];exact hn.keys⟩;obtain ⟨e,_,rfl⟩:=List.mem_map.mp hd;exact ⟨rfl,[.inr e.way,.inl e.own],rfl⟩
def Xfy (kvs:List (Key × D)):List Int:=kvs.filterMap λp=>match p.1 with
 | .inl i=>some i
 | .inr _=>none
theorem Xrw {kvs:List (Key × D)} {rank x:Int} (h:openM kvs rank x = false):x ∈ Xfy kvs:=by
 unfold openM at h
 cases e:valD kvs (.inl x) with
 | none=>rw [e] at h;cases h
 | some d =>
  unfold valD at e;obtain ⟨p,hp,_⟩:=Option.map_eq_some_iff.mp e;have h1:=List.mem_of_find?_eq_some hp;have h2:=List.find?_some hp;have h3:p.1 = .inl x:=by simpa using h2
  exact List.mem_filterMap.mpr ⟨p,h1,by rw [h3]⟩
theorem Xpd {κ:Type} [DecidableEq κ] {kvs:List (κ × D)} {k:κ} {d:D} {p:κ × D} (h:p ∈ putD kvs k d):p = (k,d) \/ p ∈ kvs:=by
 unfold putD at h
 split at h
 ·obtain ⟨q,hq,rfl⟩:=List.mem_map.mp h
  split
  ·rename_i e;exact .inl (by rw [e])
  ·exact .inr hq
 ·rcases List.mem_append.mp h with h | h
  ·exact .inr h
  ·exact .inl (by simpa using h)
def Blocked (kvs:List (Key × D)) (rank:Int) (held:List Int) (x:Int):Prop:=x ∈ held \/ openM kvs rank x = false
structure Onw (kvs:List (Key × D)) (rank:Int) (held:List Int) (ow:List (Key × D)):Prop where
 nums:∀ p ∈ ow,∃ i e:Int,p = (.inl i,.int e)
 nd:(ow.map (·.1)).Nodup
 go:∀ d e:Int,valD ow (.inl d) = some (.int e) -> d < e /\ ∀ x,d <= x -> x < e -> Blocked kvs rank held x
 has:∀ x ∈ held,∃ e:Int,valD ow (.inl x) = some (.int e)
structure IsFF (kvs:List (Key × D)) (rank:Int) (held:List Int) (d f:Int):Prop where
 le:d <= f
 nh:f ∉ held
 op:openM kvs rank f = true
 all:∀ x,d <= x -> x < f -> Blocked kvs rank held x
def ub:List Int -> Int
 | []=>0
 | x :: xs=>max (x + 1) (ub xs)
theorem ub_lt:∀ {l:List Int} {x:Int},x ∈ l -> x < ub l
 | y :: ys,x,h=>by
  rcases List.mem_cons.mp h with rfl | h
  ·simp only [ub];omega
  ·have:=ub_lt h
   simp only [ub];omega
theorem Blocked.lt {kvs:List (Key × D)} {rank:Int} {held:List Int} {x:Int} (h:Blocked kvs rank held x):x < ub (held ++ Xfy kvs):=by
 rcases h with z | z
 ·exact ub_lt (List.mem_append_left _ z)
 ·exact ub_lt (List.mem_append_right _ (Xrw z))
def Zw:Sp3:=λds d Q=>∃ (rank day:Int) (kvs:List (Key × D)) (held:List Int) (ow:List (Key × D)),ds = [.int rank,.int day,.dK kvs] /\ d = .dK ow /\ Bounds kvs /\ Onw kvs rank held ow /\ held.length + kvs.length <= 10000000 /\
 ∀ f ow',IsFF kvs rank held day f -> Onw kvs rank held ow' -> Q (.int f) (.dK ow')
inductive Placed (kvs:List (Key × D)) (held:List Int) (e:Ent):Str -> Int -> List Int -> Prop where
 | stands {f:Int} (ff:IsFF kvs e.rank held e.own f) (h:e.way = "moves" \/ f = e.own):Placed kvs held e "stands" f (f :: held)
 | noted {f:Int} (ff:IsFF kvs e.rank held e.own f) (h1:¬ e.way = "moves") (h2:¬ f = e.own) (h3:e.way = "stays"):Placed kvs held e "noted" e.own held
 | gone {f:Int} (ff:IsFF kvs e.rank held e.own f) (h1:¬ e.way = "moves") (h2:¬ f = e.own) (h3:¬ e.way = "stays"):Placed kvs held e "out" e.own held
inductive Laid (kvs:List (Key × D)):List Int -> List Ent -> List Row -> List Int -> Prop where
 | nil {held:List Int}:Laid kvs held [] [] held
 | cons {held held' held2:List Int} {e:Ent} {es:List Ent} {how:Str} {day:Int} {rows:List Row} (p:Placed kvs held e how day held') (l:Laid kvs held' es rows held2):Laid kvs held (e :: es) (⟨e.number,e.year,how,day⟩ :: rows) held2
theorem Placed.len {kvs:List (Key × D)} {held held':List Int} {e:Ent} {how:Str} {day:Int} (h:Placed kvs held e how day held'):held'.length <= held.length + 1:=by
 cases h <;> simp
def Z20:Sp3:=λds d Q=>∃ (e:Ent) (kvs:List (Key × D)) (held:List Int) (ow:List (Key × D)),ds = [e.d,.dK kvs] /\ d = .dK ow /\ Bounds kvs /\ Onw kvs e.rank held ow /\ held.length + kvs.length <= 9000000 /\
 ∀ how day held' ow',Placed kvs held e how day held' -> Onw kvs e.rank held' ow' -> Q (.tup [.str how,.int day]) (.dK ow')
def Z39:Sp2:=λds Q=>∃ (es:List Ent) (kvs:List (Key × D)),ds = [.lst (es.map Ent.d),.dK kvs] /\ Names es /\ es.length <= 400 /\ Bounds kvs /\ kvs.length <= 5000000 /\ ∀ os rows held,Ordd es os -> Laid kvs [] os rows held -> Q (.new (.lst (rows.map Row.d)))
def Zx:Sp2:=λds Q=>∃ i:Int,ds = [.int i] /\ Q (.val (.bl true))
theorem Zz {f:Addr} {fd:FuncData} (F:Fun K "_law_whole" "_law_whole" Z10 f fd)  (z_isinstance:mg "isinstance" = none) (z_bool:mg "bool" = none) (z_int:mg "int" = none)  : FnOk P w K mg base CX0 (0 + 1) f fd ["_law_thing"] (Xag K Zx):=by
 refine Wr.fun_ok F Zt (by rintro ds Qd ⟨i,rfl,_⟩;rfl) (λcdv A outer s H E hr ds Qd h=>?_);obtain ⟨i,rfl,q⟩:=h;refine ⟨_,(Wr.s_one (Wr.s_ret (Wr.e_and (Wr.e_isi (Xpv _) z_isinstance z_int (Wr.b_var 0)) (Wr.e_one (Wr.e_not (Wr.e_isi (Xns _) z_isinstance z_bool (Wr.b_var 0))))))),?_⟩;exact Xuo (Xjf (λQ q=>q) (λQ q=>q)) q
def Z6:Sp2:=λds Q=>∃ rows:List Row,ds = [.lst (rows.map Row.d)] /\ Q (.val (.bl true))
theorem Xft {xs:List D} {i:Int} (h0:0 <= i) (h1:i < xs.length):∃ d,atI xs i = some d /\ d ∈ xs:=by
 obtain ⟨n,rfl⟩:=Int.eq_ofNat_of_zero_le h0;have hn:n < xs.length:=by omega
 exact ⟨xs[n],Xjd (List.getElem?_eq_getElem hn),List.getElem_mem hn⟩
theorem Xfw {i:Int} (h:i <= 100000):i < 2 ^ 200:=Int.lt_of_le_of_lt h (by decide)
def Z1b:Sp2:=λds Q=>∃ ns:List Int,ds = [.lst (ns.map D.int)] /\ ∀ span few base crowd:Int,0 < span -> span <= 40 -> 0 < few -> few <= 9 -> 0 <= base -> base <= 10 ^ 11 -> 0 <= crowd -> crowd < 3 -> Q (.val (.tup [.int span,.int few,.int base,.int crowd]))
theorem Z1s {f:Addr} {fd:FuncData} (F:Fun K "_law_head" "_law_head" Z1p f fd) (Y3:Fn2 P w K mg base 2 "_law_digits" Zi) (Yc:Fn2 P w K mg base 2 "_law_cell" Z1u)  : FnOk P w K mg base CX0 (2 + 1) f fd ["_law_script"] (Xag K Z1b):=by
 refine Wr.fun_ok F Z1h (by rintro ds Qd ⟨ns,rfl,_⟩;rfl) (λcdv A outer s H E hr ds Qd h=>?_);obtain ⟨ns,rfl,q⟩:=h
 refine ⟨_,(Wr.s_cons (Wr.s_asg (Wr.e_call Y3 hr (Wr.a_cons (Wr.e_call Yc hr (Wr.a_cons (Wr.e_var 0) (Wr.a_cons (Wr.e_int) Wr.a_nil))) (Wr.a_cons (Wr.PN2_fx (Wr.n_lst (Wr.a_cons (Wr.e_int) (Wr.a_cons (Wr.e_int) (Wr.a_cons (Wr.e_int) (Wr.a_cons (Wr.e_int) (Wr.a_cons (Wr.e_pow (Wr.PE2_bo (Wr.e_int)) (Wr.PE2_bo (Wr.e_int))) Wr.a_nil))))))) Wr.a_nil))) (Wr.g_lst (n:=5) rfl (Wr.gs_cons (Wr.g_name 1 Z1h.nd) (Wr.gs_cons (Wr.g_name 2 Z1h.nd) (Wr.gs_cons (Wr.g_name 3 Z1h.nd) (Wr.gs_cons (Wr.g_name 4 Z1h.nd) (Wr.gs_cons (Wr.g_name 5 Z1h.nd) Wr.gs_nil))))))) (Wr.s_cons (Wr.s_set 6 Z1h.nd (Wr.e_ix (Wr.PN2_bo (Wr.n_lst (Wr.a_cons (Wr.e_int) (Wr.a_cons (Wr.e_int) (Wr.a_cons (Wr.e_int) (Wr.a_cons (Wr.e_int) Wr.a_nil)))))) (Wr.b_var 1))) (Wr.s_cons (Wr.s_set 7 Z1h.nd (Wr.e_ix (Wr.PN2_bo (Wr.n_lst (Wr.a_cons (Wr.e_int) (Wr.a_cons (Wr.e_int) (Wr.a_cons (Wr.e_int) Wr.a_nil))))) (Wr.b_var 2))) (Wr.s_cons (Wr.s_set 8 Z1h.nd (Wr.e_ix (Wr.PN2_bo (Wr.n_lst (Wr.a_cons (Wr.e_int) (Wr.a_cons (Wr.e_int) (Wr.a_cons (Wr.e_int) (Wr.a_cons (Wr.e_var 5) Wr.a_nil)))))) (Wr.b_var 3))) (Wr.s_one (Wr.s_ret (Wr.e_tup (Wr.a_cons (Wr.e_var 6) (Wr.a_cons (Wr.e_var 7) (Wr.a_cons (Wr.e_var 8) (Wr.a_cons (Wr.e_var 4) Wr.a_nil))))))))))),?_⟩
 refine ⟨_,_,rfl,by decide,λv=>⟨cpow,sz5,_,[_,_,_,_,_],rfl,by decide,by decide,Drawn.five λa b c d far a0 a1 b0 b1 c0 c1 d0 d1 g0 g1=>⟨rfl,?_⟩⟩⟩;obtain ⟨ds,e1,m1⟩:=Xft (xs:=[D.int 1,.int 4,.int 12,.int 40]) a0 a1;obtain ⟨df,e2,m2⟩:=Xft (xs:=[D.int 1,.int 3,.int 9]) b0 b1;obtain ⟨db,e3,m3⟩:=Xft (xs:=[D.int 0,.int 0,.int 3,.int far]) c0 c1;refine ⟨sz4,ds,e1,sz3,df,e2,sz4,db,e3,sz4,?_⟩;obtain ⟨span,rfl,s0,s1⟩:∃ i:Int,ds = .int i /\ 0 < i /\ i <= 40:=by
  simp only [List.mem_cons,List.not_mem_nil,or_false] at m1
  rcases m1 with rfl | rfl | rfl | rfl <;> exact ⟨_,rfl,by decide,by decide⟩
 obtain ⟨few,rfl,f0,f1⟩:∃ i:Int,df = .int i /\ 0 < i /\ i <= 9:=by
  simp only [List.mem_cons,List.not_mem_nil,or_false] at m2
  rcases m2 with rfl | rfl | rfl <;> exact ⟨_,rfl,by decide,by decide⟩
 obtain ⟨base,rfl,v0,v1⟩:∃ i:Int,db = .int i /\ 0 <= i /\ i <= 10 ^ 11:=by
  simp only [List.mem_cons,List.not_mem_nil,or_false] at m3
  rcases m3 with rfl | rfl | rfl | rfl <;> first | exact ⟨_,rfl,by decide,by decide⟩ | exact ⟨_,rfl,g0,Int.le_of_lt (Int.lt_of_lt_of_le g1 (by decide))⟩
 exact q _ _ _ _ s0 s1 f0 f1 v0 v1 d0 d1
theorem big10 {n:Int} (h:0 <= n):n * 10 ^ 10 < 100 \/ 10 ^ 10 <= n * 10 ^ 10:=by omega
def Way3 (x:Str):Prop:=x = "moves" \/ x = "stays" \/ x = "lapses"
structure EntOk (e:Ent):Prop where
 rank:1 <= e.rank
 way:Way3 e.way
 num:e.number < 1000 \/ 10 ^ 10 <= e.number
 own0:0 <= e.own
 own1:e.own <= 10 ^ 11 + 100
structure Ents (es:List Ent) (n:Nat):Prop where
 names:Names es
 all:∀ e ∈ es,EntOk e
 len:es.length <= n
theorem Xqj {d:D} (h:d ∈ [D.str "moves", .str "moves", .str "stays", .str "lapses"]):∃ x,d = .str x /\ Way3 x:=by
 simp only [List.mem_cons,List.not_mem_nil,or_false] at h
 rcases h with rfl | rfl | rfl | rfl
 ·exact ⟨_,rfl,.inl rfl⟩
 ·exact ⟨_,rfl,.inl rfl⟩
 ·exact ⟨_,rfl,.inr (.inl rfl)⟩
 ·exact ⟨_,rfl,.inr (.inr rfl)⟩
def Zb:Sp2:=λds Q=>∃ (cells:List Int) (span few base crowd:Int),ds = [.lst (cells.map D.int),.int span,.int few,.int base,.int crowd] /\ 0 < span /\ span <= 40 /\ 0 < few /\ few <= 9 /\ 0 <= base /\ base <= 10 ^ 11 /\ 0 <= crowd /\ crowd <= 100 /\ cells.length <= 100 /\
 ∀ es,Ents es (cells.length + crowd.toNat) -> Q (.new (.lst (es.map Ent.d)))
theorem Ents.snoc {es:List Ent} {n:Nat} {e:Ent} (h:Ents es n) (he:EntOk e) (hn:e.name ∉ es.map Ent.name):Ents (es ++ [e]) (n + 1):=by
 refine ⟨?_,λx hx=>?_,by rw [List.length_append];have:=h.len;simp;omega⟩
 ·unfold Names
  rw [List.map_append,List.nodup_append];refine ⟨h.names,by simp,λa ha b hb e'=>hn ?_⟩;have : b = e.name:=by simpa using hb
  rw [<- this,<- e'];exact ha
 ·rcases List.mem_append.mp hx with hx | hx
  ·exact h.all x hx
  ·have : x = e:=by simpa using hx
   rw [this];exact he
theorem Ents.more {es:List Ent} {n m:Nat} (h:Ents es n) (hm:n <= m):Ents es m:=⟨h.names,h.all,Nat.le_trans h.len hm⟩
theorem Zd {f:Addr} {fd:FuncData} (F:Fun K "_law_entries" "_law_entries" Zc f fd) (Y3:Fn2 P w K mg base 2 "_law_digits" Zi) (z_range:mg "range" = none) (z_sum:mg "sum" = none)  : FnOk P w K mg base CX0 (2 + 1) f fd ["_law_cells", "_law_span", "_law_few", "_law_base", "_law_crowd"] (Xag K Zb):=by
 refine Wr.fun_ok F Zf (by rintro ds Qd ⟨c,a,b,d,e,rfl,_⟩;rfl) (λcdv A outer s H E hr ds Qd h=>?_);obtain ⟨cells,span,few,base,crowd,rfl,s0,s1,f0,f1,v0,v1,c0,c1,hcl,q⟩:=h
 refine ⟨_,(Wr.s_cons (Wr.s_setN 5 Zf.nd (Wr.n_lst Wr.a_nil)) (Wr.s_cons (Wr.s_setN 6 Zf.nd (Wr.n_dT)) (Wr.s_cons (Wr.s_forL PassesOwn.never rfl (Wr.e_var 0) (Wr.g_name 7 Zf.nd) (Wr.s_cons (Wr.s_asg (Wr.e_call Y3 hr (Wr.a_cons (Wr.e_var 7) (Wr.a_cons (Wr.PN2_fx (Wr.n_lst (Wr.a_cons (Wr.e_int) (Wr.a_cons (Wr.e_int) (Wr.a_cons (Wr.e_int) (Wr.a_cons (Wr.e_int) (Wr.a_cons (Wr.e_int) (Wr.a_cons (Wr.e_var 1) Wr.a_nil)))))))) Wr.a_nil))) (Wr.g_lst (n:=6) rfl (Wr.gs_cons (Wr.g_name 8 Zf.nd) (Wr.gs_cons (Wr.g_name 9 Zf.nd) (Wr.gs_cons (Wr.g_name 10 Zf.nd) (Wr.gs_cons (Wr.g_name 11 Zf.nd) (Wr.gs_cons (Wr.g_name 12 Zf.nd) (Wr.gs_cons (Wr.g_name 13 Zf.nd) Wr.gs_nil)))))))) (Wr.s_cons (Wr.s_if (Wr.t_cmp op_eq Xdj (Wr.b_var 10) (Wr.PE2_bo (Wr.e_int)) (Xam _)) (Wr.s_one (Wr.s_set 9 Zf.nd (Wr.e_mul (Wr.b_var 9) (Wr.PE2_bo (Wr.e_pow (Wr.PE2_bo (Wr.e_int)) (Wr.PE2_bo (Wr.e_int)))))))
   Wr.s_nil) (Wr.s_cons (Wr.s_set 11 Zf.nd (Wr.e_ix (Wr.PN2_bo (Wr.n_lst (Wr.a_cons (Wr.e_int) (Wr.a_cons (Wr.e_int) (Wr.a_cons (Wr.e_int) (Wr.a_cons (Wr.e_int) (Wr.a_cons (Wr.e_int) (Wr.a_cons (Wr.e_int) (Wr.a_cons (Wr.e_int) (Wr.a_cons (Wr.e_int) (Wr.a_cons (Wr.e_pow (Wr.PE2_bo (Wr.e_int)) (Wr.PE2_bo (Wr.e_int))) Wr.a_nil))))))))))) (Wr.b_var 11))) (Wr.s_one (Wr.s_if (Wr.t_dnotin (hu_of hr) (Wr.PE2_bo (Wr.e_tup (Wr.a_cons (Wr.e_var 9) (Wr.a_cons (Wr.e_var 11) Wr.a_nil)))) (Wr.b_var 6)) (Wr.s_cons (Wr.s_dput 6 (hu_of hr) (Wr.e_tup (Wr.a_cons (Wr.e_var 9) (Wr.a_cons (Wr.e_var 11) Wr.a_nil))) (Wr.e_bl)) (Wr.s_cons (Wr.s_set 14 Zf.nd (Wr.e_ix (Wr.PN2_bo (Wr.n_lst (Wr.a_cons (Wr.e_str) (Wr.a_cons (Wr.e_str) (Wr.a_cons (Wr.e_str) (Wr.a_cons (Wr.e_str) Wr.a_nil)))))) (Wr.b_var 12))) (Wr.s_one (Wr.s_app 5 (Wr.e_tup (Wr.a_cons (Wr.e_add (Wr.PE2_bo (Wr.e_int)) (Wr.PE2_bo (Wr.e_mod (Wr.b_var 8) (Wr.b_var 2)))) (Wr.a_cons (Wr.e_var 9) (Wr.a_cons (Wr.e_var 11) (Wr.a_cons (Wr.e_var 14) (Wr.a_cons (Wr.e_add (Wr.b_var 3) (Wr.b_var 13)) Wr.a_nil))))))))))
   Wr.s_nil)))))) (Wr.s_cons (Wr.s_forR1 PassesOwn.never rfl rfl z_range (Wr.a_cons (Wr.e_var 4) Wr.a_nil) (Wr.g_name 15 Zf.nd) (Wr.s_cons (Wr.s_asg (Wr.e_call Y3 hr (Wr.a_cons (Wr.e_add (Wr.PE2_bo (Wr.e_sum rfl z_sum (Wr.ab_cons (Wr.b_var 0) Wr.ab_nil))) (Wr.PE2_bo (Wr.e_mul (Wr.PE2_bo (Wr.e_int)) (Wr.b_var 15)))) (Wr.a_cons (Wr.PN2_fx (Wr.n_lst (Wr.a_cons (Wr.e_int) (Wr.a_cons (Wr.e_int) Wr.a_nil)))) Wr.a_nil))) (Wr.g_lst (n:=2) rfl (Wr.gs_cons (Wr.g_name 8 Zf.nd) (Wr.gs_cons (Wr.g_name 12 Zf.nd) Wr.gs_nil)))) (Wr.s_cons (Wr.s_set 14 Zf.nd (Wr.e_ix (Wr.PN2_bo (Wr.n_lst (Wr.a_cons (Wr.e_str) (Wr.a_cons (Wr.e_str) (Wr.a_cons (Wr.e_str) (Wr.a_cons (Wr.e_str) Wr.a_nil)))))) (Wr.b_var 12))) (Wr.s_one (Wr.s_app 5 (Wr.e_tup (Wr.a_cons (Wr.e_add (Wr.PE2_bo (Wr.e_int)) (Wr.PE2_bo (Wr.e_mod (Wr.b_var 8) (Wr.b_var 2)))) (Wr.a_cons (Wr.e_add (Wr.PE2_bo (Wr.e_int)) (Wr.PE2_bo (Wr.e_mul (Wr.PE2_bo (Wr.e_int)) (Wr.b_var 15)))) (Wr.a_cons (Wr.e_int) (Wr.a_cons (Wr.e_var 14) (Wr.a_cons (Wr.e_add (Wr.b_var 3) (Wr.PE2_bo (Wr.e_mod (Wr.b_var 15) (Wr.PE2_bo (Wr.e_add (Wr.PE2_bo (Wr.e_int)) (Wr.PE2_bo (Wr.e_fdiv (Wr.b_var 1) (Wr.PE2_bo (Wr.e_int))))))))) Wr.a_nil))))))))))) (Wr.s_one (Wr.s_retO 5)))))),?_⟩
 refine ⟨Nat.zero_le _,?_⟩
 refine Xan (λds δ=>∃ (j:Nat) (ms:List Int) (es:List Ent) (nm:List (List Key × D)),ds = ms.map D.int /\ δ = [.fr (.lst (cells.map D.int)),.fr (.int span),.fr (.int few),.fr (.int base),.fr (.int crowd),.ow (.lst (es.map Ent.d)),.ow (.dT nm),.un,.un,.un,.un,.un,.un,.un,.un,.un] /\
  Ents es j /\ (∀ e ∈ es,(valD nm [.inl e.number,.inl e.year]).isSome = true /\ (e.number < 100 \/ 10 ^ 10 <= e.number)) /\ nm.length <= j /\ j + ms.length = cells.length) ?_ ?_ _ _ ⟨0,cells,[],[],rfl,rfl,⟨List.nodup_nil,(λ_ z=>nomatch z),Nat.le_refl _⟩,(λ_ z=>nomatch z),Nat.le_refl _,by omega⟩
 ·rintro δ ⟨j,ms,es,nm,e,rfl,he,hn,hl,hj⟩
  cases ms with
  | cons m ms=>cases e
  | nil =>
  refine ⟨⟨by omega,Int.lt_of_le_of_lt c1 (by decide)⟩,?_⟩
  refine Xan (λds δ=>∃ (k:Nat) (es:List Ent),ds = (rng 0 crowd.toNat).drop k /\ k <= crowd.toNat /\ δ = [.fr (.lst (cells.map D.int)),.fr (.int span),.fr (.int few),.fr (.int base),.fr (.int crowd),.ow (.lst (es.map Ent.d)),.ow (.dT nm),.un,.un,.un,.un,.un,.un,.un,.un,.un] /\
   Ents es (cells.length + k) /\ ∀ e ∈ es,e.number < 100 + 7 * k \/ 10 ^ 10 <= e.number) ?_ ?_ _ _ ⟨0,es,rfl,Nat.zero_le _,rfl,he.more (by simp at hj;omega),λe he'=>by have:=(hn e he').2;omega⟩
  ·rintro δ ⟨k,es,e,hk,rfl,he,hn⟩
   exact q es (he.more (by omega))
  ·rintro d r δ L hL ⟨k,es,e,hk,rfl,he,hn⟩
   have hkn:k < crowd.toNat:=by
    rcases Nat.lt_or_ge k crowd.toNat with z | z
    ·exact z
    ·rw [List.drop_of_length_le (by simp [rng];omega)] at e;cases e
   rw [Xbp 0 _ k hkn] at e;obtain ⟨rfl,rfl⟩:d = .int (0 + k) /\ r = (rng 0 crowd.toNat).drop (k + 1):=by cases e;exact ⟨rfl,rfl⟩
   refine ⟨cells,rfl,cmulL,sz2,_,[_,_],rfl,by decide,by decide,Drawn.two λrank way r0 r1 w0 w1=>⟨rfl,?_⟩⟩;obtain ⟨dw,e4,m4⟩:=Xft (xs:=[D.str "moves", .str "moves", .str "stays", .str "lapses"]) w0 w1;obtain ⟨x,rfl,hx⟩:=Xqj m4;have hq:0 < 1 + span / 4:=by omega
   have hln:(es.map Ent.d).length < sizeLine:=by rw [List.length_map];have:=he.len;exact Xai (by omega)
   refine ⟨sz4,_,e4,?_⟩;have key:L [.fr (.lst (cells.map D.int)),.fr (.int span),.fr (.int few),.fr (.int base),.fr (.int crowd),.ow (.lst (es.map Ent.d ++ [.tup [.int (1 + rank % few),.int (100 + 7 * (0 + k)),.int 7,.str x,.int (base + (0 + k) % (1 + span / 4))]])),.ow (.dT nm),.un,.fr (.int rank),.un,.un,.un,.fr (.int way),.un,.fr (.str x),.fr (.int (0 + k))]:=by
    refine hL _ _ ⟨k + 1,es ++ [⟨1 + rank % few,100 + 7 * (0 + k),7,x,base + (0 + k) % (1 + span / 4)⟩],rfl,by omega,rfl,?_,λe he'=>?_⟩ (by rw [List.map_append];repeat constructor)
    ·have hk0:=Int.emod_nonneg (0 + (k:Int)) (show 1 + span / 4 ≠ 0 by omega)
     have hk1:=Int.emod_lt_of_pos (0 + (k:Int)) hq;refine (he.snoc ⟨by have:=Int.emod_nonneg rank (show few ≠ 0 by omega);simp only;omega,hx,.inl (by simp only;omega),(by simp only;omega),(by simp only;omega)⟩ λhm=>?_).more (by omega);obtain ⟨e',he',en⟩:=List.mem_map.mp hm;have:=hn e' he';have e5:e'.number = 100 + 7 * (0 + k):=congrArg Prod.fst en;omega
    ·rcases List.mem_append.mp he' with he' | he'
     ·have:=hn e he';omega
     ·have : e = ⟨1 + rank % few,100 + 7 * (0 + k),7,x,base + (0 + k) % (1 + span / 4)⟩:=by simpa using he'
      rw [this];simp only;omega
   exact ⟨f0,cmulL,⟨cpos,by decide⟩,hq,sz5,hln,key⟩
 ·rintro d r δ L hL ⟨j,ms,es,nm,e,rfl,he,hn,hl,hj⟩
  cases ms with
  | nil=>cases e
  | cons m ms =>
   obtain ⟨rfl,rfl⟩:d = .int m /\ r = ms.map D.int:=by cases e;exact ⟨rfl,rfl⟩
   rw [List.length_cons] at hj;refine ⟨sz6,_,[_,_,_,_,_,_],rfl,λz hz=>?_,by simp,Drawn.six λrank number big year way own r0 r1 n0 n1 b0 b1 y0 y1 w0 w1 o0 o1=>⟨rfl,?_⟩⟩
   ·simp only [List.mem_cons,List.not_mem_nil,or_false] at hz
    rcases hz with rfl | rfl | rfl | rfl | rfl | rfl
    iterate 5 exact ⟨by decide,by decide⟩
    exact ⟨s0,Xfw (by omega)⟩
   obtain ⟨dw,e4,m4⟩:=Xft (xs:=[D.str "moves", .str "moves", .str "stays", .str "lapses"]) w0 w1;obtain ⟨x,rfl,hx⟩:=Xqj m4;obtain ⟨dy,e5,m5⟩:=Xft (xs:=[D.int 0,.int 1,.int 2,.int 7,.int 9,.int 10,.int 11,.int 100,.int (10 ^ 11)]) y0 y1;obtain ⟨yr,rfl⟩:∃ i:Int,dy = .int i:=by
    simp only [List.mem_cons,List.not_mem_nil,or_false] at m5
    rcases m5 with rfl | rfl | rfl | rfl | rfl | rfl | rfl | rfl | rfl <;> exact ⟨_,rfl⟩
   have hnl:nm.length < sizeLine:=Xai (by omega);have hln:(es.map Ent.d).length < sizeLine:=by rw [List.length_map];have:=he.len;exact Xai (by omega)
   have fin2:∀ num:Int,L [.fr (.lst (cells.map D.int)),.fr (.int span),.fr (.int few),.fr (.int base),.fr (.int crowd),.ow (.lst (es.map Ent.d)),.ow (.dT nm),.fr (.int m),.fr (.int rank),.fr (.int num),.fr (.int big),.fr (.int yr),.fr (.int way),.fr (.int own),.un,.un]:=λnum =>
    hL _ _ ⟨j + 1,ms,es,nm,rfl,rfl,he.more (by omega),hn,by omega,by omega⟩ (by repeat constructor)
   have fin1:∀ num:Int,(num < 100 \/ 10 ^ 10 <= num) -> (true != (valD nm [.inl num,.inl yr]).isSome) = true -> L [.fr (.lst (cells.map D.int)),.fr (.int span),.fr (.int few),.fr (.int base),.fr (.int crowd),.ow (.lst (es.map Ent.d ++ [.tup [.int (1 + rank % few),.int num,.int yr,.str x,.int (base + own)]])),.ow (.dT (putD nm [.inl num,.inl yr] (.bl true))),.fr (.int m),.fr (.int rank),.fr (.int num),.fr (.int big),.fr (.int yr),.fr (.int way),.fr (.int own),.fr (.str x),.un]:=λnum h1 h2=>by
    have h3:(valD nm [.inl num,.inl yr]).isSome = false:=by
     cases hv:(valD nm [.inl num,.inl yr]).isSome with
     | false=>rfl
     | true=>rw [hv] at h2;cases h2
    refine hL _ _ ⟨j + 1,ms,es ++ [⟨1 + rank % few,num,yr,x,base + own⟩],_,rfl,rfl,?_,λe' he'=>?_,?_,by omega⟩ (by rw [List.map_append];repeat constructor)
    ·refine he.snoc ⟨by have:=Int.emod_nonneg rank (show few ≠ 0 by omega);simp only;omega,hx,(by simp only;omega),(by simp only;omega),(by simp only;omega)⟩ λhm=>?_
     obtain ⟨e',he',en⟩:=List.mem_map.mp hm;have h4:=(hn e' he').1;have e6:e'.number = num:=congrArg Prod.fst en;have e7:e'.year = yr:=congrArg Prod.snd en;rw [e6,e7,h3] at h4;cases h4
    ·rcases List.mem_append.mp he' with he' | he'
     ·obtain ⟨a1,a2⟩:=hn e' he'
      refine ⟨?_,a2⟩;rw [Xca]
      split
      ·rfl
      ·exact a1
     ·have : e' = ⟨1 + rank % few,num,yr,x,base + own⟩:=by simpa using he'
      subst this;refine ⟨?_,h1⟩;rw [Xca,if_pos rfl];rfl
    ·have:=Xaz nm [.inl num,.inl yr] (.bl true)
     omega
   refine if_eq (p:=big = 0) (λQ q=>q) (λ_=>⟨cpow,cmulR,?_⟩) (λ_=>?_)
   ·exact ⟨cpow,sz9,_,e5,if_by (λQ q=>⟨sz2,[.inl _,.inl _],rfl,q⟩) (λhc=>⟨sz2,[.inl _,.inl _],rfl,hnl,sz4,_,e4,f0,sz5,hln,fin1 _ (big10 n0) hc⟩) (λ_=>fin2 _)⟩
   ·exact ⟨cpow,sz9,_,e5,if_by (λQ q=>⟨sz2,[.inl _,.inl _],rfl,q⟩) (λhc=>⟨sz2,[.inl _,.inl _],rfl,hnl,sz4,_,e4,f0,sz5,hln,fin1 _ (by omega) hc⟩) (λ_=>fin2 _)⟩
structure Shut (kvs:List (Key × D)) (n:Nat):Prop where
 all:∀ p ∈ kvs,∃ i b:Int,p = (.inl i,.int b) /\ 0 <= b /\ b <= 8
 nd:(kvs.map (·.1)).Nodup
 len:kvs.length <= n
theorem Shut.bounds {kvs:List (Key × D)} {n:Nat} (h:Shut kvs n):Bounds kvs:=λp hp=>by obtain ⟨i,b,rfl,_⟩:=h.all p hp;exact ⟨b,rfl⟩
theorem Shut.nil:Shut [] 0:=⟨(λ_ z=>nomatch z),List.nodup_nil,Nat.le_refl _⟩
theorem Shut.put {kvs:List (Key × D)} {n:Nat} (h:Shut kvs n) {i b:Int} (h0:0 <= b) (h1:b <= 8):Shut (putD kvs (.inl i) (.int b)) (n + 1) :=
 ⟨λp hp=>by
  rcases Xpd hp with rfl | hp
  ·exact ⟨i,b,rfl,h0,h1⟩
  ·exact h.all p hp,Xla h.nd,by have:=Xaz kvs (.inl i) (.int b);have:=h.len;omega⟩
theorem Shut.more {kvs:List (Key × D)} {n m:Nat} (h:Shut kvs n) (hm:n <= m):Shut kvs m:=⟨h.all,h.nd,Nat.le_trans h.len hm⟩
theorem Xbs:∀ {out ss:List Int} (_:Drawn out ss) (i:Nat) (s:Int),ss[i]? = some s -> ∃ d:Int,atI (out.map D.int) (i:Int) = some (.int d) /\ 0 <= d /\ d < s:=by
 intro out ss h i s e;have : ∃ d:Int,out[i]? = some d /\ 0 <= d /\ d < s:=by
  induction h generalizing i with
  | nil=>cases e
  | cons h0 h1 h ih =>
   cases i with
   | zero=>cases e;exact ⟨_,rfl,h0,h1⟩
   | succ i=>exact ih i e
 obtain ⟨d,e1,h0,h1⟩:=this;exact ⟨d,Xjd (by rw [List.getElem?_map,e1];rfl),h0,h1⟩
def shutS (s:Int):List Int:=[7,s,9,s,9,s,9,s,9,s,9,s,9,31]
theorem Xmh {s:Int} (h0:0 < s) (h1:s <= 100):∀ z ∈ shutS s,0 < z /\ z < 2 ^ 200:=by
 intro z hz;simp only [shutS,List.mem_cons,List.not_mem_nil,or_false] at hz;have h2:s < 2 ^ 200:=Xfw (by omega)
 rcases hz with rfl | rfl | rfl | rfl | rfl | rfl | rfl | rfl | rfl | rfl | rfl | rfl | rfl | rfl <;> first | exact ⟨h0,h2⟩ | exact ⟨by decide,by decide⟩
def Z1k:Sp2:=λds Q=>∃ c span base:Int,ds = [.int c,.int span,.int base] /\ 0 < span /\ span <= 40 /\ ∀ kvs,Shut kvs 40 -> Q (.new (.dK kvs))
theorem Z1l {f:Addr} {fd:FuncData} (F:Fun K "_law_shut" "_law_shut" Z19 f fd) (Y3:Fn2 P w K mg base 2 "_law_digits" Zi) (z_range:mg "range" = none) (z_min:mg "min" = none)  : FnOk P w K mg base CX0 (2 + 1) f fd ["_law_cell_here", "_law_span", "_law_base"] (Xag K Z1k):=by
 refine Wr.fun_ok F Z1g (by rintro ds Qd ⟨c,a,b,rfl,_⟩;rfl) (λcdv A outer s H E hr ds Qd h=>?_);obtain ⟨c,span,base,rfl,s0,s1,q⟩:=h
 refine ⟨_,(Wr.s_cons (Wr.s_set 3 Z1g.nd (Wr.PN2_fx (Wr.n_lst (Wr.a_cons (Wr.e_int) Wr.a_nil)))) (Wr.s_cons (Wr.s_forR1 PassesOwn.never rfl rfl z_range (Wr.a_cons (Wr.e_int) Wr.a_nil) (Wr.g_name 4 Z1g.nd) (Wr.s_one (Wr.s_set 3 Z1g.nd (Wr.PN2_fx (Wr.n_cat (Wr.b_var 3) (Wr.PN2_bo (Wr.n_lst (Wr.a_cons (Wr.e_add (Wr.b_var 1) (Wr.PE2_bo (Wr.e_int))) (Wr.a_cons (Wr.e_int) Wr.a_nil))))))))) (Wr.s_cons (Wr.s_set 5 Z1g.nd (Wr.e_call Y3 hr (Wr.a_cons (Wr.e_var 0) (Wr.a_cons (Wr.PN2_fx (Wr.n_cat (Wr.b_var 3) (Wr.PN2_bo (Wr.n_lst (Wr.a_cons (Wr.e_add (Wr.b_var 1) (Wr.PE2_bo (Wr.e_int))) (Wr.a_cons (Wr.e_int) (Wr.a_cons (Wr.e_int) Wr.a_nil))))))) Wr.a_nil)))) (Wr.s_cons (Wr.s_setN 6 Z1g.nd (Wr.n_dK)) (Wr.s_cons (Wr.s_forR1 PassesOwn.never rfl rfl z_range (Wr.a_cons (Wr.e_min2 rfl z_min (Wr.ab_cons (Wr.PE2_bo (Wr.e_int)) (Wr.ab_cons (Wr.PE2_bo (Wr.e_ix (Wr.b_var 5) (Wr.PE2_bo (Wr.e_int)))) Wr.ab_nil))) Wr.a_nil) (Wr.g_name 4 Z1g.nd) (Wr.s_one (Wr.s_dput 6 (hu_of hr) (Wr.e_add (Wr.b_var 2) (Wr.PE2_bo (Wr.e_ix (Wr.b_var 5) (Wr.PE2_bo (Wr.e_add (Wr.PE2_bo (Wr.e_int)) (Wr.PE2_bo (Wr.e_mul (Wr.PE2_bo (Wr.e_int)) (Wr.b_var 4)))))))) (Wr.e_ix (Wr.b_var 5) (Wr.PE2_bo (Wr.e_add (Wr.PE2_bo (Wr.e_int)) (Wr.PE2_bo (Wr.e_mul (Wr.PE2_bo (Wr.e_int)) (Wr.b_var 4))))))))) (Wr.s_cons (Wr.s_if (Wr.t_cmp op_eq Xdj (Wr.PE2_bo (Wr.e_ix (Wr.b_var 5) (Wr.PE2_bo (Wr.e_int)))) (Wr.PE2_bo (Wr.e_int)) (Xam _)) (Wr.s_one (Wr.s_forR1 PassesOwn.never rfl rfl z_range (Wr.a_cons (Wr.e_ix (Wr.b_var 5) (Wr.PE2_bo (Wr.e_int))) Wr.a_nil) (Wr.g_name 4 Z1g.nd) (Wr.s_one (Wr.s_dput 6 (hu_of hr) (Wr.e_add (Wr.PE2_bo (Wr.e_add (Wr.b_var 2) (Wr.PE2_bo (Wr.e_ix (Wr.b_var 5) (Wr.PE2_bo (Wr.e_int)))))) (Wr.b_var 4)) (Wr.e_ix (Wr.b_var 5) (Wr.PE2_bo (Wr.e_int)))))))
   Wr.s_nil) (Wr.s_one (Wr.s_retO 6)))))))),?_⟩
 refine ⟨sz1,⟨by decide,by decide⟩,?_⟩;refine Xan (λds δ=>∃ k:Nat,ds = (rng 0 5).drop k /\ k <= 5 /\ δ = [.fr (.int c),.fr (.int span),.fr (.int base),.fr (.lst (((shutS (span + 6)).take (1 + 2 * k)).map D.int)),.un,.un,.un]) ?_ ?_ _ _ ⟨0,rfl,by decide,rfl⟩
 ·rintro δ ⟨k,e,hk,rfl⟩
  have hk5:k = 5:=by
   rcases Nat.lt_or_ge k 5 with z | z
   ·rw [Xbp 0 5 k z] at e;cases e
   ·omega
  subst hk5;refine ⟨sz3,(by show 11 + 3 <= sizeLine;decide),_,shutS (span + 6),rfl,Xmh (by omega) (by omega),(by show 14 <= 100;decide),λout hd=>?_⟩;obtain ⟨d0,e0,d00,d01⟩:=Xbs hd 0 7 rfl;obtain ⟨d11,e11,_,_⟩:=Xbs hd 11 (span + 6) rfl;obtain ⟨d12,e12,d120,d121⟩:=Xbs hd 12 9 rfl;obtain ⟨d13,e13,d130,d131⟩:=Xbs hd 13 31 rfl;refine ⟨_,e0,?_⟩
  have hm:(if d0 < 5 then d0 else 5:Int) <= 5 /\ 0 <= (if d0 < 5 then d0 else 5:Int):=by split <;> omega
  refine ⟨(show Xop (if d0 < 5 then d0 else 5:Int) from ⟨by omega,by omega⟩),(show loop _ _ _ (rng 0 (if d0 < 5 then d0 else 5:Int).toNat) _ from ?_)⟩;generalize (if d0 < 5 then d0 else 5:Int) = m at hm ⊢;refine Xan (λds δ=>∃ (k:Nat) (kvs:List (Key × D)),ds = (rng 0 m.toNat).drop k /\ k <= m.toNat /\ δ = [.fr (.int c),.fr (.int span),.fr (.int base),.fr (.lst ((shutS (span + 6)).take 11 |>.map D.int)),.un,.fr (.lst (out.map D.int)),.ow (.dK kvs)] /\ Shut kvs k) ?_ ?_ _ _ ⟨0,[],rfl,Nat.zero_le _,rfl,Shut.nil⟩
  ·rintro δ ⟨k,kvs,e,hk,rfl,hs⟩
   refine if_eq (p:=d0 = 6) (λQ q=>⟨_,e0,q⟩) (λ_=>⟨_,e13,⟨by omega,by omega⟩,?_⟩) (λ_=>q kvs (hs.more (by omega)));refine Xan (λds δ=>∃ (j:Nat) (kvs:List (Key × D)),ds = (rng 0 d13.toNat).drop j /\ j <= d13.toNat /\ δ = [.fr (.int c),.fr (.int span),.fr (.int base),.fr (.lst ((shutS (span + 6)).take 11 |>.map D.int)),.un,.fr (.lst (out.map D.int)),.ow (.dK kvs)] /\ Shut kvs (5 + j)) ?_ ?_ _ _ ⟨0,kvs,rfl,Nat.zero_le _,rfl,hs.more (by omega)⟩
   ·rintro δ ⟨j,kvs,e,hj,rfl,hs⟩
    exact q kvs (hs.more (by omega))
   ·rintro d r δ L hL ⟨j,kvs,e,hj,rfl,hs⟩
    have hjn:j < d13.toNat:=by
     rcases Nat.lt_or_ge j d13.toNat with z | z
     ·exact z
     ·rw [List.drop_of_length_le (by simp [rng];omega)] at e;cases e
    rw [Xbp 0 _ j hjn] at e;obtain ⟨rfl,rfl⟩:d = .int (0 + j) /\ r = (rng 0 d13.toNat).drop (j + 1):=by cases e;exact ⟨rfl,rfl⟩
    refine ⟨_,e12,_,e11,by have:=hs.len;exact Xai (by omega),?_⟩;exact hL _ _ ⟨j + 1,_,rfl,by omega,rfl,hs.put d120 (by omega)⟩ (by repeat constructor)
  ·rintro d r δ L hL ⟨k,kvs,e,hk,rfl,hs⟩
   have hkn:k < m.toNat:=by
    rcases Nat.lt_or_ge k m.toNat with z | z
    ·exact z
    ·rw [List.drop_of_length_le (by simp [rng];omega)] at e;cases e
   rw [Xbp 0 _ k hkn] at e;obtain ⟨rfl,rfl⟩:d = .int (0 + k) /\ r = (rng 0 m.toNat).drop (k + 1):=by cases e;exact ⟨rfl,rfl⟩
   have hk5:k < 5:=by omega
   obtain ⟨da,ea,_,_⟩:=Xbs hd (1 + 2 * k) (span + 6) (by rcases k with _ | _ | _ | _ | _ | k <;> first | rfl | omega)
   obtain ⟨db,eb,db0,db1⟩:=Xbs hd (2 + 2 * k) 9 (by rcases k with _ | _ | _ | _ | _ | k <;> first | rfl | omega);rw [show (((1 + 2 * k:Nat)):Int) = 1 + 2 * (0 + (k:Int)) by omega] at ea;rw [show (((2 + 2 * k:Nat)):Int) = 2 + 2 * (0 + (k:Int)) by omega] at eb;refine ⟨cmulL,_,eb,cmulL,_,ea,by have:=hs.len;exact Xai (by omega),?_⟩;exact hL _ _ ⟨k + 1,_,rfl,by omega,rfl,hs.put db0 (by omega)⟩ (by repeat constructor)
 ·rintro d r δ L hL ⟨k,e,hk,rfl⟩
  have hkn:k < 5:=by
   rcases Nat.lt_or_ge k 5 with z | z
   ·exact z
   ·rw [List.drop_of_length_le (by simp [rng];omega)] at e;cases e
  rw [Xbp 0 _ k hkn] at e;obtain ⟨rfl,rfl⟩:d = .int (0 + k) /\ r = (rng 0 5).drop (k + 1):=by cases e;exact ⟨rfl,rfl⟩
  refine ⟨sz2,?_,?_⟩
  ·rw [List.length_map,List.length_take]
   show min (1 + 2 * k) 14 + 2 <= sizeLine
   exact Nat.le_trans (show min (1 + 2 * k) 14 + 2 <= 12 by omega) sz12
  ·refine hL _ _ ⟨k + 1,rfl,by omega,rfl⟩ ?_
   have : ((shutS (span + 6)).take (1 + 2 * (k + 1))).map D.int = ((shutS (span + 6)).take (1 + 2 * k)).map D.int ++ [.int (span + 6),.int 9]:=by
    rcases k with _ | _ | _ | _ | _ | k <;> first | rfl | omega
   rw [this]
   repeat constructor
def Z1q:Sp2:=λds Q=>∃ (ns:List Int) (most:Nat),ds = [.lst (ns.map D.int),.int most] /\ ns.length <= 63 /\ ∀ es kvs,Ents es 80 -> Shut kvs 40 -> Q (.val (.tup [.lst (es.map Ent.d),.dK kvs]))
theorem Z1r {f:Addr} {fd:FuncData} (F:Fun K "_law_laid" "_law_laid" Z14 f fd) (Y8:Fn2 P w K mg base 3 "_law_head" Z1b) (Y2:Fn2 P w K mg base 3 "_law_entries" Zb) (Y7:Fn2 P w K mg base 3 "_law_shut" Z1k) (Yc:Fn2 P w K mg base 3 "_law_cell" Z1u)  : FnOk P w K mg base CX0 (3 + 1) f fd ["_law_script", "_law_most"] (Xag K Z1q):=by
 refine Wr.fun_ok F Z1a (by rintro ds Qd ⟨ns,m,rfl,_⟩;rfl) (λcdv A outer s H E hr ds Qd h=>?_);obtain ⟨ns,most,rfl,hlen,q⟩:=h
 refine ⟨_,(Wr.s_cons (Wr.s_asg (Wr.e_call Y8 hr (Wr.a_cons (Wr.e_var 0) Wr.a_nil)) (Wr.g_tup (n:=4) rfl (Wr.gs_cons (Wr.g_name 2 Z1a.nd) (Wr.gs_cons (Wr.g_name 3 Z1a.nd) (Wr.gs_cons (Wr.g_name 4 Z1a.nd) (Wr.gs_cons (Wr.g_name 5 Z1a.nd) Wr.gs_nil)))))) (Wr.s_cons (Wr.s_set 6 Z1a.nd (Wr.e_call Y2 hr (Wr.a_cons (Wr.PN2_fx (Wr.n_slL (Wr.b_var 0) (Wr.o_some (Wr.PE2_bo (Wr.e_int))) (Wr.o_some (Wr.PE2_bo (Wr.e_add (Wr.PE2_bo (Wr.e_int)) (Wr.b_var 1)))))) (Wr.a_cons (Wr.e_var 2) (Wr.a_cons (Wr.e_var 3) (Wr.a_cons (Wr.e_var 4) (Wr.a_cons (Wr.e_mul (Wr.PE2_bo (Wr.e_int)) (Wr.b_var 5)) Wr.a_nil))))))) (Wr.s_cons (Wr.s_set 7 Z1a.nd (Wr.e_call Y7 hr (Wr.a_cons (Wr.e_call Yc hr (Wr.a_cons (Wr.e_var 0) (Wr.a_cons (Wr.e_int) Wr.a_nil))) (Wr.a_cons (Wr.e_var 2) (Wr.a_cons (Wr.e_var 4) Wr.a_nil))))) (Wr.s_one (Wr.s_ret (Wr.e_tup (Wr.a_cons (Wr.e_var 6) (Wr.a_cons (Wr.e_var 7) Wr.a_nil)))))))),?_⟩
 refine ⟨ns,rfl,λspan few base crowd s0 s1 f0 f1 v0 v1 c0 c1=>⟨rfl,?_⟩⟩;refine ⟨cmulL,(ns.drop 2).take most,span,few,base,6 * crowd,?_,s0,s1,f0,f1,v0,v1,by omega,by omega,by simp;omega,λes he=>?_⟩
 ·have e:=Xtx (xs:=ns.map D.int) (a:=2) (b:=2 + most)
  rw [Nat.add_sub_cancel_left,<- List.map_drop,<- List.map_take] at e;exact congrArg (λz=>[D.lst z,.int span,.int few,.int base,.int (6 * crowd)]) e
 ·refine ⟨ns,_,rfl,by decide,λv=>⟨_,span,base,rfl,s0,s1,λkvs hs=>⟨sz2,q es kvs (he.more (by simp;omega)) hs⟩⟩⟩
theorem Laid.len {kvs:List (Key × D)} {held held2:List Int} {es:List Ent} {rows:List Row} (h:Laid kvs held es rows held2):rows.length = es.length:=by
 induction h with
 | nil=>rfl
 | cons p l ih=>simp [ih]
structure DaysAre (dy:List (Key × D)) (held:List Int):Prop where
 has:∀ x:Int,(valD dy (.inl x)).isSome = true ↔ x ∈ held
 len:dy.length <= held.length
theorem DaysAre.nil:DaysAre [] []:=⟨(λx=>by simp [valD]),Nat.le_refl _⟩
theorem DaysAre.put {dy:List (Key × D)} {held:List Int} (h:DaysAre dy held) (f:Int) (v:D):DaysAre (putD dy (.inl f) v) (f :: held):=by
 refine ⟨λx=>?_,by have:=Xaz dy (.inl f) v;have:=h.len;simp;omega⟩;rw [Xca,List.mem_cons]
 by_cases e:(Sum.inl x:Key) = .inl f
 ·rw [if_pos e]
  have : x = f:=by injection e
  simp [this]
 ·rw [if_neg e,h.has x]
  have : ¬ x = f:=λz=>e (by rw [z])
  simp [this]
def Row.name (r:Row):Int × Int:=(r.number,r.year)
theorem Laid.names {kvs:List (Key × D)} {held h2:List Int} {es:List Ent} {rows:List Row} (l:Laid kvs held es rows h2):rows.map Row.name = es.map Ent.name:=by
 induction l with
 | nil=>rfl
 | cons p l ih=>rw [List.map_cons,List.map_cons,ih];rfl
def Z1z:Sp2:=λds Q=>∃ (es:List Ent) (kvs:List (Key × D)),ds = [.lst (es.map Ent.d),.dK kvs] /\ Names es /\ es.length <= 400 /\ (∀ e ∈ es,Way3 e.way) /\ Bounds kvs /\ kvs.length <= 5000000 /\ ∀ os rows held,Ordd es os -> Laid kvs [] os rows held -> Q (.new (.lst (rows.map Row.d)))
def blk (kvs dy:List (Key × D)) (rank x:Int):Bool:=(valD dy (.inl x)).isSome || !openM kvs rank x
theorem Xks {kvs dy:List (Key × D)} {held:List Int} {rank x:Int} (h:DaysAre dy held):blk kvs dy rank x = true ↔ Blocked kvs rank held x:=by
 unfold blk Blocked;rw [Bool.or_eq_true,h.has]
 cases openM kvs rank x <;> simp
theorem ff_ex {kvs:List (Key × D)} {rank:Int} {held:List Int}:∀ (n:Nat) (d:Int),(ub (held ++ Xfy kvs) - d).toNat <= n -> ∃ f,IsFF kvs rank held d f:=by
 intro n
 induction n with
 | zero =>
  intro d hn;refine ⟨d,Int.le_refl _,λz=>?_,?_,λx h1 h2=>by omega⟩
  ·have:=Blocked.lt (kvs:=kvs) (rank:=rank) (held:=held) (x:=d) (.inl z);omega
  ·cases z:openM kvs rank d with
   | true=>rfl
   | false=>have:=Blocked.lt (kvs:=kvs) (rank:=rank) (held:=held) (x:=d) (.inr z);omega
 | succ n ih =>
  intro d hn
  by_cases hb:Blocked kvs rank held d
  ·obtain ⟨f,ff⟩:=ih (d + 1) (by omega)
   refine ⟨f,by have:=ff.le;omega,ff.nh,ff.op,λx h1 h2=>?_⟩
   by_cases e:x = d
   ·rw [e];exact hb
   ·exact ff.all x (by omega) h2
  ·refine ⟨d,Int.le_refl _,λz=>hb (.inl z),?_,λx h1 h2=>by omega⟩
   cases z:openM kvs rank d with
   | true=>rfl
   | false=>exact absurd (.inr z) hb
theorem Z1w {f:Addr} {fd:FuncData} (F:Fun K "_law_lay" "_law_lay" Z2e f fd)  (z_sorted:mg "sorted" = none)  : FnOk P w K mg base CX0 (0 + 1) f fd ["_law_entries_here", "_law_shut_here"] (Xag K Z1z):=by
 refine Wr.fun_ok F Z2c (by rintro ds Qd ⟨es,k,rfl,_⟩;rfl) (λcdv A outer s H E hr ds Qd h=>?_);obtain ⟨es,kvs,rfl,hn,hl,hw3,hb,hk,q⟩:=h
 refine ⟨_,(Wr.s_cons (Wr.s_setN 2 Z2c.nd (Wr.n_dK)) (Wr.s_cons (Wr.s_setN 3 Z2c.nd (Wr.n_lst Wr.a_nil)) (Wr.s_cons (Wr.s_forL PassesOwn.never rfl (Wr.PN2_fx (Wr.n_sort z_sorted (Wr.ab_cons (Wr.b_var 0) Wr.ab_nil))) (Wr.g_tup (n:=5) rfl (Wr.gs_cons (Wr.g_name 4 Z2c.nd) (Wr.gs_cons (Wr.g_name 5 Z2c.nd) (Wr.gs_cons (Wr.g_name 6 Z2c.nd) (Wr.gs_cons (Wr.g_name 7 Z2c.nd) (Wr.gs_cons (Wr.g_name 8 Z2c.nd) Wr.gs_nil)))))) (Wr.s_cons (Wr.s_set 9 Z2c.nd (Wr.e_var 8)) (Wr.s_cons (Wr.s_set 10 Z2c.nd (Wr.e_str)) (Wr.s_cons (Wr.s_if (Wr.t_cmp op_eq Xdj (Wr.b_var 7) (Wr.PE2_bo (Wr.e_str)) (Xam _)) (Wr.s_one (Wr.s_while PassesOwn.never (Wr.PW2_pt (Wr.t_or (Wr.t_din (hu_of hr) (Wr.b_var 9) (Wr.b_var 2)) (Wr.t_or1 (Wr.PW2_pt (Wr.t_and (Wr.t_din (hu_of hr) (Wr.b_var 9) (Wr.b_var 1)) (Wr.t_and1 (Wr.t_cmp op_gt lf_gt (Wr.b_var 4) (Wr.PE2_bo (Wr.e_dget (hu_of hr) (Wr.b_var 1) (Wr.b_var 9))) (Xam _)))))))) (Wr.s_one (Wr.s_augadd 9 Z2c.nd (Wr.e_int))))) (Wr.s_one (Wr.s_if (Wr.PW2_pt (Wr.t_or (Wr.t_din (hu_of hr) (Wr.b_var 9) (Wr.b_var 2)) (Wr.t_or1 (Wr.PW2_pt (Wr.t_and (Wr.t_din (hu_of hr) (Wr.b_var 9) (Wr.b_var 1)) (Wr.t_and1 (Wr.t_cmp op_gt lf_gt (Wr.b_var 4) (Wr.PE2_bo (Wr.e_dget (hu_of hr) (Wr.b_var 1) (Wr.b_var 9))) (Xam _)))))))) (Wr.s_cons (Wr.s_set 10 Z2c.nd (Wr.e_str)) (Wr.s_one (Wr.s_if (Wr.t_cmp op_eq Xdj (Wr.b_var 7) (Wr.PE2_bo (Wr.e_str)) (Xam _)) (Wr.s_one (Wr.s_set 10 Z2c.nd (Wr.e_str)))
   Wr.s_nil)))
   Wr.s_nil))) (Wr.s_cons (Wr.s_if (Wr.t_cmp op_eq Xdj (Wr.b_var 10) (Wr.PE2_bo (Wr.e_str)) (Xam _)) (Wr.s_one (Wr.s_dput 2 (hu_of hr) (Wr.e_var 9) (Wr.e_bl)))
   Wr.s_nil) (Wr.s_one (Wr.s_app 3 (Wr.e_tup (Wr.a_cons (Wr.e_var 5) (Wr.a_cons (Wr.e_var 6) (Wr.a_cons (Wr.e_var 10) (Wr.a_cons (Wr.e_var 9) Wr.a_nil)))))))))))) (Wr.s_one (Wr.s_retO 3))))),?_⟩
 refine ⟨Nat.zero_le _,keyI,3,Xmf hn,λods hp hR=>?_⟩;obtain ⟨os,rfl,ho⟩:=Xss hp hR;have hlo:os.length <= 400:=by rw [ho.perm.length_eq];exact hl
 have hwo:∀ e ∈ os,Way3 e.way:=λe he=>hw3 e (ho.perm.mem_iff.mp he)
 refine Xan (λds δ=>∃ (todo:List Ent) (rows:List Row) (held:List Int) (dy:List (Key × D)),ds = todo.map Ent.d /\ δ = [.fr (.lst (es.map Ent.d)),.fr (.dK kvs),.ow (.dK dy),.ow (.lst (rows.map Row.d)),.un,.un,.un,.un,.un,.un,.un] /\
  (∀ rows' held',Laid kvs held todo rows' held' -> Laid kvs [] os (rows ++ rows') held') /\ DaysAre dy held /\ (∀ e ∈ todo,Way3 e.way) /\ rows.length + todo.length <= 1000 /\ held.length + todo.length <= 1000) ?_ ?_ _ _
  ⟨os,[],[],[],rfl,rfl,λrows' held' l=>l,DaysAre.nil,hwo,by simp;omega,by simp;omega⟩
 ·rintro δ ⟨todo,rows,held,dy,e,rfl,hL,hd,_,_,_⟩
  cases todo with
  | cons e todo=>cases e
  | nil =>
   have:=hL [] held .nil;rw [List.append_nil] at this;exact q os rows held ho this
 ·rintro d r δ L hLL ⟨todo,rows,held,dy,e,rfl,hL,hd,hw,hl1,hl2⟩
  cases todo with
  | nil=>cases e
  | cons e0 todo =>
   obtain ⟨rfl,rfl⟩:d = e0.d /\ r = todo.map Ent.d:=by cases e;exact ⟨rfl,rfl⟩
   rw [List.length_cons] at hl1 hl2;have hdy:=hd.len
   have fin:∀ {how:Str} {day:Int} {held':List Int} {dy':List (Key × D)},Placed kvs held e0 how day held' -> DaysAre dy' held' ->
     L [.fr (.lst (es.map Ent.d)),.fr (.dK kvs),.ow (.dK dy'),.ow (.lst (rows.map Row.d ++ [.tup [.int e0.number,.int e0.year,.str how,.int day]])),.fr (.int e0.rank),.fr (.int e0.number),.fr (.int e0.year),.fr (.str e0.way),.fr (.int e0.own),.fr (.int day),.fr (.str how)]:=λ{how day held' dy'} p hd'=>by
    refine hLL _ _ ⟨todo,rows ++ [⟨e0.number,e0.year,how,day⟩],held',dy',rfl,rfl,λrows' h2 l=>?_,hd',λe he=>hw e (.tail _ he),by simp;omega,by have:=p.len;omega⟩ (by rw [List.map_append];repeat constructor);have:=hL _ _ (.cons p l);rw [List.append_assoc];exact this
   have szr:(rows.map Row.d).length < sizeLine:=by rw [List.length_map];exact Xai (by omega)
   have szd:dy.length < sizeLine:=Xai (by omega);have test:∀ (a0 a3 a4 a5 a6 a7 a8 a10:Sl) (day:Int),RdT (rOr (rTest (rOp (dDIn false) (rVarB 9) (rVarB 2))) (rAnd (rTest (rOp (dDIn false) (rVarB 9) (rVarB 1))) (rTest (rOp dGt (rVarB 4) (rOp dDGet (rVarB 1) (rVarB 9)))))) [a0,.fr (.dK kvs),.ow (.dK dy),a3,.fr (.int e0.rank),a5,a6,a7,a8,.fr (.int day),a10] (blk kvs dy e0.rank day):=by
    intro a0 a3 a4 a5 a6 a7 a8 a10 day;unfold blk
    refine or_by (b1:=(valD dy (.inl day)).isSome) (b2:=!openM kvs e0.rank day) (RdT.eq (λQ q=>q) (by cases (valD dy (.inl day)).isSome <;> rfl)) (λ_=>?_);unfold openM
    cases ev:valD kvs (.inl day) with
    | none=>exact and_f (RdT.eq (λQ q=>q) (by rw [ev];rfl))
    | some dv =>
     obtain ⟨b,rfl⟩:=hb.at ev
     exact Xdm (b1:=true) (b2:=!decide (e0.rank <= b)) (RdT.eq (λQ q=>q) (by rw [ev];rfl)) (λ_=>RdT.eq (λQ q=>⟨_,ev,q⟩) (by by_cases z:e0.rank <= b <;> simp [z] <;> omega))
   refine ⟨rfl,?_⟩;refine if_eq (p:=e0.way = "moves") (λQ q=>q) (λhm=>?_) (λhm=>?_)
   ·refine Xlq (λm δ=>∃ d':Int,δ = [.fr (.lst (es.map Ent.d)),.fr (.dK kvs),.ow (.dK dy),.ow (.lst (rows.map Row.d)),.fr (.int e0.rank),.fr (.int e0.number),.fr (.int e0.year),.fr (.str e0.way),.fr (.int e0.own),.fr (.int d'),.fr (.str "stands")] /\ e0.own <= d' /\ (∀ x,e0.own <= x -> x < d' -> Blocked kvs e0.rank held x) /\ m = (ub (held ++ Xfy kvs) - d').toNat) _
     ⟨e0.own,rfl,Int.le_refl _,(λx h1 h2=>by omega),rfl⟩ ?_
    rintro m δ L2 hLw ⟨d',rfl,h1,h2,rfl⟩;have hR:=test (.fr (.lst (es.map Ent.d))) (.ow (.lst (rows.map Row.d))) .un (.fr (.int e0.number)) (.fr (.int e0.year)) (.fr (.str e0.way)) (.fr (.int e0.own)) (.fr (.str "stands")) d'
    cases hbk:blk kvs dy e0.rank d' with
    | true =>
     rw [hbk] at hR;have hbl:=(Xks hd).mp hbk;have hlt:=hbl.lt;refine hR _ (Two.t ?_);refine hLw _ _ _ ⟨d' + 1,rfl,by omega,λx a1 a2=>?_,rfl⟩ (by omega) (Fg.refl _)
     by_cases hx:x < d'
     ·exact h2 x a1 hx
     ·rw [show x = d' by omega];exact hbl
    | false =>
     rw [hbk] at hR;have hnb:¬ Blocked kvs e0.rank held d':=λz=>by rw [(Xks hd).mpr z] at hbk;cases hbk
     have ff:IsFF kvs e0.rank held e0.own d':=⟨h1,λz=>hnb (.inl z),by
      cases z:openM kvs e0.rank d' with
      | true=>rfl
      | false=>exact absurd (.inr z) hnb,h2⟩
     refine hR _ (Two.f ?_);exact if_t (RdT.eq (λQ q=>q) rfl) ⟨szd,sz4,szr,fin (.stands ff (.inl hm)) (hd.put d' _)⟩
   ·refine if_by (test (.fr (.lst (es.map Ent.d))) (.ow (.lst (rows.map Row.d))) .un (.fr (.int e0.number)) (.fr (.int e0.year)) (.fr (.str e0.way)) (.fr (.int e0.own)) (.fr (.str "stands")) e0.own) (λhbk=>?_) (λhbk=>?_)
    ·have hbl:=(Xks hd).mp hbk
     obtain ⟨f,ff⟩:=ff_ex (kvs:=kvs) (rank:=e0.rank) (held:=held) _ e0.own (Nat.le_refl _);have hne:¬ f = e0.own:=λz=>by
      rcases hbl with y | y
      ·exact ff.nh (by rw [z];exact y)
      ·have:=ff.op
       rw [z,y] at this;cases this
     refine if_eq (p:=e0.way = "lapses") (λQ q=>q) (λhlap=>?_) (λhlap=>?_)
     ·have hns:¬ e0.way = "stays" := λz=>by rw [z] at hlap;cases hlap
      exact if_f (RdT.eq (λQ q=>q) rfl) ⟨sz4,szr,fin (.gone ff hm hne hns) hd⟩
     ·have hst:e0.way = "stays" := by
       rcases hw e0 (.head _) with z | z | z
       ·exact absurd z hm
       ·exact z
       ·exact absurd z hlap
      exact if_f (RdT.eq (λQ q=>q) rfl) ⟨sz4,szr,fin (.noted ff hm hne hst) hd⟩
    ·have hnb:¬ Blocked kvs e0.rank held e0.own:=λz=>by rw [(Xks hd).mpr z] at hbk;cases hbk
     have ff:IsFF kvs e0.rank held e0.own e0.own:=⟨Int.le_refl _,λz=>hnb (.inl z),by
      cases z:openM kvs e0.rank e0.own with
      | true=>rfl
      | false=>exact absurd (.inr z) hnb,λx a1 a2=>by omega⟩
     exact if_t (RdT.eq (λQ q=>q) rfl) ⟨szd,sz4,szr,fin (.stands ff (.inr rfl)) (hd.put e0.own _)⟩
theorem List.filter_true' {α:Type} (xs:List α):xs.filter (λ_=>true) = xs:=List.filter_eq_self.mpr λ_ _=>rfl
theorem Xfg (k:Nat) (rs:List Row):Xaa (k + 2) (.lst (rs.map Row.d)) = true:=by
 simp only [Xaa,List.all_map,List.all_eq_true];intro e _
 cases k <;> rfl
def placT:List Row -> List (List Key × D) -> List (List Key × D)
 | [],kv=>kv
 | r :: rs,kv=>placT rs (putD kv [.inl r.number,.inl r.year] (.tup [.str r.how,.int r.day]))
def Z2z:Sp2:=λds Q=>∃ rows:List Row,ds = [.lst (rows.map Row.d)] /\ rows.length <= 900 /\ Q (.new (.dT (placT rows [])))
theorem Z30 {f:Addr} {fd:FuncData} (F:Fun K "places" "places" Z33 f fd)   : FnOk P w K mg base CX0 (0 + 1) f fd ["rows"] (Xag K Z2z):=by
 refine Wr.fun_ok F Z2u (by rintro ds Qd ⟨r,rfl,_⟩;rfl) (λcdv A outer s H E hr ds Qd h=>?_);obtain ⟨rows,rfl,hl,q⟩:=h;refine ⟨_,(Wr.s_one (Wr.s_retN (Wr.n_dcompT (Nat.lt_of_succ_lt (hu_of hr)) (nT:=4) (N':=["number", "year", "how", "day", "0acc", "0rows"]) (Xbm (Xab Z33) (N:=Z35) rfl rfl rfl (by decide +kernel)) (Wr.e_var 0) (λ_ _ _ _ _=>(Wr.gp_tup (n:=4) rfl (Wr.gsp_cons (Wr.gp_name 0 (by decide) Z26) (Wr.gsp_cons (Wr.gp_name 1 (by decide) Z26) (Wr.gsp_cons (Wr.gp_name 2 (by decide) Z26) (Wr.gsp_cons (Wr.gp_name 3 (by decide) Z26) Wr.gsp_nil)))))) (λ_ _ _ _ _=>Wr.if_nil) (λ_ _ _ _ _=>(Wr.e_tup (Wr.a_cons (Wr.e_var 0) (Wr.a_cons (Wr.e_var 1) Wr.a_nil)))) (λ_ _ _ _ _=>(Wr.e_tup (Wr.a_cons (Wr.e_var 2) (Wr.a_cons (Wr.e_var 3) Wr.a_nil))))))),?_⟩
 have key:∀ (rs:List Row) (a b c d:Sl) (kv:List (List Key × D)) (Q:List (List Key × D) -> Prop) (δ:List Sl),kv.length + rs.length <= 900 -> Q (placT rs kv) ->
   compT (gpTup 4 (Xbu (gpSet 0) (Xbu (gpSet 1) (Xbu (gpSet 2) (Xbu (gpSet 3) gpNil))))) rTrue (rTupD (rCons (rVar 0) (rCons (rVar 1) rNil))) (rTupD (rCons (rVar 2) (rCons (rVar 3) rNil))) δ (rs.map Row.d) [a,b,c,d] kv Q:=by
  intro rs
  induction rs with
  | nil=>intro a b c d kv Q δ _ q;exact q
  | cons r rs ih =>
   intro a b c d kv Q δ hlen q;rw [List.length_cons] at hlen;exact ⟨rfl,Two.t ⟨sz2,sz2,[.inl _,.inl _],rfl,Xai (by omega),ih _ _ _ _ _ Q δ (by have:=Xaz kv [.inl r.number,.inl r.year] (.tup [.str r.how,.int r.day]);omega) q⟩⟩
 exact key rows .un .un .un .un [] _ _ (by simpa using hl) q
def nmD (p:Int × Int):D:=.tup [.int p.1,.int p.2]
def Z29:Sp2:=λds Q=>∃ rows:List Row,ds = [.lst (rows.map Row.d)] /\ rows.length <= 900 /\ Q (.new (.lst ((rows.map Row.name).map nmD)))
theorem Z2f {f:Addr} {fd:FuncData} (F:Fun K "names_of" "names_of" Z25 f fd)   : FnOk P w K mg base CX0 (0 + 1) f fd ["rows"] (Xag K Z29):=by
 refine Wr.fun_ok F Z22 (by rintro ds Qd ⟨r,rfl,_⟩;rfl) (λcdv A outer s H E hr ds Qd h=>?_);obtain ⟨rows,rfl,hl,q⟩:=h;refine ⟨_,(Wr.s_one (Wr.s_retN (Wr.n_comp (nT:=4) (N':=["number", "year", "how", "day", "0acc", "0rows"]) (Xbm (Xab Z25) (N:=Z2n) rfl rfl rfl (by decide +kernel)) (Wr.e_var 0) (λ_ _ _ _ _=>(Wr.gp_tup (n:=4) rfl (Wr.gsp_cons (Wr.gp_name 0 (by decide) Z12) (Wr.gsp_cons (Wr.gp_name 1 (by decide) Z12) (Wr.gsp_cons (Wr.gp_name 2 (by decide) Z12) (Wr.gsp_cons (Wr.gp_name 3 (by decide) Z12) Wr.gsp_nil)))))) (λ_ _ _ _ _=>Wr.if_nil) (λ_ _ _ _ _=>(Wr.e_tup (Wr.a_cons (Wr.e_var 0) (Wr.a_cons (Wr.e_var 1) Wr.a_nil))))))),?_⟩
 have key:∀ (rs:List Row) (a b c d:Sl) (acc:List D) (Q:List D -> Prop) (δ:List Sl),acc.length + rs.length <= 900 -> Q (acc ++ (rs.map Row.name).map nmD) ->
   compD (gpTup 4 (Xbu (gpSet 0) (Xbu (gpSet 1) (Xbu (gpSet 2) (Xbu (gpSet 3) gpNil))))) rTrue (rTupD (rCons (rVar 0) (rCons (rVar 1) rNil))) δ (rs.map Row.d) [a,b,c,d] acc Q:=by
  intro rs
  induction rs with
  | nil =>
   intro a b c d acc Q δ _ q;have q:Q acc:=by simpa using q
   exact q
  | cons r rs ih =>
   intro a b c d acc Q δ hlen q;rw [List.length_cons] at hlen;exact ⟨rfl,Two.t ⟨sz2,Xai (by omega),ih _ _ _ _ _ Q δ (by simp;omega) (by rw [List.append_assoc];exact q)⟩⟩
 exact key rows .un .un .un .un [] _ _ (by simpa using hl) (by simpa using q)
def plc (rows:List Row) (nm:Int × Int):D:=match rows.find? (λr=>decide (r.name = nm)) with
 | some r=>.tup [.str r.how,.int r.day]
 | none=>.non
theorem Xgz {a:Row} {n y:Int} (h:([.inl n,.inl y]:List Key) = [.inl a.number,.inl a.year]):a.name = (n,y):=by
 injection h with h1 h2
 injection h2 with h2 _
 injection h1 with h1
 injection h2 with h2
 exact Prod.ext h1.symm h2.symm
theorem Xhf:∀ (rows:List Row) (kv:List (List Key × D)) (n y:Int),(rows.map Row.name).Nodup -> valD (placT rows kv) [.inl n,.inl y] = match rows.find? (λr=>decide (r.name = (n,y))) with
  | some r=>some (.tup [.str r.how,.int r.day])
  | none=>valD kv [.inl n,.inl y]
 | [],kv,n,y,_=>rfl
 | r :: rs,kv,n,y,hn=>by
  rw [List.map_cons,List.nodup_cons] at hn;simp only [placT];rw [Xhf rs _ n y hn.2]
  by_cases h:r.name = (n,y)
  ·rw [List.find?_cons_of_pos (by simpa using h)]
   have : rs.find? (λr=>decide (r.name = (n,y))) = none:=by
    rw [List.find?_eq_none];intro x hx;rw [decide_eq_true_eq];exact λz=>hn.1 (List.mem_map.mpr ⟨x,hx,z.trans h.symm⟩)
   rw [this];have e1:r.number = n:=congrArg Prod.fst h;have e2:r.year = y:=congrArg Prod.snd h;simp only;rw [Xca,if_pos (by rw [e1,e2])]
  ·rw [List.find?_cons_of_neg (by simpa using h)]
   cases rs.find? (λr=>decide (r.name = (n,y))) with
   | some x=>rfl
   | none =>
    simp only;rw [Xca,if_neg (λz=>h (Xgz z))]
theorem Xcg {rows:List Row} (hn:(rows.map Row.name).Nodup) (n y:Int):(valD (placT rows []) [.inl n,.inl y]).getD .non = plc rows (n,y):=by
 rw [Xhf rows [] n y hn];unfold plc
 cases rows.find? (λr=>decide (r.name = (n,y))) <;> rfl
theorem Xjq (rows:List Row) (nm:Int × Int):plc rows nm = .non \/ ∃ w d,plc rows nm = .tup [.str w,.int d]:=by
 unfold plc
 cases rows.find? (λr=>decide (r.name = nm)) with
 | none=>exact .inl rfl
 | some r=>exact .inr ⟨_,_,rfl⟩
theorem Xbk (rows:List Row) (nm:Int × Int) (k:Nat):Xaa (k + 1) (plc rows nm) = true:=by
 rcases Xjq rows nm with z | ⟨w,d,z⟩ <;> rw [z] <;> cases k <;> rfl
def Xah (b a:Int × Int -> D):List (Int × Int) -> List D
 | []=>[]
 | n :: ns=>(if eqD (b n) (a n) = true then [] else [.tup [.int n.1,.int n.2,b n,a n]]) ++ Xah b a ns
theorem Xbo (b a:Int × Int -> D):∀ ns:List (Int × Int),(Xah b a ns).length <= ns.length
 | []=>Nat.le_refl _
 | n :: ns=>by
  have:=Xbo b a ns;simp only [Xah]
  split <;> simp <;> omega
theorem Xau (b a:Int × Int -> D):∀ xs ys:List (Int × Int),Xah b a (xs ++ ys) = Xah b a xs ++ Xah b a ys
 | [],ys=>rfl
 | x :: xs,ys=>by simp only [Xah,List.cons_append];rw [Xau b a xs ys,List.append_assoc]
def Zo:Sp2:=λds Q=>∃ (ns:List (Int × Int)) (bs as:List Row),ds = [.lst (ns.map nmD),.lst (bs.map Row.d),.lst (as.map Row.d)] /\ ns.length <= 900 /\ bs.length <= 900 /\ as.length <= 900 /\ (bs.map Row.name).Nodup /\ (as.map Row.name).Nodup /\ Q (.new (.lst (Xah (plc bs) (plc as) ns)))
theorem Zs {f:Addr} {fd:FuncData} (F:Fun K "turns_among" "turns_among" Zg f fd) (Yi:Fn2 P w K mg base 1 "places" Z2z)  : FnOk P w K mg base CX0 (1 + 1) f fd ["names", "befores", "afters"] (Xag K Zo):=by
 refine Wr.fun_ok F Zj (by rintro ds Qd ⟨n,b,a,rfl,_⟩;rfl) (λcdv A outer s H E hr ds Qd h=>?_);obtain ⟨ns,bs,as,rfl,hl,hl1,hl2,nb,na,q⟩:=h
 refine ⟨_,(Wr.s_cons (Wr.s_set 3 Zj.nd (Wr.e_call Yi hr (Wr.a_cons (Wr.e_var 1) Wr.a_nil))) (Wr.s_cons (Wr.s_set 4 Zj.nd (Wr.e_call Yi hr (Wr.a_cons (Wr.e_var 2) Wr.a_nil))) (Wr.s_cons (Wr.s_setN 5 Zj.nd (Wr.n_lst Wr.a_nil)) (Wr.s_cons (Wr.s_forL PassesOwn.never rfl (Wr.e_var 0) (Wr.g_tup (n:=2) rfl (Wr.gs_cons (Wr.g_name 6 Zj.nd) (Wr.gs_cons (Wr.g_name 7 Zj.nd) Wr.gs_nil))) (Wr.s_cons (Wr.s_set 8 Zj.nd (Wr.e_dget1 (hu_of hr) (Wr.b_var 3) (Wr.e_tup (Wr.a_cons (Wr.e_var 6) (Wr.a_cons (Wr.e_var 7) Wr.a_nil))))) (Wr.s_cons (Wr.s_set 9 Zj.nd (Wr.e_dget1 (hu_of hr) (Wr.b_var 4) (Wr.e_tup (Wr.a_cons (Wr.e_var 6) (Wr.a_cons (Wr.e_var 7) Wr.a_nil))))) (Wr.s_one (Wr.s_if (Wr.t_cmp (Xdz hr.units) Xcm (Wr.b_var 8) (Wr.b_var 9) (Xam _)) (Wr.s_one (Wr.s_app 5 (Wr.e_tup (Wr.a_cons (Wr.e_var 6) (Wr.a_cons (Wr.e_var 7) (Wr.a_cons (Wr.e_var 8) (Wr.a_cons (Wr.e_var 9) Wr.a_nil)))))))
   Wr.s_nil))))) (Wr.s_one (Wr.s_retO 5)))))),?_⟩
 refine ⟨bs,rfl,hl1,as,rfl,hl2,Nat.zero_le _,?_⟩;refine Xan (λds δ=>∃ (done todo:List (Int × Int)),ds = todo.map nmD /\ ns = done ++ todo /\ δ = [.fr (.lst (ns.map nmD)),.fr (.lst (bs.map Row.d)),.fr (.lst (as.map Row.d)),.fr (.dT (placT bs [])),.fr (.dT (placT as [])),.ow (.lst (Xah (plc bs) (plc as) done)),.un,.un,.un,.un]) ?_ ?_ _ _ ⟨[],ns,rfl,rfl,rfl⟩
 ·rintro δ ⟨done,todo,e,hb,rfl⟩
  cases todo with
  | cons r todo=>cases e
  | nil =>
   rw [List.append_nil] at hb;subst hb;exact q
 ·rintro d r δ L hL ⟨done,todo,e,hb,rfl⟩
  cases todo with
  | nil=>cases e
  | cons n todo =>
   obtain ⟨rfl,rfl⟩:d = nmD n /\ r = todo.map nmD:=by cases e;exact ⟨rfl,rfl⟩
   have hlen:(Xah (plc bs) (plc as) done).length < sizeLine:=by
    have:=Xbo (plc bs) (plc as) done;rw [hb,List.length_append] at hl;exact Xai (by omega)
   have e1:=Xcg nb n.1 n.2;have e2:=Xcg na n.1 n.2;refine ⟨rfl,sz2,[.inl _,.inl _],rfl,sz2,[.inl _,.inl _],rfl,?_⟩;rw [e1];dsimp only;rw [e2];have p1:=Xbk bs (n.1,n.2) 59;have p2:=Xbk as (n.1,n.2) 59;have last:∀ x:List D,x = Xah (plc bs) (plc as) (done ++ [n]) -> L [.fr (.lst (ns.map nmD)),.fr (.lst (bs.map Row.d)),.fr (.lst (as.map Row.d)),.fr (.dT (placT bs [])),.fr (.dT (placT as [])),.ow (.lst x),.fr (.int n.1),.fr (.int n.2),.fr (plc bs (n.1,n.2)),.fr (plc as (n.1,n.2))]:=λx hx=>by
    subst hx;exact hL _ _ ⟨done ++ [n],todo,rfl,by rw [hb];simp,rfl⟩ (by repeat constructor)
   refine if_by (b:=!eqD (plc bs (n.1,n.2)) (plc as (n.1,n.2))) (RdT.eq (λQ q=>⟨p1,p2,q⟩) (by cases eqD (plc bs (n.1,n.2)) (plc as (n.1,n.2)) <;> rfl)) (λhc=>?_) (λhc=>?_)
   ·refine ⟨sz4,hlen,last _ ?_⟩
    rw [Xau];simp only [Xah,List.append_nil];rw [if_neg (λz=>by rw [z] at hc;cases hc)]
   ·refine last _ ?_
    rw [Xau];simp only [Xah,List.append_nil]
    rw [if_pos (by cases z:eqD (plc bs (n.1,n.2)) (plc as (n.1,n.2)) with
     | true=>rfl
     | false=>rw [z] at hc;cases hc),List.append_nil]
def Z1m:Sp2:=λds Q=>∃ (es:List Ent) (n y:Int),ds = [.lst (es.map Ent.d),.int n,.int y] /\ es.length <= 900 /\ Q (.val (.bl (es.any λe=>decide (e.name = (n,y)))))
def Xwy:D -> D
 | .tup [_,a,b,_,_]=>.tup [a,b]
 | d=>d
inductive IsPl:D -> Prop where
 | non:IsPl .non
 | at {w:Str} {d:Int}:IsPl (.tup [.str w,.int d])
theorem Xff (rows:List Row) (nm:Int × Int):IsPl (plc rows nm):=by
 rcases Xjq rows nm with z | ⟨w,d,z⟩ <;> rw [z] <;> constructor
def Z9:Sp2:=λds Q=>∃ (w:Str) (d:Int),ds = [.tup [.str w,.int d]] /\ Q (.val (.bl true))
theorem Z5 {f:Addr} {fd:FuncData} (F:Fun K "_law_is_place" "_law_is_place" Z7 f fd) (Y6:Fn2 P w K mg base 1 "_law_whole" Zx) (z_len:mg "len" = none) (z_isinstance:mg "isinstance" = none) (z_tuple:mg "tuple" = none) (z_str:mg "str" = none)  : FnOk P w K mg base CX0 (1 + 1) f fd ["_law_place"] (Xag K Z9):=by
 refine Wr.fun_ok F Za (by rintro ds Qd ⟨w,d,rfl,_⟩;rfl) (λcdv A outer s H E hr ds Qd h=>?_);obtain ⟨w,d,rfl,q⟩:=h
 refine ⟨_,(Wr.s_cons (Wr.s_if (Wr.PW2_pt (Wr.t_or (Wr.t_not (Wr.t_val (Wr.e_isi (Xfk _) z_isinstance z_tuple (Wr.b_var 0)))) (Wr.t_or1 (Wr.t_cmp op_ne Xni (Wr.PE2_bo (Wr.e_len z_len (Wr.ab_cons (Wr.b_var 0) Wr.ab_nil))) (Wr.PE2_bo (Wr.e_int)) (Xam _))))) (Wr.s_one (Wr.s_ret (Wr.e_bl)))
   Wr.s_nil) (Wr.s_one (Wr.s_ret (Wr.e_and (Wr.e_isi (Xpu _) z_isinstance z_str (Wr.PE2_bo (Wr.e_ix (Wr.b_var 0) (Wr.PE2_bo (Wr.e_int))))) (Wr.e_one (Wr.e_call Y6 hr (Wr.a_cons (Wr.e_ix (Wr.b_var 0) (Wr.PE2_bo (Wr.e_int))) Wr.a_nil))))))),?_⟩
 refine if_f (or_ff (Xck (b1:=true) (λQ q=>q)) (RdT.eq (λQ q=>q) rfl)) ?_;have fin:RdE (rAndV (rIsi "str" (rOp dIx (rVarB 0) (rC (.int 0)))) (rCall Zx (rCons (rOp dIx (rVarB 0) (rC (.int 1))) rNil))) [.fr (.tup [.str w,.int d])] (.bl true):=Xjf (λQ q=>⟨_,rfl,q⟩) (λQ q=>⟨_,rfl,_,rfl,q⟩);exact fin _ q
def AreT (ts:List D):Prop:=∀ t ∈ ts,∃ (n y:Int) (b a:D),t = .tup [.int n,.int y,b,a] /\ IsPl b /\ IsPl a
theorem Xcv {b a:Int × Int -> D} (hb:∀ n,IsPl (b n)) (ha:∀ n,IsPl (a n)):∀ ns,AreT (Xah b a ns)
 | []=>λ_ z=>nomatch z
 | n :: ns=>λt ht=>by
  simp only [Xah] at ht
  rcases List.mem_append.mp ht with z | z
  ·split at z
   ·cases z
   ·have : t = .tup [.int n.1,.int n.2,b n,a n]:=by simpa using z
    exact ⟨_,_,_,_,this,hb n,ha n⟩
  ·exact Xcv hb ha ns t z
def Z1:Sp2:=λds Q=>∃ ts:List D,ds = [.lst ts] /\ AreT ts /\ Q (.val (.bl true))
theorem Z0 {f:Addr} {fd:FuncData} (F:Fun K "_law_are_turns" "_law_are_turns" Z2 f fd) (Y6:Fn2 P w K mg base 2 "_law_whole" Zx) (Y1:Fn2 P w K mg base 2 "_law_is_place" Z9) (z_isinstance:mg "isinstance" = none) (z_list:mg "list" = none) (z_len:mg "len" = none) (z_tuple:mg "tuple" = none)  : FnOk P w K mg base CX0 (2 + 1) f fd ["_law_found"] (Xag K Z1):=by
 refine Wr.fun_ok F Z3 (by rintro ds Qd ⟨t,rfl,_⟩;rfl) (λcdv A outer s H E hr ds Qd h=>?_);obtain ⟨ts,rfl,ht,q⟩:=h
 refine ⟨_,(Wr.s_cons (Wr.s_if (Wr.t_not (Wr.t_val (Wr.e_isi (Xnr _) z_isinstance z_list (Wr.b_var 0)))) (Wr.s_one (Wr.s_ret (Wr.e_bl)))
   Wr.s_nil) (Wr.s_cons (Wr.s_forL PassesOwn.never rfl (Wr.e_var 0) (Wr.g_name 1 Z3.nd) (Wr.s_cons (Wr.s_if (Wr.PW2_pt (Wr.t_or (Wr.t_not (Wr.t_val (Wr.e_isi (Xfk _) z_isinstance z_tuple (Wr.b_var 1)))) (Wr.t_or1 (Wr.t_cmp op_ne Xni (Wr.PE2_bo (Wr.e_len z_len (Wr.ab_cons (Wr.b_var 1) Wr.ab_nil))) (Wr.PE2_bo (Wr.e_int)) (Xam _))))) (Wr.s_one (Wr.s_ret (Wr.e_bl)))
   Wr.s_nil) (Wr.s_cons (Wr.s_if (Wr.PW2_pt (Wr.t_or (Wr.t_not (Wr.t_val (Wr.e_call Y6 hr (Wr.a_cons (Wr.e_ix (Wr.b_var 1) (Wr.PE2_bo (Wr.e_int))) Wr.a_nil)))) (Wr.t_or1 (Wr.t_not (Wr.t_val (Wr.e_call Y6 hr (Wr.a_cons (Wr.e_ix (Wr.b_var 1) (Wr.PE2_bo (Wr.e_int))) Wr.a_nil))))))) (Wr.s_one (Wr.s_ret (Wr.e_bl)))
   Wr.s_nil) (Wr.s_one (Wr.s_forT PassesOwn.never rfl (Wr.e_tup (Wr.a_cons (Wr.e_ix (Wr.b_var 1) (Wr.PE2_bo (Wr.e_int))) (Wr.a_cons (Wr.e_ix (Wr.b_var 1) (Wr.PE2_bo (Wr.e_int))) Wr.a_nil))) (Wr.g_name 2 Z3.nd) (Wr.s_one (Wr.s_if (Wr.PW2_pt (Wr.t_and (Wr.t_cmp Xio Xir (Wr.b_var 2) (Wr.PE2_bo (Wr.e_non)) (Xam _)) (Wr.t_and1 (Wr.t_not (Wr.t_val (Wr.e_call Y1 hr (Wr.a_cons (Wr.e_var 2) Wr.a_nil))))))) (Wr.s_one (Wr.s_ret (Wr.e_bl)))
   Wr.s_nil))))))) (Wr.s_one (Wr.s_ret (Wr.e_bl))))),?_⟩
 refine if_f (Xck (b1:=true) (λQ q=>q)) ?_;refine Xan (λds δ=>AreT ds /\ δ = [.fr (.lst ts),.un,.un]) ?_ ?_ _ _ ⟨ht,rfl⟩
 ·rintro δ ⟨_,rfl⟩
  exact q
 ·rintro d r δ L hL ⟨hds,rfl⟩
  obtain ⟨n,y,b,a,rfl,hb,ha⟩:=hds d (.head _);refine if_f (or_ff (Xck (b1:=true) (λQ q=>q)) (RdT.eq (λQ q=>q) rfl)) ?_;refine if_f (or_ff (Xck (b1:=true) (λQ q=>⟨_,rfl,_,rfl,q⟩)) (Xck (b1:=true) (λQ q=>⟨_,rfl,_,rfl,q⟩))) ?_;refine ⟨_,rfl,_,rfl,sz2,?_⟩;refine Xan (λds δ=>(∀ x ∈ ds,IsPl x) /\ δ = [.fr (.lst ts),.fr (.tup [.int n,.int y,b,a]),.un]) ?_ ?_ _ _ ⟨λx hx=>?_,rfl⟩
  ·rintro δ ⟨_,rfl⟩
   exact hL _ _ ⟨λt h=>hds t (.tail _ h),rfl⟩ (by repeat constructor)
  ·rintro d2 r2 δ L2 hL2 ⟨hx,rfl⟩
   have go:L2 [.fr (.lst ts),.fr (.tup [.int n,.int y,b,a]),.fr d2]:=hL2 _ _ ⟨λx h=>hx x (.tail _ h),rfl⟩ (by repeat constructor)
   cases hx d2 (.head _) with
   | non=>exact if_f (and_f (RdT.eq (λQ q=>q) rfl)) go
   | «at» => exact if_f (Xdm (b1:=true) (b2:=false) (RdT.eq (λQ q=>q) rfl) (λ_=>Xck (b1:=true) (λQ q=>⟨_,_,rfl,q⟩))) go
  ·simp only [List.mem_cons,List.not_mem_nil,or_false] at hx
   rcases hx with rfl | rfl
   ·exact hb
   ·exact ha
def Z4:Sp2:=λds Q=>∃ (rows:List Row) (ts:List D),ds = [.tup [.lst (rows.map Row.d),.lst ts]] /\ AreT ts /\ Q (.val (.bl true))
def Zu:Sp2:=λds Q=>∃ (ns:List Int) (most:Nat),ds = [.lst (ns.map D.int),.int most] /\ ns.length <= 63 /\ ∀ A one B kvs,Ents (A ++ one :: B) 80 -> Shut kvs 40 -> Q (.val (.tup [.lst ((A ++ B).map Ent.d),.dK kvs,one.d]))
theorem Names.perm {es os:List Ent} (h:Names es) (p:os.Perm es):Names os:=(p.map _).nodup_iff.mpr h
def notNm (n y:Int):D -> Bool
 | .tup [_,.int a,.int b,_,_]=>!(eqD (.tup [.int a,.int b]) (.tup [.int n,.int y]))
 | _=>false
theorem Laid.nodup {kvs:List (Key × D)} {held h2:List Int} {es os:List Ent} {rows:List Row} (l:Laid kvs held os rows h2) (ho:Ordd es os) (hn:Names es):(rows.map Row.name).Nodup:=by rw [l.names];exact hn.perm ho.perm
def Z28:Sp2:=λds Q=>∃ (es:List Ent) (kvs:List (Key × D)) (n y:Int),ds = [.lst (es.map Ent.d),.dK kvs,.int n,.int y] /\ Names es /\ es.length <= 400 /\ Bounds kvs /\ kvs.length <= 5000000 /\ (∃ e ∈ es,e.name = (n,y)) /\
 ∀ os os2 rows rows2 h1 h2,Ordd es os2 -> Ordd (es.filter λe=>!decide (e.name = (n,y))) os -> Laid kvs [] os2 rows2 h2 -> Laid kvs [] os rows h1 -> Q (.val (.tup [.lst (rows.map Row.d),.lst (Xah (plc rows2) (plc rows) (rows2.map Row.name))]))
def Z32:Sp2:=λds Q=>∃ (es:List Ent) (kvs:List (Key × D)) (one:Ent),ds = [.lst (es.map Ent.d),.dK kvs,one.d] /\ Names (es ++ [one]) /\ es.length <= 300 /\ Bounds kvs /\ kvs.length <= 5000000 /\
 ∀ os os2 rows rows2 h1 h2,Ordd es os -> Ordd (es ++ [one]) os2 -> Laid kvs [] os rows h1 -> Laid kvs [] os2 rows2 h2 -> Q (.val (.tup [.lst (rows2.map Row.d),.lst (Xah (plc rows) (plc rows2) (rows2.map Row.name))]))
theorem hu9 {k:Nat} {A:Around} (hr:Room k A):A.units + 9 < cLine:=by have:=hr.un;omega
section
variable {X:Cx} {H0:Hp} {e a b:Expr} {te ta tb:RE} {p p2 p3 pos pos2 pos3 bpos:Pos}
theorem Xlu (hc:X.calm = true) (hu:X.A.units + 9 < cLine) (hm:X.mg "sorted" = none) (hm2:X.mg "set" = none) (ha:QB X H0 e te) (hg:Gl X "sorted" := by rfl) (hg2:Gl X "set" := by rfl)
 (he:starEach [e] X.env = (false,eval e X.env) :: starEach [] X.env:=by rfl) (hpl:(backTo pos2 (starEach [] X.env)).any (·.1) = false:=by rfl)
 (he2:starEach [.Call (.Name "set" p2) [e] [] pos2] X.env = (false,eval (.Call (.Name "set" p2) [e] [] pos2) X.env) :: starEach [] X.env:=by rfl) (hpl2:(backTo pos (starEach [] X.env)).any (·.1) = false:=by rfl) :
 QN X H0 (.Call (.Name "sorted" p) [.Call (.Name "set" p2) [e] [] pos2] [] pos) (Xjm te):=⟨Xne hc hu hm hm2 ha.run hg hg2 he hpl he2 hpl2⟩
theorem Xlt (hc:X.calm = true) (hu:X.A.units + 9 < cLine) (hm:X.mg "sorted" = none) (hm2:X.mg "set" = none) (ha:QB X H0 a ta) (hb:QB X H0 b tb) (hg:Gl X "sorted" := by rfl) (hg2:Gl X "set" := by rfl)
 (he:starEach [a] X.env = (false,eval a X.env) :: starEach [] X.env:=by rfl) (hpl:(backTo pos2 (starEach [] X.env)).any (·.1) = false:=by rfl)
 (heb:starEach [b] X.env = (false,eval b X.env) :: starEach [] X.env:=by rfl) (hplb:(backTo pos3 (starEach [] X.env)).any (·.1) = false:=by rfl)
 (he2:starEach [.BinOp (.Call (.Name "set" p2) [a] [] pos2) .BitOr (.Call (.Name "set" p3) [b] [] pos3) bpos] X.env = (false,eval (.BinOp (.Call (.Name "set" p2) [a] [] pos2) .BitOr (.Call (.Name "set" p3) [b] [] pos3) bpos) X.env) :: starEach [] X.env:=by rfl) (hpl2:(backTo pos (starEach [] X.env)).any (·.1) = false:=by rfl) :
 QN X H0 (.Call (.Name "sorted" p) [.BinOp (.Call (.Name "set" p2) [a] [] pos2) .BitOr (.Call (.Name "set" p3) [b] [] pos3) bpos] [] pos) (Xjl ta tb):=⟨Xnd hc hu hm hm2 ha.run hb.run hg hg2 he hpl heb hplb he2 hpl2⟩
theorem Xlv {es:List Expr} {tr:RA} (hc:X.calm = true) (hm:X.mg "list" = none) (ha:QAB X H0 (e :: es) tr) (hg:Gl X "list" := by rfl)
 (he:starEach (e :: es) X.env = (false,eval e X.env) :: starEach es X.env:=by rfl) (hpl:(backTo pos (starEach es X.env)).any (·.1) = false:=by rfl):QN X H0 (.Call (.Name "list" p) (e :: es) [] pos) (rCB Xkm tr):=⟨Xsx hc hm ha.run hg he hpl⟩
end
def nmK (p:Int × Int):List Int:=[p.1,p.2]
theorem Xgg (ns:List (Int × Int)):ns.map nmD = (ns.map nmK).map tD:=by rw [List.map_map];rfl
theorem Xsw {p q:Int × Int} (h:nmK p = nmK q):p = q:=by
 injection h with h1 h2
 injection h2 with h2 _
 exact Prod.ext h1 h2
theorem Xrd:∀ (ms:List (List Int)),(∀ k ∈ ms,∃ p:Int × Int,k = nmK p) -> ∃ ns:List (Int × Int),ms = ns.map nmK
 | [],_=>⟨[],rfl⟩
 | k :: ms,h=>by
  obtain ⟨p,rfl⟩:=h k (List.mem_cons_self ..);obtain ⟨ns,rfl⟩:=Xrd ms λx hx=>h x (List.mem_cons_of_mem _ hx)
  exact ⟨p :: ns,rfl⟩
def NamesOf (bs as ns:List (Int × Int)):Prop:=ns.Nodup /\ (∀ n,n ∈ ns ↔ n ∈ bs \/ n ∈ as) /\ (ns.map nmK).Pairwise λx y=>HT.lexLt y x = false
theorem Xdi {bs as:List (Int × Int)} {ms:List (List Int)} (h:Xgr (bs.map nmK ++ as.map nmK) ms):∃ ns,ms = ns.map nmK /\ NamesOf bs as ns:=by
 obtain ⟨nd,mem,pw⟩:=h;obtain ⟨ns,rfl⟩:=Xrd ms λk hk=>by
  rcases List.mem_append.mp ((mem k).mp hk) with z | z
  ·obtain ⟨p,_,rfl⟩:=List.mem_map.mp z;exact ⟨p,rfl⟩
  ·obtain ⟨p,_,rfl⟩:=List.mem_map.mp z;exact ⟨p,rfl⟩
 have mi:∀ (l:List (Int × Int)) (n:Int × Int),nmK n ∈ l.map nmK ↔ n ∈ l:=λl n=>by
  constructor
  ·intro z;obtain ⟨p,hp,e⟩:=List.mem_map.mp z;rw [<- Xsw e];exact hp
  ·intro z;exact List.mem_map.mpr ⟨n,z,rfl⟩
 refine ⟨ns,rfl,?_,λn=>?_,pw⟩
 ·rw [List.Nodup,List.pairwise_map] at nd
  exact nd.imp λ{a b} z e=>z (by rw [e])
 ·rw [<- mi ns n,mem,List.mem_append,mi,mi]
def Z2t:Sp2:=λds Q=>∃ (bs as:List Row),ds = [.lst (bs.map Row.d),.lst (as.map Row.d)] /\ bs.length < 120 /\ as.length < 120 /\ (bs.map Row.name).Nodup /\ (as.map Row.name).Nodup /\ ∀ ns,NamesOf (bs.map Row.name) (as.map Row.name) ns -> ns.length <= 900 -> Q (.new (.lst (Xah (plc bs) (plc as) ns)))
theorem Xea {bs as ns:List (Int × Int)} (h:NamesOf bs as ns):ns.length <= bs.length + as.length:=by
 have : ns.length <= (bs ++ as).length:=by
  have key:∀ (l m:List (Int × Int)),l.Nodup -> (∀ x ∈ l,x ∈ m) -> l.length <= m.length:=by
   intro l
   induction l with
   | nil=>intro m _ _;exact Nat.zero_le _
   | cons x l ih =>
    intro m nd hm;rw [List.nodup_cons] at nd;have hx:=hm x (List.mem_cons_self ..);have:=ih (m.erase x) nd.2 λy hy=>(List.mem_erase_of_ne (λz:y = x=>nd.1 (by rw [<- z];exact hy))).mpr (hm y (List.mem_cons_of_mem _ hy))
    rw [List.length_erase_of_mem hx] at this;have:=List.length_pos_of_mem hx;rw [List.length_cons];omega
  exact key _ _ h.1 λx hx=>List.mem_append.mpr ((h.2.1 x).mp hx)
 rwa [List.length_append] at this
theorem Z2y {f:Addr} {fd:FuncData} (F:Fun K "turned" "turned" Z34 f fd) (Ye:Fn2 P w K mg base 2 "names_of" Z29) (Y4:Fn2 P w K mg base 2 "turns_among" Zo) (z_sorted:mg "sorted" = none) (z_set:mg "set" = none)  : FnOk P w K mg base CX0 (2 + 1) f fd ["befores", "afters"] (Xag K Z2t):=by
 refine Wr.fun_ok F Z31 (by rintro ds Qd ⟨b,a,rfl,_⟩;rfl) (λcdv A outer s H E hr ds Qd h=>?_);obtain ⟨bs,as,rfl,hl1,hl2,nb,na,q⟩:=h
 refine ⟨_,(Wr.s_cons (Wr.s_set 2 Z31.nd (Wr.PN2_fx (Xlt rfl (hu9 hr) z_sorted z_set (Wr.PE2_bo (Wr.e_call Ye hr (Wr.a_cons (Wr.e_var 0) Wr.a_nil))) (Wr.PE2_bo (Wr.e_call Ye hr (Wr.a_cons (Wr.e_var 1) Wr.a_nil)))))) (Wr.s_one (Wr.s_retN (Wr.n_call Y4 hr (Wr.a_cons (Wr.e_var 2) (Wr.a_cons (Wr.e_var 0) (Wr.a_cons (Wr.e_var 1) Wr.a_nil))))))),?_⟩
 refine ⟨bs,rfl,by omega,(bs.map Row.name).map nmK,2,by rw [Xgg],by simpa using hl1,λk hk=>by obtain ⟨p,_,rfl⟩:=List.mem_map.mp hk;rfl,by decide,as,rfl,by omega,(as.map Row.name).map nmK,by rw [Xgg],by simpa using hl2,λk hk=>by obtain ⟨p,_,rfl⟩:=List.mem_map.mp hk;rfl,λms hms=>?_⟩;obtain ⟨ns,rfl,hn⟩:=Xdi hms;have ln:=Xea hn;simp only [List.length_map] at ln;rw [<- Xgg];exact ⟨ns,bs,as,rfl,by omega,by omega,by omega,nb,na,q ns hn (by omega)⟩
section
variable {X:Cx} {H0:Hp} {a e elt t1 i1 t2 i2:Expr} {es:List Expr} {te te2 tel:RE} {tr:RA} {g1 g2:RGp} {nT:Nat} {scope:Scope} {N':List Str} {pos p:Pos}
theorem Xig {y:Str} {py spos:Pos} (i:Nat) (hNd:X.N.Nodup) (ok:CompOk X scope nT N') (hi:QE X H0 i1 te) (hg1:∀ s3 H3 C cl fp,QGp (compX X scope N' s3 H3 C cl fp) H0 nT t1 g1) (hi2:∀ s3 H3 C cl fp,QE (compX X scope N' s3 H3 C cl fp) H0 i2 te2) (hg2:∀ s3 H3 C cl fp,QGp (compX X scope N' s3 H3 C cl fp) H0 nT t2 g2) (hel:∀ s3 H3 C cl fp,QE (compX X scope N' s3 H3 C cl fp) H0 elt tel)
 (hN:X.N[i]? = some y:=by rfl) (hx:Loc X.env.scope y:=by first | exact Or.inl rfl | exact Or.inr rfl) (hf:X.fn y = true \/ X.env.scope.names.lookup y = some .local:=by first | exact .inl rfl | exact .inr rfl | assumption)
 (hs:∀ x,foldedSetIterable i1 X.env x = pure x:=by intro _;rfl) (hs2:∀ env x,foldedSetIterable i2 env x = pure x:=by intro _ _;rfl) (hsw:swapsWith (comp2 elt t1 i1 t2 i2 scope pos) (some (.Name y py)) spos.line X.env = pure true:=by rfl) :
 QS X H0 (.Assign [.Name y py] (comp2 elt t1 i1 t2 i2 scope pos) spos) (Xfe i nT te g1 te2 g2 tel):=⟨Xij i hNd ok hi.run (λa b c d e=>(hg1 a b c d e).run) (λa b c d e=>(hi2 a b c d e).run) (λa b c d e=>(hg2 a b c d e).run) (λa b c d e=>(hel a b c d e).run) hN hx hf hs hs2 hsw⟩
theorem Xrq {target iter:Expr} {ifs:List Expr} {tc:RT} {g:RGp} (ok:CompOk X scope nT N') (hi:QE X H0 iter te) (hg:∀ s3 H3 C cl fp,QGp (compX X scope N' s3 H3 C cl fp) H0 nT target g) (hif:∀ s3 H3 C cl fp,QIf (compX X scope N' s3 H3 C cl fp) H0 ifs tc) (hel:∀ s3 H3 C cl fp,QE (compX X scope N' s3 H3 C cl fp) H0 elt tel)
 (hs:∀ x,foldedSetIterable iter X.env x = pure x:=by intro _;rfl):QN X H0 (.ListComp elt [⟨target,iter,ifs,0⟩] scope pos) (Xqv nT te g tc tel):=⟨Xsy ok hi.run (λa b c d e=>(hg a b c d e).run) (λa b c d e=>(hif a b c d e).run) (λa b c d e=>(hel a b c d e).run) hs⟩
theorem w_tru (ha:QE X H0 a te) (he:∀ whole,isTrue a X.env whole = (do let v <- whole;standAt a.pos;holding [v] (truthy v)):=by intro _;rfl):QT X H0 a (rTruL te):=⟨t_tru ha.run he⟩
theorem Xqk (hc:X.calm = true) (hm:X.mg "min" = none) (ha:QAB X H0 (e :: es) tr) (hg:Gl X "min" := by rfl)
 (he:starEach (e :: es) X.env = (false,eval e X.env) :: starEach es X.env:=by rfl) (hpl:(backTo pos (starEach es X.env)).any (·.1) = false:=by rfl):QE X H0 (.Call (.Name "min" p) (e :: es) [] pos) (rCB dMin tr):=⟨Xws hc hm ha.run hg he hpl⟩
theorem Xql (hc:X.calm = true) (hm:X.mg "max" = none) (ha:QAB X H0 (e :: es) tr) (hg:Gl X "max" := by rfl)
 (he:starEach (e :: es) X.env = (false,eval e X.env) :: starEach es X.env:=by rfl) (hpl:(backTo pos (starEach es X.env)).any (·.1) = false:=by rfl):QE X H0 (.Call (.Name "max" p) (e :: es) [] pos) (rCB dMax tr):=⟨Xwt hc hm ha.run hg he hpl⟩
end
inductive Pl3:D -> Prop where
 | non:Pl3 .non
 | st {d:Int}:Pl3 (.tup [.str "stands", .int d])
 | nt {d:Int}:Pl3 (.tup [.str "noted", .int d])
 | ou {d:Int}:Pl3 (.tup [.str "out", .int d])
def T3 (ts:List D):Prop:=∀ t ∈ ts,∃ (n y:Int) (b a:D),t = .tup [.int n,.int y,b,a] /\ Pl3 b /\ Pl3 a
def plDay:D -> List Int
 | .tup [.str w,.int d]=>if w = ("out" : Str) then [] else [d]
 | _=>[]
def tnDay:D -> List Int
 | .tup [_,_,b,a]=>plDay b ++ plDay a
 | _=>[]
def Xbb:List D -> List Int
 | []=>[]
 | t :: ts=>tnDay t ++ Xbb ts
def plP:D -> Bool
 | .tup [.str w,.int _]=>!decide (w = ("out" : Str))
 | _=>false
def plF:D -> D
 | .tup [_,d]=>d
 | d=>d
theorem Xpi {b a:D} (hb:Pl3 b) (ha:Pl3 a):([b,a].filter plP).map plF = (plDay b ++ plDay a).map D.int:=by
 cases hb <;> cases ha <;> rfl
theorem Xhg {b:D} (hb:Pl3 b):(plDay b).length <= 1:=by
 cases hb with
 | non=>exact Nat.zero_le _
 | st=>exact Nat.le_refl 1
 | nt=>exact Nat.le_refl 1
 | ou=>exact Nat.zero_le _
def Z2l:Sp2:=λds Q=>∃ (n y:Int) (b a:D),ds = [.tup [.int n,.int y,b,a]] /\ Pl3 b /\ Pl3 a /\ Q (.new (.lst ((plDay b ++ plDay a).map D.int)))
theorem Z2h {f:Addr} {fd:FuncData} (F:Fun K "days_of" "days_of" Z2o f fd)   : FnOk P w K mg base CX0 (0 + 1) f fd ["turn"] (Xag K Z2l):=by
 refine Wr.fun_ok F Z2m (by rintro ds Qd ⟨n,y,b,a,rfl,_⟩;rfl) (λcdv A outer s H E hr ds Qd h=>?_);obtain ⟨n,y,b,a,rfl,hb,ha,q⟩:=h
 refine ⟨_,(Wr.s_cons (Wr.s_asg (Wr.e_var 0) (Wr.g_tup (n:=4) rfl (Wr.gs_cons (Wr.g_name 1 Z2m.nd) (Wr.gs_cons (Wr.g_name 2 Z2m.nd) (Wr.gs_cons (Wr.g_name 3 Z2m.nd) (Wr.gs_cons (Wr.g_name 4 Z2m.nd) Wr.gs_nil)))))) (Wr.s_one (Wr.s_retN (Xrq (nT:=1) (N':=["place", "0acc", "0turn", "0number", "0year", "0before", "0after"]) (Xbm (Xab Z2o) (N:=Z2v) rfl rfl rfl (by decide +kernel)) (Wr.e_tup (Wr.a_cons (Wr.e_var 3) (Wr.a_cons (Wr.e_var 4) Wr.a_nil))) (λ_ _ _ _ _=>(Wr.gp_name 0 (by decide) Z15)) (λ_ _ _ _ _=>(Wr.if_one (Wr.PW2_pt (Wr.t_and (Wr.t_cmp Xio Xir (Wr.b_var 0) (Wr.PE2_bo (Wr.e_non)) (Xam _)) (Wr.t_and1 (Wr.t_cmp op_ne Xni (Wr.PE2_bo (Wr.e_ix (Wr.b_var 0) (Wr.PE2_bo (Wr.e_int)))) (Wr.PE2_bo (Wr.e_str)) (Xam _))))))) (λ_ _ _ _ _=>(Wr.e_ix (Wr.b_var 0) (Wr.PE2_bo (Wr.e_int)))))))),?_⟩
 refine ⟨rfl,sz2,?_⟩;refine Xcs (p:=plP) (f:=plF) [b,a] _ [] sz2 (λx hx acc=>?_) (λx hx hp acc=>?_) ?_
 ·have hx:Pl3 x:=by
   simp only [List.mem_cons,List.not_mem_nil,or_false] at hx
   rcases hx with rfl | rfl
   ·exact hb
   ·exact ha
  cases hx with
  | non=>exact and_f (RdT.eq (λQ q=>q) rfl)
  | st=>exact Xdm (b1:=true) (b2:=true) (RdT.eq (λQ q=>q) rfl) (λ_=>RdT.eq (λQ q=>⟨_,rfl,q⟩) rfl)
  | nt=>exact Xdm (b1:=true) (b2:=true) (RdT.eq (λQ q=>q) rfl) (λ_=>RdT.eq (λQ q=>⟨_,rfl,q⟩) rfl)
  | ou=>exact Xdm (b1:=true) (b2:=false) (RdT.eq (λQ q=>q) rfl) (λ_=>RdT.eq (λQ q=>⟨_,rfl,q⟩) rfl)
 ·have hx:Pl3 x:=by
   simp only [List.mem_cons,List.not_mem_nil,or_false] at hx
   rcases hx with rfl | rfl
   ·exact hb
   ·exact ha
  cases hx with
  | non=>cases hp
  | st=>exact λQ q=>⟨_,rfl,q⟩
  | nt=>exact λQ q=>⟨_,rfl,q⟩
  | ou=>exact λQ q=>⟨_,rfl,q⟩
 ·rw [List.nil_append,Xpi hb ha]
  exact q
inductive Ends (xs:List Int):D -> Prop where
 | non (h:xs = []):Ends xs .non
 | two {m M:Int} (h1:m ∈ xs) (h2:M ∈ xs) (h3:∀ x ∈ xs,m <= x) (h4:∀ x ∈ xs,x <= M):Ends xs (.tup [.int m,.int M])
theorem Ends.uniq {xs ys:List Int} {r r':D} (h:Ends xs r) (h':Ends ys r') (e:∀ x,x ∈ xs ↔ x ∈ ys):r = r':=by
 cases h with
 | non h =>
  cases h' with
  | non=>rfl
  | two a=>have:=(e _).mpr a;rw [h] at this;cases this
 | two a b c d =>
  cases h' with
  | non h=>have:=(e _).mp a;rw [h] at this;cases this
  | two a' b' c' d' =>
   have e1:=c _ ((e _).mpr a');have e2:=c' _ ((e _).mp a);have e3:=d _ ((e _).mpr b');have e4:=d' _ ((e _).mp b);rw [show _ = _ from Int.le_antisymm e1 e2,show _ = _ from Int.le_antisymm e4 e3]
def Z2k:Sp2:=λds Q=>∃ ts:List D,ds = [.lst ts] /\ T3 ts /\ ts.length <= 400 /\ ∀ r,Ends (Xbb ts) r -> Q (.val r)
theorem Z2g {f:Addr} {fd:FuncData} (F:Fun K "stretch" "stretch" Z2j f fd) (Yh:Fn2 P w K mg base 1 "days_of" Z2l) (z_max:mg "max" = none) (z_min:mg "min" = none)  : FnOk P w K mg base CX0 (1 + 1) f fd ["turns"] (Xag K Z2k):=by
 refine Wr.fun_ok F Z2i (by rintro ds Qd ⟨n,rfl,_⟩;rfl) (λcdv A outer s H E hr ds Qd h=>?_);obtain ⟨ts,rfl,ht,hlen,q⟩:=h
 have h_tail:∃ t,QSs (cxOf CX0 P w K mg base Z2w "stretch" (Xab Z2j) f cdv A outer s H E).nox H ((Xax Z2j).drop 1) t /\ ∀ (xs:List Int),(∀ r,Ends xs r -> Qd (.val r)) ->
   t { nx:=λ_=>Qd (.val .non),rt:=λr _=>Qd r } [.fr (.lst ts),.fr (.lst (xs.map D.int))]:=by
  refine ⟨_,(Wr.s_cons (Wr.s_if (Wr.t_not (w_tru (Wr.e_var 1))) (Wr.s_one (Wr.s_ret (Wr.e_non)))
   Wr.s_nil) (Wr.s_one (Wr.s_ret (Wr.e_tup (Wr.a_cons (Xqk rfl z_min (Wr.ab_cons (Wr.b_var 1) Wr.ab_nil)) (Wr.a_cons (Xql rfl z_max (Wr.ab_cons (Wr.b_var 1) Wr.ab_nil)) Wr.a_nil)))))),?_⟩
  intro xs q
  cases xs with
  | nil=>exact if_t (Xck (b1:=false) (λQ q=>q)) (q _ (.non rfl))
  | cons x xs =>
   refine if_f (Xck (b1:=true) (λQ q=>q)) ?_;exact ⟨x :: xs,rfl,Nat.succ_pos _,λm h1 h3=>⟨x :: xs,rfl,Nat.succ_pos _,λM h2 h4=>⟨sz2,q _ (.two h1 h2 h3 h4)⟩⟩⟩
 obtain ⟨t1,h_rest,h_tail⟩:=h_tail
 refine ⟨_,(Wr.s_cons (Xig 1 Z2i.nd (nT:=2) (N':=["turn", "day", "0acc", "0turns", "0days"]) (Xbm (Xab Z2j) (N:=Z2w) rfl rfl rfl (by decide +kernel)) (Wr.e_var 0) (λ_ _ _ _ _=>(Wr.gp_name 0 (by decide) Z1o)) (λ_ _ _ _ _=>(Wr.e_call Yh hr (Wr.a_cons (Wr.e_var 0) Wr.a_nil))) (λ_ _ _ _ _=>(Wr.gp_name 1 (by decide) Z1o)) (λ_ _ _ _ _=>(Wr.e_var 1)))
   h_rest),?_⟩
 have inn:∀ (xs:List Int) (s1 s2:Sl) (acc:List D) (K:List Sl -> List D -> Prop),acc.length + xs.length <= 900 -> (∀ s2',K [s1,s2'] (acc ++ xs.map D.int)) -> innD (gpSet 1) (rVar 1) [.fr (.lst ts),.un] (xs.map D.int) [s1,s2] acc K:=by
  intro xs
  induction xs with
  | nil=>intro s1 s2 acc K _ k;have:=k s2;rw [List.map_nil,List.append_nil] at this;exact this
  | cons x xs ih =>
   intro s1 s2 acc K hl k;rw [List.length_cons] at hl;exact ⟨Xai (by omega),ih _ _ _ K (by rw [List.length_append];show acc.length + 1 + xs.length <= 900;omega) (λs2'=>by rw [List.append_assoc];exact k s2')⟩
 have key:∀ (us:List D) (s1 s2:Sl) (acc:List D) (Q:List D -> Prop),T3 us -> acc.length + 2 * us.length <= 900 -> Q (acc ++ (Xbb us).map D.int) -> Xfs (gpSet 0) (rCall Z2l (rCons (rVar 0) rNil)) (gpSet 1) (rVar 1) [.fr (.lst ts),.un] us [s1,s2] acc Q:=by
  intro us
  induction us with
  | nil=>intro s1 s2 acc Q _ _ q;rw [show Xbb [] = [] from rfl,List.map_nil,List.append_nil] at q;exact q
  | cons u us ih =>
   intro s1 s2 acc Q h3 hl q;obtain ⟨n,y,b,a,rfl,hb,ha⟩:=h3 u (.head _);rw [List.length_cons] at hl;have l1:=Xhg hb;have l2:=Xhg ha;refine ⟨n,y,b,a,rfl,hb,ha,?_⟩;refine inn _ _ _ _ _ (by rw [List.length_append];omega) (λs2'=>?_);refine ih _ _ _ Q (λt ht=>h3 t (.tail _ ht)) (by rw [List.length_append,List.length_map,List.length_append];omega) ?_;rw [List.append_assoc,<- List.map_append];exact q
 refine key ts .un .un [] _ ht (by rw [List.length_nil];omega) ?_;rw [List.nil_append];exact h_tail _ q
def Xbt:List D -> List Int
 | []=>[]
 | x :: xs=>plDay x ++ Xbt xs
def Z16:Sp2:=λds Q=>∃ ts:List D,ds = [.lst ts] /\ T3 ts /\ ts.length <= 400 /\ ∀ r,Ends (Xbb ts) r -> Q (.val r)
theorem Z1n {f:Addr} {fd:FuncData} (F:Fun K "_law_ends" "_law_ends" Z1f f fd)  (z_len:mg "len" = none) (z_max:mg "max" = none) (z_min:mg "min" = none)  : FnOk P w K mg base CX0 (0 + 1) f fd ["_law_turns"] (Xag K Z16):=by
 refine Wr.fun_ok F Z1j (by rintro ds Qd ⟨n,rfl,_⟩;rfl) (λcdv A outer s H E hr ds Qd h=>?_);obtain ⟨ts,rfl,ht,hlen,q⟩:=h
 refine ⟨_,(Wr.s_cons (Wr.s_setN 1 Z1j.nd (Wr.n_lst Wr.a_nil)) (Wr.s_cons (Wr.s_forL PassesOwn.never rfl (Wr.e_var 0) (Wr.g_name 2 Z1j.nd) (Wr.s_one (Wr.s_forT PassesOwn.never rfl (Wr.e_tup (Wr.a_cons (Wr.e_ix (Wr.b_var 2) (Wr.PE2_bo (Wr.e_int))) (Wr.a_cons (Wr.e_ix (Wr.b_var 2) (Wr.PE2_bo (Wr.e_int))) Wr.a_nil))) (Wr.g_name 3 Z1j.nd) (Wr.s_one (Wr.s_if (Wr.PW2_pt (Wr.t_and (Wr.t_cmp Xio Xir (Wr.b_var 3) (Wr.PE2_bo (Wr.e_non)) (Xam _)) (Wr.t_and1 (Wr.t_cmp (Xvo hr.units) Xvy (Wr.PE2_bo (Wr.e_ix (Wr.b_var 3) (Wr.PE2_bo (Wr.e_int)))) (Wr.PE2_bo (Wr.e_tup (Wr.a_cons (Wr.e_str) (Wr.a_cons (Wr.e_str) Wr.a_nil)))) rfl)))) (Wr.s_one (Wr.s_app 1 (Wr.e_ix (Wr.b_var 3) (Wr.PE2_bo (Wr.e_int)))))
   Wr.s_nil))))) (Wr.s_cons (Wr.s_if (Wr.t_cmp op_eq Xdj (Wr.PE2_bo (Wr.e_len z_len (Wr.ab_cons (Wr.b_var 1) Wr.ab_nil))) (Wr.PE2_bo (Wr.e_int)) (Xam _)) (Wr.s_one (Wr.s_ret (Wr.e_non)))
   Wr.s_nil) (Wr.s_one (Wr.s_ret (Wr.e_tup (Wr.a_cons (Xqk rfl z_min (Wr.ab_cons (Wr.b_var 1) Wr.ab_nil)) (Wr.a_cons (Xql rfl z_max (Wr.ab_cons (Wr.b_var 1) Wr.ab_nil)) Wr.a_nil)))))))),?_⟩
 refine ⟨Nat.zero_le _,?_⟩;refine Xan (λds δ=>∃ acc:List Int,T3 ds /\ δ = [.fr (.lst ts),.ow (.lst (acc.map D.int)),.un,.un] /\ Xbb ts = acc ++ Xbb ds /\ acc.length + 2 * ds.length <= 900) ?_ ?_ _ _ ⟨[],ht,rfl,rfl,by rw [List.length_nil];omega⟩
 ·rintro δ ⟨acc,_,rfl,e,_⟩
  rw [show Xbb [] = [] from rfl,List.append_nil] at e;rw [e] at q
  cases acc with
  | nil=>exact if_t (RdT.eq (λQ q=>q) rfl) (q _ (.non rfl))
  | cons x acc =>
   refine if_f (RdT.eq (λQ q=>q) (by simp;omega)) ?_;exact ⟨x :: acc,rfl,Nat.succ_pos _,λm h1 h3=>⟨x :: acc,rfl,Nat.succ_pos _,λM h2 h4=>⟨sz2,q _ (.two h1 h2 h3 h4)⟩⟩⟩
 ·rintro d r δ L hL ⟨acc,h3,rfl,e,hl⟩
  obtain ⟨n,y,b,a,rfl,hb,ha⟩:=h3 d (.head _);rw [List.length_cons] at hl;refine ⟨_,rfl,_,rfl,sz2,?_⟩;refine Xan (λds δ=>∃ acc2:List Int,(∀ x ∈ ds,Pl3 x) /\ δ = [.fr (.lst ts),.ow (.lst (acc2.map D.int)),.fr (.tup [.int n,.int y,b,a]),.un] /\ acc2 ++ Xbt ds = acc ++ Xbt [b,a] /\ acc2.length + ds.length + 2 * r.length <= 900) ?_ ?_ _ _ ⟨acc,λx hx=>?_,rfl,rfl,by show acc.length + 2 + 2 * r.length <= 900;omega⟩
  ·rintro δ ⟨acc2,_,rfl,e2,hl2⟩
   refine hL _ _ ⟨acc2,λt ht=>h3 t (.tail _ ht),rfl,?_,by rw [List.length_nil] at hl2;omega⟩ (by repeat constructor);rw [e,show acc2 = acc ++ Xbt [b,a] from by rw [<- e2];simp [Xbt],show Xbb (.tup [.int n,.int y,b,a] :: r) = (plDay b ++ plDay a) ++ Xbb r from rfl];simp [Xbt]
  ·rintro d2 r2 δ L2 hL2 ⟨acc2,hx,rfl,e2,hl2⟩
   rw [List.length_cons] at hl2;have go:plDay d2 = [] -> L2 [.fr (.lst ts),.ow (.lst (acc2.map D.int)),.fr (.tup [.int n,.int y,b,a]),.fr d2]:=λz =>
    hL2 _ _ ⟨acc2,λx h=>hx x (.tail _ h),rfl,by rw [<- e2,show Xbt (d2 :: r2) = plDay d2 ++ Xbt r2 from rfl,z];rfl,by omega⟩ (by repeat constructor)
   have go2:∀ x:Int,plDay d2 = [x] -> L2 [.fr (.lst ts),.ow (.lst (acc2.map D.int ++ [.int x])),.fr (.tup [.int n,.int y,b,a]),.fr d2]:=λx z =>
    hL2 _ [.fr (.lst ts),.ow (.lst (acc2.map D.int ++ [.int x])),.fr (.tup [.int n,.int y,b,a]),.un] ⟨acc2 ++ [x],λx h=>hx x (.tail _ h),by simp only [List.map_append,List.map_cons,List.map_nil],by rw [<- e2,show Xbt (d2 :: r2) = plDay d2 ++ Xbt r2 from rfl,z,List.append_assoc],by rw [List.length_append];show acc2.length + 1 + r2.length + 2 * r.length <= 900;omega⟩ (by repeat constructor)
   have sml:(acc2.map D.int).length < sizeLine:=by rw [List.length_map];exact Xai (by omega)
   cases hx d2 (.head _) with
   | non=>exact if_f (and_f (RdT.eq (λQ q=>q) rfl)) (go rfl)
   | st=>exact if_t (Xdm (b1:=true) (b2:=true) (RdT.eq (λQ q=>q) rfl) (λ_=>RdT.eq (λQ q=>⟨_,rfl,sz2,rfl,rfl,q⟩) rfl)) ⟨_,rfl,sml,go2 _ rfl⟩
   | nt=>exact if_t (Xdm (b1:=true) (b2:=true) (RdT.eq (λQ q=>q) rfl) (λ_=>RdT.eq (λQ q=>⟨_,rfl,sz2,rfl,rfl,q⟩) rfl)) ⟨_,rfl,sml,go2 _ rfl⟩
   | ou=>exact if_f (Xdm (b1:=true) (b2:=false) (RdT.eq (λQ q=>q) rfl) (λ_=>RdT.eq (λQ q=>⟨_,rfl,sz2,rfl,rfl,q⟩) rfl)) (go rfl)
  ·simp only [List.mem_cons,List.not_mem_nil,or_false] at hx
   rcases hx with rfl | rfl
   ·exact hb
   ·exact ha
def Zk:Sp2:=λds Q=>∃ rows:List Row,ds = [.lst (rows.map Row.d)] /\ rows.length <= 900 /\ Q (.new (.dT (placT rows [])))
theorem Zp {f:Addr} {fd:FuncData} (F:Fun K "_law_places" "_law_places" Zn f fd)   : FnOk P w K mg base CX0 (0 + 1) f fd ["_law_rows"] (Xag K Zk):=by
 refine Wr.fun_ok F Zm (by rintro ds Qd ⟨r,rfl,_⟩;rfl) (λcdv A outer s H E hr ds Qd h=>?_);obtain ⟨rows,rfl,hl,q⟩:=h
 refine ⟨_,(Wr.s_cons (Wr.s_setN 1 Zm.nd (Wr.n_dT)) (Wr.s_cons (Wr.s_forL PassesOwn.never rfl (Wr.e_var 0) (Wr.g_name 2 Zm.nd) (Wr.s_one (Wr.s_dput 1 (hu_of hr) (Wr.e_tup (Wr.a_cons (Wr.e_ix (Wr.b_var 2) (Wr.PE2_bo (Wr.e_int))) (Wr.a_cons (Wr.e_ix (Wr.b_var 2) (Wr.PE2_bo (Wr.e_int))) Wr.a_nil))) (Wr.e_tup (Wr.a_cons (Wr.e_ix (Wr.b_var 2) (Wr.PE2_bo (Wr.e_int))) (Wr.a_cons (Wr.e_ix (Wr.b_var 2) (Wr.PE2_bo (Wr.e_int))) Wr.a_nil)))))) (Wr.s_one (Wr.s_retO 1)))),?_⟩
 refine Xan (λds δ=>∃ (rs:List Row) (kv:List (List Key × D)),ds = rs.map Row.d /\ δ = [.fr (.lst (rows.map Row.d)),.ow (.dT kv),.un] /\ placT rs kv = placT rows [] /\ kv.length + rs.length <= 900) ?_ ?_ _ _ ⟨rows,[],rfl,rfl,rfl,by simpa using hl⟩
 ·rintro δ ⟨rs,kv,e,rfl,he,_⟩
  cases rs with
  | cons r rs=>cases e
  | nil =>
   rw [<- he] at q;exact q
 ·rintro d r δ L hL ⟨rs,kv,e,rfl,he,hlen⟩
  cases rs with
  | nil=>cases e
  | cons r0 rs =>
   obtain ⟨rfl,rfl⟩:d = r0.d /\ r = rs.map Row.d:=by cases e;exact ⟨rfl,rfl⟩
   rw [List.length_cons] at hlen;exact ⟨_,rfl,_,rfl,sz2,_,rfl,_,rfl,sz2,[.inl _,.inl _],rfl,Xai (by omega),hL _ _ ⟨rs,_,rfl,rfl,he,by have:=Xaz kv [.inl r0.number,.inl r0.year] (.tup [.str r0.how,.int r0.day]);omega⟩ (by repeat constructor)⟩
theorem Laid.three {kvs:List (Key × D)} {held h2:List Int} {es:List Ent} {rows:List Row} (l:Laid kvs held es rows h2):∀ r ∈ rows,Pl3 (.tup [.str r.how,.int r.day]):=by
 induction l with
 | nil=>intro _ z;cases z
 | cons p l ih =>
  intro r hr
  rcases List.mem_cons.mp hr with rfl | hr
  ·cases p with
   | stands=>exact .st
   | noted=>exact .nt
   | gone=>exact .ou
  ·exact ih r hr
theorem Xhd {rows:List Row} (h:∀ r ∈ rows,Pl3 (.tup [.str r.how,.int r.day])) (nm:Int × Int):Pl3 (plc rows nm):=by
 unfold plc
 cases e:rows.find? (λr=>decide (r.name = nm)) with
 | none=>exact .non
 | some r=>exact h r (List.mem_of_find?_eq_some e)
theorem Xde {b a:Int × Int -> D} (hb:∀ n,Pl3 (b n)) (ha:∀ n,Pl3 (a n)):∀ ns,T3 (Xah b a ns)
 | []=>λ_ z=>nomatch z
 | n :: ns=>λt ht=>by
  simp only [Xah] at ht
  rcases List.mem_append.mp ht with z | z
  ·split at z
   ·cases z
   ·have : t = .tup [.int n.1,.int n.2,b n,a n]:=by simpa using z
    exact ⟨_,_,_,_,this,hb n,ha n⟩
  ·exact Xde hb ha ns t z
theorem Ends.plain {xs:List Int} {r:D} (h:Ends xs r):Xaa 60 r = true:=by cases h <;> rfl
def swT:D -> D
 | .tup [n,y,b,a]=>.tup [n,y,a,b]
 | d=>d
theorem sw_T3 {ts:List D} (h:T3 ts):T3 (ts.map swT):=λt ht=>by
 obtain ⟨u,hu,rfl⟩:=List.mem_map.mp ht;obtain ⟨n,y,b,a,rfl,hb,ha⟩:=h u hu;exact ⟨n,y,a,b,rfl,ha,hb⟩
theorem Xlz:∀ {ts:List D},T3 ts -> ∀ x,x ∈ Xbb (ts.map swT) ↔ x ∈ Xbb ts
 | [],_,x=>Iff.rfl
 | t :: ts,h,x=>by
  obtain ⟨n,y,b,a,rfl,hb,ha⟩:=h t (.head _);have ih:=Xlz (ts:=ts) (λt ht=>h t (.tail _ ht)) x
  show x ∈ (plDay a ++ plDay b) ++ Xbb (ts.map swT) ↔ x ∈ (plDay b ++ plDay a) ++ Xbb ts
  rw [List.mem_append,List.mem_append,List.mem_append,List.mem_append,ih,or_comm (a:=x ∈ plDay a)]
theorem eq_pl {a b:D} (ha:IsPl a) (hb:IsPl b):eqD a b = eqD b a:=by
 cases ha with
 | non=>cases hb <;> rfl
 | @«at» w d =>
  cases hb with
  | non=>rfl
  | @«at» w' d' =>
   show ((w == w') && ((d == d') && true)) = ((w' == w) && ((d' == d) && true))
   rw [BEq.comm (a:=w),BEq.comm (a:=d)]
theorem Xfa {b a:Int × Int -> D} (hb:∀ n,IsPl (b n)) (ha:∀ n,IsPl (a n)):∀ ns,(Xah b a ns).map swT = Xah a b ns
 | []=>rfl
 | n :: ns=>by
  simp only [Xah];rw [eq_pl (hb n) (ha n),List.map_append,Xfa hb ha ns]
  split <;> rfl
theorem Xdx {ts:List D} (h:AreT ts):Xaa 60 (.lst ts) = true:=by
 simp only [Xaa,List.all_eq_true];intro t ht;obtain ⟨n,y,b,a,rfl,hb,ha⟩:=h t ht
 cases hb <;> cases ha <;> rfl
theorem Xgd {κ:Type} [DecidableEq κ] {kvs:List (κ × D)} {k:κ} {d:D} (h:k ∉ kvs.map (·.1)):(putD kvs k d).map (·.1) = kvs.map (·.1) ++ [k]:=by
 unfold putD;rw [if_neg (λz=>?_),List.map_append]
 ·rfl
 ·obtain ⟨p,hp,e⟩:=List.any_eq_true.mp z
  exact h (List.mem_map.mpr ⟨p,hp,of_decide_eq_true e⟩)
theorem NamesOf.uniq {bs as ns ms:List (Int × Int)} (h:NamesOf bs as ns) (h':NamesOf bs as ms):ns = ms:=by
 have p:ns.Perm ms:=(List.perm_ext_iff_of_nodup h.1 h'.1).mpr λa=>(h.2.1 a).trans (h'.2.1 a).symm
 have r:=h.2.2;have r':=h'.2.2;rw [List.pairwise_map] at r r';refine p.eq_of_pairwise (λa b _ _ x y=>?_) r r';unfold nmK at x y;rw [HT.lexLt_cons,HT.lexLt_cons] at x y
 by_cases e1:a.1 = b.1
 ·rw [if_pos e1.symm] at x
  rw [if_pos e1] at y
  by_cases e2:a.2 = b.2
  ·exact Prod.ext e1 e2
  ·rw [if_neg (λz=>e2 z.symm)] at x
   rw [if_neg e2] at y;simp at x y;omega
 ·rw [if_neg (λz=>e1 z.symm)] at x
  rw [if_neg e1] at y;simp at x y;omega
theorem NamesOf.symm {bs as ns:List (Int × Int)} (h:NamesOf bs as ns):NamesOf as bs ns:=⟨h.1,λn=>(h.2.1 n).trans or_comm,h.2.2⟩
def rkey (r:Row):List Key:=[.inl r.number,.inl r.year]
theorem Xfh:∀ (rows:List Row) (kv:List (List Key × D)),(rows.map Row.name).Nodup -> (∀ r ∈ rows,rkey r ∉ kv.map (·.1)) -> (placT rows kv).map (·.1) = kv.map (·.1) ++ rows.map rkey
 | [],kv,_,_=>by simp [placT]
 | r :: rs,kv,hn,hk=>by
  rw [List.map_cons,List.nodup_cons] at hn;simp only [placT];have e:(putD kv [.inl r.number,.inl r.year] (.tup [.str r.how,.int r.day])).map (·.1) = kv.map (·.1) ++ [rkey r]:=Xgd (hk r (.head _));rw [Xfh rs _ hn.2 λx hx z=>?_,e,List.append_assoc]
  ·rfl
  ·rw [e,List.mem_append] at z
   rcases z with z | z
   ·exact hk x (.tail _ hx) z
   ·have : rkey x = rkey r:=by simpa using z
    have : x.name = r.name:=(Xgz this.symm).symm ▸ rfl;exact hn.1 (List.mem_map.mpr ⟨x,hx,this⟩)
theorem Xkc (rows:List Row) (hn:(rows.map Row.name).Nodup):((placT rows []).map λq=>kTup q.1) = ((rows.map Row.name).map nmK).map tD:=by
 have:=congrArg (List.map kTup) (Xfh rows [] hn λr _ z=>by cases z);rw [List.map_map] at this;refine Eq.trans this ?_;rw [List.map_nil,List.nil_append,List.map_map,List.map_map,List.map_map];rfl
def Z2b:Sp2:=λds Q=>∃ (bs as:List Row),ds = [.lst (bs.map Row.d),.lst (as.map Row.d)] /\ bs.length < 120 /\ as.length < 120 /\ (bs.map Row.name).Nodup /\ (as.map Row.name).Nodup /\ ∀ ns,NamesOf (bs.map Row.name) (as.map Row.name) ns -> Q (.new (.lst (Xah (plc bs) (plc as) ns)))
theorem Z24 {f:Addr} {fd:FuncData} (F:Fun K "_law_due" "_law_due" Z21 f fd) (Y5:Fn2 P w K mg base 1 "_law_places" Zk) (z_sorted:mg "sorted" = none) (z_set:mg "set" = none) (z_list:mg "list" = none)  : FnOk P w K mg base CX0 (1 + 1) f fd ["_law_befores", "_law_afters"] (Xag K Z2b):=by
 refine Wr.fun_ok F Z1x (by rintro ds Qd ⟨b,a,rfl,_⟩;rfl) (λcdv A outer s H E hr ds Qd h=>?_);obtain ⟨bs,as,rfl,hl1,hl2,nb,na,q⟩:=h
 refine ⟨_,(Wr.s_cons (Wr.s_set 2 Z1x.nd (Wr.e_call Y5 hr (Wr.a_cons (Wr.e_var 0) Wr.a_nil))) (Wr.s_cons (Wr.s_set 3 Z1x.nd (Wr.e_call Y5 hr (Wr.a_cons (Wr.e_var 1) Wr.a_nil))) (Wr.s_cons (Wr.s_setN 4 Z1x.nd (Wr.n_lst Wr.a_nil)) (Wr.s_cons (Wr.s_forL PassesOwn.never rfl (Wr.PN2_fx (Xlu rfl (hu9 hr) z_sorted z_set (Wr.PN2_bo (Wr.n_cat (Wr.PN2_bo (Xlv rfl z_list (Wr.ab_cons (Wr.b_var 2) Wr.ab_nil))) (Wr.PN2_bo (Xlv rfl z_list (Wr.ab_cons (Wr.b_var 3) Wr.ab_nil))))))) (Wr.g_name 5 Z1x.nd) (Wr.s_cons (Wr.s_set 6 Z1x.nd (Wr.e_dget1 (hu_of hr) (Wr.b_var 2) (Wr.e_var 5))) (Wr.s_cons (Wr.s_set 7 Z1x.nd (Wr.e_dget1 (hu_of hr) (Wr.b_var 3) (Wr.e_var 5))) (Wr.s_one (Wr.s_if (Wr.t_cmp (Xdz hr.units) Xcm (Wr.b_var 6) (Wr.b_var 7) (Xam _)) (Wr.s_one (Wr.s_app 4 (Wr.e_tup (Wr.a_cons (Wr.e_ix (Wr.b_var 5) (Wr.PE2_bo (Wr.e_int))) (Wr.a_cons (Wr.e_ix (Wr.b_var 5) (Wr.PE2_bo (Wr.e_int))) (Wr.a_cons (Wr.e_var 6) (Wr.a_cons (Wr.e_var 7) Wr.a_nil)))))))
   Wr.s_nil))))) (Wr.s_one (Wr.s_retO 4)))))),?_⟩
 refine ⟨bs,rfl,by omega,as,rfl,by omega,Nat.zero_le _,?_⟩;have k1:=Xkc bs nb;have k2:=Xkc as na;have l1:(placT bs []).length = bs.length:=by have:=congrArg List.length k1;simpa using this
 have l2:(placT as []).length = as.length:=by have:=congrArg List.length k2;simpa using this
 refine ⟨by rw [List.length_map,List.length_map,l1,l2];exact Nat.le_trans (show bs.length + as.length <= 250 by omega) (by decide),(bs.map Row.name).map nmK ++ (as.map Row.name).map nmK,2,by rw [k1,k2,List.map_append],by decide,λk hk=>?_,by simp;omega,λms hms=>?_⟩
 ·rcases List.mem_append.mp hk with z | z <;> obtain ⟨p,_,rfl⟩:=List.mem_map.mp z <;> rfl
 obtain ⟨ns,rfl,hn⟩:=Xdi hms;rw [<- Xgg];have q:=q ns hn;have ln:=Xea hn;simp only [List.length_map] at ln;refine Xan (λds δ=>∃ (done todo:List (Int × Int)),ds = todo.map nmD /\ ns = done ++ todo /\ δ = [.fr (.lst (bs.map Row.d)),.fr (.lst (as.map Row.d)),.fr (.dT (placT bs [])),.fr (.dT (placT as [])),.ow (.lst (Xah (plc bs) (plc as) done)),.un,.un,.un]) ?_ ?_ _ _ ⟨[],ns,rfl,rfl,rfl⟩
 ·rintro δ ⟨done,todo,e,hb,rfl⟩
  cases todo with
  | cons r todo=>cases e
  | nil =>
   rw [List.append_nil] at hb;subst hb;exact q
 ·rintro d r δ L hL ⟨done,todo,e,hb,rfl⟩
  cases todo with
  | nil=>cases e
  | cons n todo =>
   obtain ⟨rfl,rfl⟩:d = nmD n /\ r = todo.map nmD:=by cases e;exact ⟨rfl,rfl⟩
   have hlen:(Xah (plc bs) (plc as) done).length < sizeLine:=by
    have:=Xbo (plc bs) (plc as) done;rw [hb,List.length_append] at ln;exact Xai (by omega)
   have e1:=Xcg nb n.1 n.2;have e2:=Xcg na n.1 n.2;refine ⟨[.inl _,.inl _],rfl,[.inl _,.inl _],rfl,?_⟩;rw [e1];dsimp only;rw [e2];have p1:=Xbk bs (n.1,n.2) 59;have p2:=Xbk as (n.1,n.2) 59;have last:∀ x:List D,x = Xah (plc bs) (plc as) (done ++ [n]) -> L [.fr (.lst (bs.map Row.d)),.fr (.lst (as.map Row.d)),.fr (.dT (placT bs [])),.fr (.dT (placT as [])),.ow (.lst x),.fr (nmD n),.fr (plc bs (n.1,n.2)),.fr (plc as (n.1,n.2))]:=λx hx=>by
    subst hx;exact hL _ _ ⟨done ++ [n],todo,rfl,by rw [hb];simp,rfl⟩ (by repeat constructor)
   refine if_by (b:=!eqD (plc bs (n.1,n.2)) (plc as (n.1,n.2))) (RdT.eq (λQ q=>⟨p1,p2,q⟩) (by cases eqD (plc bs (n.1,n.2)) (plc as (n.1,n.2)) <;> rfl)) (λhc=>?_) (λhc=>?_)
   ·refine ⟨_,rfl,_,rfl,sz4,hlen,last _ ?_⟩
    rw [Xau];simp only [Xah,List.append_nil];rw [if_neg (λz=>by rw [z] at hc;cases hc)]
   ·refine last _ ?_
    rw [Xau];simp only [Xah,List.append_nil]
    rw [if_pos (by cases z:eqD (plc bs (n.1,n.2)) (plc as (n.1,n.2)) with
     | true=>rfl
     | false=>rw [z] at hc;cases hc),List.append_nil]
structure GoodR (rs:List Row):Prop where
 nd:(rs.map Row.name).Nodup
 three:∀ r ∈ rs,Pl3 (.tup [.str r.how,.int r.day])
 len:rs.length <= 80
theorem GoodR.of {kvs:List (Key × D)} {es os:List Ent} {rows:List Row} {h2:List Int} (l:Laid kvs [] os rows h2) (ho:Ordd es os) (hn:Names es) (hl:es.length <= 80):GoodR rows:=⟨l.nodup ho hn,l.three,by rw [l.len,ho.perm.length_eq];exact hl⟩
theorem Xey (b:Int × Int -> D) (hb:∀ n,eqD (b n) (b n) = true):∀ ns,Xah b b ns = []
 | []=>rfl
 | n :: ns=>by simp only [Xah];rw [if_pos (hb n),Xey b hb ns];rfl
def Z3a:Sp2:=λds Q=>∃ ns:List Int,ds = [.lst (ns.map D.int)] /\ ns.length <= 63 /\ Q (.val (.bl true))
theorem Z3b {f:Addr} {fd:FuncData} (F:Fun K "law" "law" Z3c f fd) (Yj:Fn2 P w K mg base 4 "turned" Z2t) (Y0:Fn2 P w K mg base 4 "_law_are_turns" Z1) (Yf:Fn2 P w K mg base 4 "_law_due" Z2b) (Yg:Fn2 P w K mg base 4 "stretch" Z2k) (Y9:Fn2 P w K mg base 4 "_law_ends" Z16) (Yd:Fn2 P w K mg base 4 "_law_lay" Z1z) (Y7:Fn2 P w K mg base 4 "_law_shut" Z1k) (Yc:Fn2 P w K mg base 4 "_law_cell" Z1u) (Yb:Fn2 P w K mg base 4 "_law_laid" Z1q) (Y3:Fn2 P w K mg base 4 "_law_digits" Zi) (z_list:mg "list" = none) (z_len:mg "len" = none) (z_enumerate:mg "enumerate" = none)  : FnOk P w K mg base CX0 (4 + 1) f fd ["_law_script"] (Xag K Z3a):=by
 refine Wr.fun_ok F Z38 (by rintro ds Qd ⟨ns,rfl,_⟩;rfl) (λcdv A outer s H E hr ds Qd h=>?_);obtain ⟨ns,rfl,hlen,h⟩:=h
 have h_tail2:∃ t,QSs (cxOf CX0 P w K mg base Z3d "law" (Xab Z3c) f cdv A outer s H E).nox H ((Xax Z3c).drop 7) t /\ ∀ (bs as:List Row) (a1 a2 a3 a4 a5 a6 a7 a8 a9:Sl),GoodR bs -> GoodR as ->
   t { nx:=λ_=>Qd (.val .non),rt:=λr _=>Qd r } [.fr (.lst (ns.map D.int)),a1,a2,a3,a4,a5,a6,a7,a8,a9,.fr (.lst (bs.map Row.d)),.fr (.lst (as.map Row.d)),.un,.un,.un,.un]:=by
  refine ⟨_,(Wr.s_cons (Wr.s_set 12 Z38.nd (Wr.PN2_fx (Wr.n_list z_list (Wr.ab_cons (Wr.b_var 10) Wr.ab_nil)))) (Wr.s_cons (Wr.s_set 13 Z38.nd (Wr.PN2_fx (Wr.n_list z_list (Wr.ab_cons (Wr.b_var 11) Wr.ab_nil)))) (Wr.s_cons (Wr.s_set 14 Z38.nd (Wr.e_call Yj hr (Wr.a_cons (Wr.e_var 12) (Wr.a_cons (Wr.e_var 13) Wr.a_nil)))) (Wr.s_cons (Wr.s_if (Wr.PW2_pt (Wr.t_or (Wr.t_not (Wr.t_val (Wr.e_call Y0 hr (Wr.a_cons (Wr.e_var 14) Wr.a_nil)))) (Wr.t_or (Wr.t_cmp (Xdz hr.units) Xcm (Wr.b_var 12) (Wr.b_var 10) (Xam _)) (Wr.t_or1 (Wr.t_cmp (Xdz hr.units) Xcm (Wr.b_var 13) (Wr.b_var 11) (Xam _)))))) (Wr.s_one (Wr.s_ret (Wr.e_bl)))
   Wr.s_nil) (Wr.s_cons (Wr.s_if (Wr.t_cmp (Xdz hr.units) Xcm (Wr.b_var 14) (Wr.PE2_bo (Wr.e_call Yf hr (Wr.a_cons (Wr.e_var 10) (Wr.a_cons (Wr.e_var 11) Wr.a_nil)))) (Xam _)) (Wr.s_one (Wr.s_ret (Wr.e_bl)))
   Wr.s_nil) (Wr.s_cons (Wr.s_setCompF 15 Z38.nd (nT:=1) (N':=["_law_turn", "0acc", "0_law_script", "0_law_entries_here", "0_law_shut_here", "0_law_first", "0_law_last", "0_law_step", "0_law_same", "0_law_others", "0_law_k", "0_law_one", "0_law_befores", "0_law_afters", "0_law_ones", "0_law_twos", "0_law_found", "0_law_about"]) (Xbm (Xab Z3c) (N:=Z3d) rfl rfl rfl (by decide +kernel)) (Wr.e_var 14) (λ_ _ _ _ _=>(Wr.gp_name 0 (by decide) Z36)) (λ_ _ _ _ _=>Wr.if_nil) (λ_ _ _ _ _=>(Wr.e_tup (Wr.a_cons (Wr.e_ix (Wr.b_var 0) (Wr.PE2_bo (Wr.e_int))) (Wr.a_cons (Wr.e_ix (Wr.b_var 0) (Wr.PE2_bo (Wr.e_int))) (Wr.a_cons (Wr.e_ix (Wr.b_var 0) (Wr.PE2_bo (Wr.e_int))) (Wr.a_cons (Wr.e_ix (Wr.b_var 0) (Wr.PE2_bo (Wr.e_int))) Wr.a_nil))))))) (Wr.s_cons (Wr.s_if (Wr.PW2_pt (Wr.t_or (Wr.t_cmp (Xdz hr.units) Xcm (Wr.PE2_bo (Wr.e_call Yj hr (Wr.a_cons (Wr.e_var 13) (Wr.a_cons (Wr.e_var 12) Wr.a_nil)))) (Wr.b_var 15) (Xam _)) (Wr.t_or1 (Wr.t_cmp (Xdz hr.units) Xcm (Wr.PE2_bo (Wr.e_call Yj hr (Wr.a_cons (Wr.e_var 12) (Wr.a_cons (Wr.PN2_fx (Wr.n_list z_list (Wr.ab_cons (Wr.b_var 12) Wr.ab_nil))) Wr.a_nil)))) (Wr.PN2_bo (Wr.n_lst Wr.a_nil)) (Xam _))))) (Wr.s_one (Wr.s_ret (Wr.e_bl)))
   Wr.s_nil) (Wr.s_one (Wr.s_ret (Wr.e_and (Wr.e_cmp (Xrc hr.units) Xcm (Wr.PE2_bo (Wr.e_call Yg hr (Wr.a_cons (Wr.e_var 14) Wr.a_nil))) (Wr.PE2_bo (Wr.e_call Y9 hr (Wr.a_cons (Wr.e_var 14) Wr.a_nil))) (Xam _)) (Wr.e_one (Wr.e_cmp (Xrc hr.units) Xcm (Wr.PE2_bo (Wr.e_call Yg hr (Wr.a_cons (Wr.e_var 15) Wr.a_nil))) (Wr.PE2_bo (Wr.e_call Y9 hr (Wr.a_cons (Wr.e_var 14) Wr.a_nil))) (Xam _))))))))))))),?_⟩
  intro bs as a1 a2 a3 a4 a5 a6 a7 a8 a9 gb ga;have lb:=gb.len;have la:=ga.len;refine ⟨bs,as,rfl,by omega,by omega,gb.nd,ga.nd,λms hms lms=>?_⟩;have aret:AreT (Xah (plc bs) (plc as) ms):=Xcv (Xff _) (Xff _) _;have hT3:T3 (Xah (plc bs) (plc as) ms):=Xde (Xhd gb.three) (Xhd ga.three) _;have lT:=Xbo (plc bs) (plc as) ms;have lms:=Xea hms;rw [List.length_map,List.length_map] at lms;have hTp:=Xdx aret;have hsw:=Xfa (Xff bs) (Xff as) ms;have pb:=Xfg 58 bs;have pa:=Xfg 58 as;refine if_f (or_ff (Xck (b1:=true) (λQ q=>⟨_,rfl,aret,q⟩)) (or_ff (RdT.eq (b1:=true != true) (λQ q=>⟨pb,pb,by rw [Xba pb];exact q⟩) rfl) (RdT.eq (b1:=true != true) (λQ q=>⟨pa,pa,by rw [Xba pa];exact q⟩) rfl))) ?_;refine if_f (RdT.eq (b1:=true != true) (λQ q=>⟨bs,as,rfl,by omega,by omega,gb.nd,ga.nd,λks hks=>?_⟩) rfl) ?_
  ·rw [hks.uniq hms]
   exact ⟨hTp,hTp,by rw [Xba hTp];exact q⟩
  refine Xcs (p:=λ_=>true) (f:=swT) (Xah (plc bs) (plc as) ms) _ [] (Nat.le_trans (show 0 + (Xah (plc bs) (plc as) ms).length <= 200 by omega) (by decide)) (λx hx acc=>λQ q=>q) (λx hx _ acc=>?_) ?_
  ·obtain ⟨n,y,b,a,rfl,_,_⟩:=hT3 x hx
   exact λQ q=>⟨_,rfl,_,rfl,_,rfl,_,rfl,sz4,q⟩
  rw [List.filter_true',List.nil_append,hsw];have aret2:AreT (Xah (plc as) (plc bs) ms):=Xcv (Xff _) (Xff _) _;have hTp2:=Xdx aret2;have nul:∀ ks,Xah (plc bs) (plc bs) ks = []:=Xey _ λn=>Xba (Xbk bs n 59)
  refine if_f (or_ff (RdT.eq (b1:=true != true) (λQ q=>⟨as,bs,rfl,by omega,by omega,ga.nd,gb.nd,λks hks _=>?_⟩) rfl) (RdT.eq (b1:=true != true) (λQ q=>⟨bs,bs,rfl,by omega,by omega,gb.nd,gb.nd,λks hks _=>?_⟩) rfl)) ?_
  ·rw [hks.uniq hms.symm]
   exact ⟨hTp2,hTp2,by rw [Xba hTp2];exact q⟩
  ·rw [nul]
   exact ⟨Nat.zero_le _,rfl,rfl,q⟩
  rw [<- hsw];generalize Xah (plc bs) (plc as) ms = ts at hT3 lT ⊢
  have fin:∀ (a0 a1 a2 a3 a4 a5 a6 a7 a8 a9 a10 a11 a12 a13:Sl),RdE (rAndV (rOp (dEqU false) (rCall Z2k (rCons (rVar 14) rNil)) (rCall Z16 (rCons (rVar 14) rNil))) (rOp (dEqU false) (rCall Z2k (rCons (rVar 15) rNil)) (rCall Z16 (rCons (rVar 14) rNil))))
    [a0,a1,a2,a3,a4,a5,a6,a7,a8,a9,a10,a11,a12,a13,.fr (.lst ts),.fr (.lst (ts.map swT))] (.bl true):=by
   intro a0 a1 a2 a3 a4 a5 a6 a7 a8 a9 a10 a11 a12 a13;refine Xjf (λQ q=>⟨ts,rfl,hT3,by omega,λr hE=>⟨ts,rfl,hT3,by omega,λr' hE'=>?_⟩⟩) (λQ q=>⟨ts.map swT,rfl,sw_T3 hT3,by rw [List.length_map];omega,λr hE=>⟨ts,rfl,hT3,by omega,λr' hE'=>?_⟩⟩)
   ·cases hE.uniq hE' (λ_=>Iff.rfl)
    exact ⟨hE.plain,hE.plain,by rw [Xba hE.plain];exact q⟩
   ·cases hE.uniq hE' (λx=>Xlz hT3 x)
    exact ⟨hE.plain,hE.plain,by rw [Xba hE.plain];exact q⟩
  exact fin _ _ _ _ _ _ _ _ _ _ _ _ _ _ _ h
 obtain ⟨t2,h_rest2,h_tail2⟩:=h_tail2
 have h_tail:∃ t,QSs (cxOf CX0 P w K mg base Z3d "law" (Xab Z3c) f cdv A outer s H E).nox H ((Xax Z3c).drop 4) t /\ ∀ (es oth:List Ent) (kvs:List (Key × D)) (first last step same:Int),Ents es 80 -> Shut kvs 40 -> Names oth -> oth.length <= 80 -> (∀ e ∈ oth,Way3 e.way) ->
   t { nx:=λ_=>Qd (.val .non),rt:=λr _=>Qd r } [.fr (.lst (ns.map D.int)),.fr (.lst (es.map Ent.d)),.fr (.dK kvs),.fr (.int first),.fr (.int last),.fr (.int step),.fr (.int same),.ow (.lst (oth.map Ent.d)),.un,.un,.un,.un,.un,.un,.un,.un]:=by
  have h_rest:=h_rest2
  refine ⟨_,(Wr.s_freeze 7 (Wr.s_cons (Wr.s_set 10 Z38.nd (Wr.e_call Yd hr (Wr.a_cons (Wr.e_var 1) (Wr.a_cons (Wr.e_var 2) Wr.a_nil)))) (Wr.s_cons (Wr.s_set 11 Z38.nd (Wr.e_call Yd hr (Wr.a_cons (Wr.e_var 7) (Wr.a_cons (Wr.e_call Y7 hr (Wr.a_cons (Wr.e_call Yc hr (Wr.a_cons (Wr.e_var 0) (Wr.a_cons (Wr.e_int) Wr.a_nil))) (Wr.a_cons (Wr.e_int) (Wr.a_cons (Wr.e_int) Wr.a_nil)))) Wr.a_nil)))) (Wr.s_cons (Wr.s_if (Wr.t_cmp op_eq Xdj (Wr.b_var 6) (Wr.PE2_bo (Wr.e_int)) (Xam _)) (Wr.s_one (Wr.s_set 11 Z38.nd (Wr.PN2_fx (Wr.n_list z_list (Wr.ab_cons (Wr.b_var 10) Wr.ab_nil)))))
   Wr.s_nil)
   h_rest)))),?_⟩
  intro es oth kvs first last step same he hk ho hl hw;have hel:=he.len;have hkl:=hk.len;refine ⟨es,kvs,rfl,he.names,by omega,λe hx=>(he.all e hx).way,hk.bounds,by omega,λos1 bs h1 ho1 l1=>?_⟩;refine ⟨ns,_,rfl,by decide,λv=>⟨_,_,_,rfl,by decide,by decide,λkv2 hk2=>?_⟩⟩;have hkl2:=hk2.len;refine ⟨oth,kv2,rfl,ho,by omega,hw,hk2.bounds,by omega,λos2 as h2 ho2 l2=>?_⟩;have gb:=GoodR.of l1 ho1 he.names hel;have ga:=GoodR.of l2 ho2 ho hl;refine if_eq (p:=same = 0) (λQ q=>q) (λz=>?_) (λz=>?_)
  ·exact h_tail2 bs bs _ _ _ _ _ _ _ _ _ gb gb
  ·exact h_tail2 bs as _ _ _ _ _ _ _ _ _ gb ga
 obtain ⟨t1,h_rest,h_tail⟩:=h_tail
 refine ⟨_,(Wr.s_cons (Wr.s_asg (Wr.e_call Yb hr (Wr.a_cons (Wr.e_var 0) (Wr.a_cons (Wr.e_int) Wr.a_nil))) (Wr.g_tup (n:=2) rfl (Wr.gs_cons (Wr.g_name 1 Z38.nd) (Wr.gs_cons (Wr.g_name 2 Z38.nd) Wr.gs_nil)))) (Wr.s_cons (Wr.s_asg (Wr.e_call Y3 hr (Wr.a_cons (Wr.e_call Yc hr (Wr.a_cons (Wr.e_var 0) (Wr.a_cons (Wr.e_int) Wr.a_nil))) (Wr.a_cons (Wr.PN2_fx (Wr.n_lst (Wr.a_cons (Wr.e_add (Wr.PE2_bo (Wr.e_len z_len (Wr.ab_cons (Wr.b_var 1) Wr.ab_nil))) (Wr.PE2_bo (Wr.e_int))) (Wr.a_cons (Wr.e_int) (Wr.a_cons (Wr.e_int) (Wr.a_cons (Wr.e_int) Wr.a_nil)))))) Wr.a_nil))) (Wr.g_lst (n:=4) rfl (Wr.gs_cons (Wr.g_name 3 Z38.nd) (Wr.gs_cons (Wr.g_name 4 Z38.nd) (Wr.gs_cons (Wr.g_name 5 Z38.nd) (Wr.gs_cons (Wr.g_name 6 Z38.nd) Wr.gs_nil)))))) (Wr.s_cons (Wr.s_setN 7 Z38.nd (Wr.n_lst Wr.a_nil)) (Wr.s_cons (Wr.s_forE PassesOwn.never rfl rfl z_enumerate (Wr.a_cons (Wr.PN2_fx (Wr.n_slL (Wr.b_var 1) (Wr.o_some (Wr.PE2_bo (Wr.e_fdiv (Wr.b_var 3) (Wr.PE2_bo (Wr.e_int))))) Wr.o_none)) Wr.a_nil) (Wr.g_tup (n:=2) rfl (Wr.gs_cons (Wr.g_name 8 Z38.nd) (Wr.gs_cons (Wr.g_name 9 Z38.nd) Wr.gs_nil))) (Wr.s_one (Wr.s_if (Wr.t_cmp op_lt lf_lt (Wr.PE2_bo (Wr.e_mod (Wr.PE2_bo (Wr.e_add (Wr.b_var 8) (Wr.b_var 4))) (Wr.PE2_bo (Wr.e_int)))) (Wr.PE2_bo (Wr.e_int)) (Xam _)) (Wr.s_one (Wr.s_app 7 (Wr.e_tup (Wr.a_cons (Wr.e_add (Wr.PE2_bo (Wr.e_int)) (Wr.PE2_bo (Wr.e_mod (Wr.PE2_bo (Wr.e_add (Wr.PE2_bo (Wr.e_ix (Wr.b_var 9) (Wr.PE2_bo (Wr.e_int)))) (Wr.b_var 5))) (Wr.PE2_bo (Wr.e_int))))) (Wr.a_cons (Wr.e_ix (Wr.b_var 9) (Wr.PE2_bo (Wr.e_int))) (Wr.a_cons (Wr.e_ix (Wr.b_var 9) (Wr.PE2_bo (Wr.e_int))) (Wr.a_cons (Wr.e_ix (Wr.b_var 9) (Wr.PE2_bo (Wr.e_int))) (Wr.a_cons (Wr.e_ix (Wr.b_var 9) (Wr.PE2_bo (Wr.e_int))) Wr.a_nil)))))))) (Wr.s_one (Wr.s_if (Wr.t_cmp op_eq Xdj (Wr.PE2_bo (Wr.e_mod (Wr.PE2_bo (Wr.e_add (Wr.b_var 8) (Wr.b_var 4))) (Wr.PE2_bo (Wr.e_int)))) (Wr.PE2_bo (Wr.e_int)) (Xam _)) (Wr.s_one (Wr.s_app 7 (Wr.e_tup (Wr.a_cons (Wr.e_ix (Wr.b_var 9) (Wr.PE2_bo (Wr.e_int))) (Wr.a_cons (Wr.e_ix (Wr.b_var 9) (Wr.PE2_bo (Wr.e_int))) (Wr.a_cons (Wr.e_ix (Wr.b_var 9) (Wr.PE2_bo (Wr.e_int))) (Wr.a_cons (Wr.e_str) (Wr.a_cons (Wr.e_add (Wr.PE2_bo (Wr.e_ix (Wr.b_var 9) (Wr.PE2_bo (Wr.e_int)))) (Wr.b_var 5)) Wr.a_nil))))))))
   Wr.s_nil)))))
   h_rest)))),?_⟩
 refine ⟨ns,61,rfl,hlen,λes kvs he hk=>⟨rfl,?_⟩⟩;have hel:=he.len;refine ⟨ns,_,rfl,by decide,λv=>⟨sz4,_,[((es.map Ent.d).length:Int) + 1,5,4,4],rfl,λz hz=>?_,(show 4 <= 100 by decide),Drawn.four λfirst last step same f0 f1 l0 l1 s0 s1 m0 m1=>⟨rfl,?_⟩⟩⟩
 ·simp only [List.mem_cons,List.not_mem_nil,or_false] at hz
  rcases hz with rfl | rfl | rfl | rfl
  ·exact ⟨by omega,Xfw (by simp;omega)⟩
  ·exact ⟨by decide,by decide⟩
  ·exact ⟨by decide,by decide⟩
  ·exact ⟨by decide,by decide⟩
 obtain ⟨n,hn⟩:∃ n:Nat,first / 2 = (n:Int):=Int.eq_ofNat_of_zero_le (Int.ediv_nonneg f0 (by decide));refine ⟨Nat.zero_le _,⟨by decide,by decide⟩,?_⟩
 show loop _ _ _ (enumD 0 (cutD (es.map Ent.d) (some (first / 2)) none)) _
 rw [hn,Xqg,<- List.map_drop];refine Xan (λds δ=>∃ (k:Nat) (done todo oth:List Ent),ds = enumD k (todo.map Ent.d) /\ es.drop n = done ++ todo /\ (oth.map Ent.name).Sublist (done.map Ent.name) /\ (∀ e ∈ oth,Way3 e.way) /\ δ = [.fr (.lst (ns.map D.int)),.fr (.lst (es.map Ent.d)),.fr (.dK kvs),.fr (.int first),.fr (.int last),.fr (.int step),.fr (.int same),.ow (.lst (oth.map Ent.d)),.un,.un,.un,.un,.un,.un,.un,.un]) ?_ ?_ _ _ ⟨0,[],es.drop n,[],rfl,rfl,List.Sublist.refl _,(λ_ z=>nomatch z),rfl⟩
 ·rintro δ ⟨k,done,todo,oth,e,hd,hs,hw,rfl⟩
  cases todo with
  | cons r todo=>cases e
  | nil =>
   rw [List.append_nil] at hd;have sub:(oth.map Ent.name).Sublist (es.map Ent.name):=by rw [<- hd] at hs;exact hs.trans ((List.drop_sublist n es).map _)
   exact h_tail es oth kvs first last step same he hk (sub.nodup he.names) (by have:=sub.length_le;simp at this;omega) hw
 ·rintro d r δ L hL ⟨k,done,todo,oth,e,hd,hs,hw,rfl⟩
  cases todo with
  | nil=>cases e
  | cons o todo =>
   obtain ⟨rfl,rfl⟩:d = .tup [.int k,o.d] /\ r = enumD (k + 1) (todo.map Ent.d):=by cases e;exact ⟨rfl,rfl⟩
   have hol:oth.length < 900:=by
    have:=hs.length_le;have h2:=congrArg List.length hd;simp at this h2;omega
   have szo:(oth.map Ent.d).length < sizeLine:=by rw [List.length_map];exact Xai (by omega)
   have mem:o ∈ es:=List.mem_of_mem_drop (i:=n) (by rw [hd];simp);have eo:=he.all o mem;have add:∀ x:Ent,x.name = o.name -> Way3 x.way -> L [.fr (.lst (ns.map D.int)),.fr (.lst (es.map Ent.d)),.fr (.dK kvs),.fr (.int first),.fr (.int last),.fr (.int step),.fr (.int same),.ow (.lst (oth.map Ent.d ++ [x.d])),.fr (.int k),.fr o.d,.un,.un,.un,.un,.un,.un]:=λx e1 e2=>by
    refine hL _ _ ⟨k + 1,done ++ [o],todo,oth ++ [x],rfl,by rw [hd];simp,?_,λe hx=>?_,rfl⟩ (by rw [List.map_append];repeat constructor)
    ·rw [List.map_append,List.map_append,List.map_cons,List.map_cons,e1]
     exact hs.append (List.Sublist.refl _)
    ·rcases List.mem_append.mp hx with z | z
     ·exact hw e z
     ·rw [List.mem_singleton.mp z];exact e2
   have skip:L [.fr (.lst (ns.map D.int)),.fr (.lst (es.map Ent.d)),.fr (.dK kvs),.fr (.int first),.fr (.int last),.fr (.int step),.fr (.int same),.ow (.lst (oth.map Ent.d)),.fr (.int k),.fr o.d,.un,.un,.un,.un,.un,.un] :=
    hL _ _ ⟨k + 1,done ++ [o],todo,oth,rfl,by rw [hd];simp,by rw [List.map_append];exact hs.trans (List.sublist_append_left _ _),hw,rfl⟩ (by repeat constructor)
   refine ⟨rfl,?_⟩;refine if_p (p:=((k:Int) + last) % 4 < 2) (λQ q=>⟨cpos,q⟩) (λ_=>?_) (λ_=>?_)
   ·exact ⟨_,rfl,cpos,_,rfl,_,rfl,_,rfl,_,rfl,sz5,szo,add ⟨1 + (o.rank + step) % 9,o.number,o.year,o.way,o.own⟩ rfl eo.way⟩
   ·refine if_eq (p:=((k:Int) + last) % 4 = 2) (λQ q=>⟨cpos,q⟩) (λ_=>?_) (λ_=>skip)
    exact ⟨_,rfl,_,rfl,_,rfl,_,rfl,sz5,szo,add ⟨o.rank,o.number,o.year, "moves", o.own + step⟩ rfl (.inl rfl)⟩
end
theorem lenS {n:Nat} {us:List Value} (h:us.length = n + 1):∃ a vs,us = a :: vs /\ vs.length = n:=by
 cases us with
 | nil=>exact absurd h (λz=>by cases z)
 | cons a vs=>exact ⟨a,vs,rfl,Nat.succ.inj h⟩
theorem Xwc {us:List Value} (h:us.length = 0):us = []:=List.eq_nil_of_length_eq_zero h
theorem Xbe {us:List Value} (h:us.length = 1):∃ a0,us = [a0]:=by
 obtain ⟨a,vs,rfl,h2⟩:=lenS (n:=0) h;obtain rfl:=Xwc h2;exact ⟨a,rfl⟩
theorem Xed {us:List Value} (h:us.length = 2):∃ a0 a1,us = [a0,a1]:=by
 obtain ⟨a,vs,rfl,h2⟩:=lenS (n:=1) h;obtain ⟨a1,rfl⟩:=Xbe h2;exact ⟨a,a1,rfl⟩
theorem Xnm {us:List Value} (h:us.length = 3):∃ a0 a1 a2,us = [a0,a1,a2]:=by
 obtain ⟨a,vs,rfl,h2⟩:=lenS (n:=2) h;obtain ⟨a1,a2,rfl⟩:=Xed h2;exact ⟨a,a1,a2,rfl⟩
theorem Xwb {us:List Value} (h:us.length = 4):∃ a0 a1 a2 a3,us = [a0,a1,a2,a3]:=by
 obtain ⟨a,vs,rfl,h2⟩:=lenS (n:=3) h;obtain ⟨a1,a2,a3,rfl⟩:=Xnm h2;exact ⟨a,a1,a2,a3,rfl⟩
theorem Xwa {us:List Value} (h:us.length = 5):∃ a0 a1 a2 a3 a4,us = [a0,a1,a2,a3,a4]:=by
 obtain ⟨a,vs,rfl,h2⟩:=lenS (n:=4) h;obtain ⟨a1,a2,a3,a4,rfl⟩:=Xwb h2;exact ⟨a,a1,a2,a3,a4,rfl⟩
abbrev LkF (K:PySem.W.Frag) (n:Str) (st:Stmt) (f:Addr) (oc:Value) (od:Option Addr) (kV dc pm:Value) (an:Option Addr) (cd ct:Value) (sl:Array (Option Value)):Prop:=K.lookup f = some ⟨oc,od,.func (PySem.W.fnOf n n (Xdb st) (Xax st) (Xab st) .none kV dc pm an cd ct),sl⟩
theorem mkF2 {P:Program} {w:World} {K:PySem.W.Frag} {mg:Str -> Option Value} {base:Heap} {i j:Nat} {n:Str} {sp:Sp2} {f:Addr} {fd:FuncData} {ps:List Str} (g:∀ base:Heap,FnOk P w K mg base CX0 j f fd ps (Xag K sp)) (m:mg n = some (.ref f)) (k:PySem.W.keepIn K (.ref f) = true) (b:Binds K fd ps []) (h:j <= i):Fn2 P w K mg base i n sp:=⟨⟨f,fd,ps,(g base).mono h,m,k,b⟩⟩
theorem mkF3 {P:Program} {w:World} {K:PySem.W.Frag} {mg:Str -> Option Value} {base:Heap} {i j:Nat} {n:Str} {sp:Sp3} {f:Addr} {fd:FuncData} {ps:List Str} (g:∀ base:Heap,FnOk P w K mg base CX0 j f fd ps (Xng K sp)) (m:mg n = some (.ref f)) (k:PySem.W.keepIn K (.ref f) = true) (b:Binds K fd ps []) (h:j <= i):Fn3 P w K mg base i n sp:=⟨⟨f,fd,ps,(g base).mono h,m,k,b⟩⟩
theorem all_mk {l:PySem.W.OpenLaw} {w:World} {K:PySem.W.Frag} {h:Heap} {mg:Str -> Option Value} {fa:Addr} (X:K.In h) (G:h.Ns mainGlobals mg) (hfa:mg "law" = some (.ref fa))
 {od0 an0:Option Addr} {sl0:Array (Option Value)} {oc0 kV0 dc0 pm0 cd0 ct0:Value} {f0:Addr}
 (a0:PySem.W.nsIn K mainGlobals "places" = some (some (.ref f0))) (l0:LkF K "places" Z33 f0 oc0 od0 kV0 dc0 pm0 an0 cd0 ct0 sl0) (c0:PySem.W.codeIn K cd0 "places" = true) (k0:PySem.W.keepIn K (.ref f0) = true)
{od1 an1:Option Addr} {sl1:Array (Option Value)} {oc1 kV1 dc1 pm1 cd1 ct1:Value} {f1:Addr}
 (a1:PySem.W.nsIn K mainGlobals "turns_among" = some (some (.ref f1))) (l1:LkF K "turns_among" Zg f1 oc1 od1 kV1 dc1 pm1 an1 cd1 ct1 sl1) (c1:PySem.W.codeIn K cd1 "turns_among" = true) (k1:PySem.W.keepIn K (.ref f1) = true)
{od2 an2:Option Addr} {sl2:Array (Option Value)} {oc2 kV2 dc2 pm2 cd2 ct2:Value} {f2:Addr}
 (a2:PySem.W.nsIn K mainGlobals "names_of" = some (some (.ref f2))) (l2:LkF K "names_of" Z25 f2 oc2 od2 kV2 dc2 pm2 an2 cd2 ct2 sl2) (c2:PySem.W.codeIn K cd2 "names_of" = true) (k2:PySem.W.keepIn K (.ref f2) = true)
{od3 an3:Option Addr} {sl3:Array (Option Value)} {oc3 kV3 dc3 pm3 cd3 ct3:Value} {f3:Addr}
 (a3:PySem.W.nsIn K mainGlobals "turned" = some (some (.ref f3))) (l3:LkF K "turned" Z34 f3 oc3 od3 kV3 dc3 pm3 an3 cd3 ct3 sl3) (c3:PySem.W.codeIn K cd3 "turned" = true) (k3:PySem.W.keepIn K (.ref f3) = true)
{od4 an4:Option Addr} {sl4:Array (Option Value)} {oc4 kV4 dc4 pm4 cd4 ct4:Value} {f4:Addr}
 (a4:PySem.W.nsIn K mainGlobals "days_of" = some (some (.ref f4))) (l4:LkF K "days_of" Z2o f4 oc4 od4 kV4 dc4 pm4 an4 cd4 ct4 sl4) (c4:PySem.W.codeIn K cd4 "days_of" = true) (k4:PySem.W.keepIn K (.ref f4) = true)
{od5 an5:Option Addr} {sl5:Array (Option Value)} {oc5 kV5 dc5 pm5 cd5 ct5:Value} {f5:Addr}
 (a5:PySem.W.nsIn K mainGlobals "stretch" = some (some (.ref f5))) (l5:LkF K "stretch" Z2j f5 oc5 od5 kV5 dc5 pm5 an5 cd5 ct5 sl5) (c5:PySem.W.codeIn K cd5 "stretch" = true) (k5:PySem.W.keepIn K (.ref f5) = true)
{od6 an6:Option Addr} {sl6:Array (Option Value)} {oc6 kV6 dc6 pm6 cd6 ct6:Value} {f6:Addr}
 (a6:PySem.W.nsIn K mainGlobals "_law_cell" = some (some (.ref f6))) (l6:LkF K "_law_cell" Z18 f6 oc6 od6 kV6 dc6 pm6 an6 cd6 ct6 sl6) (c6:PySem.W.codeIn K cd6 "_law_cell" = true) (k6:PySem.W.keepIn K (.ref f6) = true)
{od7 an7:Option Addr} {sl7:Array (Option Value)} {oc7 kV7 dc7 pm7 cd7 ct7:Value} {f7:Addr}
 (a7:PySem.W.nsIn K mainGlobals "_law_seed" = some (some (.ref f7))) (l7:LkF K "_law_seed" Z17 f7 oc7 od7 kV7 dc7 pm7 an7 cd7 ct7 sl7) (c7:PySem.W.codeIn K cd7 "_law_seed" = true) (k7:PySem.W.keepIn K (.ref f7) = true)
{od8 an8:Option Addr} {sl8:Array (Option Value)} {oc8 kV8 dc8 pm8 cd8 ct8:Value} {f8:Addr}
 (a8:PySem.W.nsIn K mainGlobals "_law_digits" = some (some (.ref f8))) (l8:LkF K "_law_digits" Zq f8 oc8 od8 kV8 dc8 pm8 an8 cd8 ct8 sl8) (c8:PySem.W.codeIn K cd8 "_law_digits" = true) (k8:PySem.W.keepIn K (.ref f8) = true)
{od9 an9:Option Addr} {sl9:Array (Option Value)} {oc9 kV9 dc9 pm9 cd9 ct9:Value} {f9:Addr}
 (a9:PySem.W.nsIn K mainGlobals "_law_whole" = some (some (.ref f9))) (l9:LkF K "_law_whole" Z10 f9 oc9 od9 kV9 dc9 pm9 an9 cd9 ct9 sl9) (c9:PySem.W.codeIn K cd9 "_law_whole" = true) (k9:PySem.W.keepIn K (.ref f9) = true)
{od10 an10:Option Addr} {sl10:Array (Option Value)} {oc10 kV10 dc10 pm10 cd10 ct10:Value} {f10:Addr}
 (a10:PySem.W.nsIn K mainGlobals "_law_is_place" = some (some (.ref f10))) (l10:LkF K "_law_is_place" Z7 f10 oc10 od10 kV10 dc10 pm10 an10 cd10 ct10 sl10) (c10:PySem.W.codeIn K cd10 "_law_is_place" = true) (k10:PySem.W.keepIn K (.ref f10) = true)
{od11 an11:Option Addr} {sl11:Array (Option Value)} {oc11 kV11 dc11 pm11 cd11 ct11:Value} {f11:Addr}
 (a11:PySem.W.nsIn K mainGlobals "_law_are_turns" = some (some (.ref f11))) (l11:LkF K "_law_are_turns" Z2 f11 oc11 od11 kV11 dc11 pm11 an11 cd11 ct11 sl11) (c11:PySem.W.codeIn K cd11 "_law_are_turns" = true) (k11:PySem.W.keepIn K (.ref f11) = true)
{od12 an12:Option Addr} {sl12:Array (Option Value)} {oc12 kV12 dc12 pm12 cd12 ct12:Value} {f12:Addr}
 (a12:PySem.W.nsIn K mainGlobals "_law_lay" = some (some (.ref f12))) (l12:LkF K "_law_lay" Z2e f12 oc12 od12 kV12 dc12 pm12 an12 cd12 ct12 sl12) (c12:PySem.W.codeIn K cd12 "_law_lay" = true) (k12:PySem.W.keepIn K (.ref f12) = true)
{od13 an13:Option Addr} {sl13:Array (Option Value)} {oc13 kV13 dc13 pm13 cd13 ct13:Value} {f13:Addr}
 (a13:PySem.W.nsIn K mainGlobals "_law_head" = some (some (.ref f13))) (l13:LkF K "_law_head" Z1p f13 oc13 od13 kV13 dc13 pm13 an13 cd13 ct13 sl13) (c13:PySem.W.codeIn K cd13 "_law_head" = true) (k13:PySem.W.keepIn K (.ref f13) = true)
{od14 an14:Option Addr} {sl14:Array (Option Value)} {oc14 kV14 dc14 pm14 cd14 ct14:Value} {f14:Addr}
 (a14:PySem.W.nsIn K mainGlobals "_law_entries" = some (some (.ref f14))) (l14:LkF K "_law_entries" Zc f14 oc14 od14 kV14 dc14 pm14 an14 cd14 ct14 sl14) (c14:PySem.W.codeIn K cd14 "_law_entries" = true) (k14:PySem.W.keepIn K (.ref f14) = true)
{od15 an15:Option Addr} {sl15:Array (Option Value)} {oc15 kV15 dc15 pm15 cd15 ct15:Value} {f15:Addr}
 (a15:PySem.W.nsIn K mainGlobals "_law_shut" = some (some (.ref f15))) (l15:LkF K "_law_shut" Z19 f15 oc15 od15 kV15 dc15 pm15 an15 cd15 ct15 sl15) (c15:PySem.W.codeIn K cd15 "_law_shut" = true) (k15:PySem.W.keepIn K (.ref f15) = true)
{od16 an16:Option Addr} {sl16:Array (Option Value)} {oc16 kV16 dc16 pm16 cd16 ct16:Value} {f16:Addr}
 (a16:PySem.W.nsIn K mainGlobals "_law_laid" = some (some (.ref f16))) (l16:LkF K "_law_laid" Z14 f16 oc16 od16 kV16 dc16 pm16 an16 cd16 ct16 sl16) (c16:PySem.W.codeIn K cd16 "_law_laid" = true) (k16:PySem.W.keepIn K (.ref f16) = true)
{od17 an17:Option Addr} {sl17:Array (Option Value)} {oc17 kV17 dc17 pm17 cd17 ct17:Value} {f17:Addr}
 (a17:PySem.W.nsIn K mainGlobals "_law_places" = some (some (.ref f17))) (l17:LkF K "_law_places" Zn f17 oc17 od17 kV17 dc17 pm17 an17 cd17 ct17 sl17) (c17:PySem.W.codeIn K cd17 "_law_places" = true) (k17:PySem.W.keepIn K (.ref f17) = true)
{od18 an18:Option Addr} {sl18:Array (Option Value)} {oc18 kV18 dc18 pm18 cd18 ct18:Value} {f18:Addr}
 (a18:PySem.W.nsIn K mainGlobals "_law_ends" = some (some (.ref f18))) (l18:LkF K "_law_ends" Z1f f18 oc18 od18 kV18 dc18 pm18 an18 cd18 ct18 sl18) (c18:PySem.W.codeIn K cd18 "_law_ends" = true) (k18:PySem.W.keepIn K (.ref f18) = true)
{od19 an19:Option Addr} {sl19:Array (Option Value)} {oc19 kV19 dc19 pm19 cd19 ct19:Value} {f19:Addr}
  (a19:PySem.W.nsIn K mainGlobals "_law_due" = some (some (.ref f19))) (l19:LkF K "_law_due" Z21 f19 oc19 od19 kV19 dc19 pm19 an19 cd19 ct19 sl19) (c19:PySem.W.codeIn K cd19 "_law_due" = true) (k19:PySem.W.keepIn K (.ref f19) = true)
{od20 an20:Option Addr} {sl20:Array (Option Value)} {oc20 kV20 dc20 pm20 cd20 ct20:Value} {f20:Addr}
  (a20:PySem.W.nsIn K mainGlobals "law" = some (some (.ref f20))) (l20:LkF K "law" Z3c f20 oc20 od20 kV20 dc20 pm20 an20 cd20 ct20 sl20) (c20:PySem.W.codeIn K cd20 "law" = true) (k20:PySem.W.keepIn K (.ref f20) = true)
  (z_sorted:PySem.W.nsIn K mainGlobals "sorted" = some none)
  (z_set:PySem.W.nsIn K mainGlobals "set" = some none)
  (z_max:PySem.W.nsIn K mainGlobals "max" = some none)
  (z_min:PySem.W.nsIn K mainGlobals "min" = some none)
  (z_len:PySem.W.nsIn K mainGlobals "len" = some none)
  (z_enumerate:PySem.W.nsIn K mainGlobals "enumerate" = some none)
  (z_isinstance:PySem.W.nsIn K mainGlobals "isinstance" = some none)
  (z_bool:PySem.W.nsIn K mainGlobals "bool" = some none)
  (z_int:PySem.W.nsIn K mainGlobals "int" = some none)
  (z_tuple:PySem.W.nsIn K mainGlobals "tuple" = some none)
  (z_str:PySem.W.nsIn K mainGlobals "str" = some none)
  (z_list:PySem.W.nsIn K mainGlobals "list" = some none)
  (z_range:PySem.W.nsIn K mainGlobals "range" = some none)
  (z_sum:PySem.W.nsIn K mainGlobals "sum" = some none) :
  ∃ fd:FuncData,(∀ (s:Shared) (v:Value),BindsTo s fd ⟨[v],[]⟩ [("_law_script", v)]) /\ ∀ base:Heap,K.In base -> base.Ns mainGlobals mg -> FnOk l.prog w K mg base CX0 5 fa fd ["_law_script"] (Xag K Z3a):=by
 have e:f20 = fa:=by
  have e:=hfa.symm.trans (PySem.W.mg_of X G a20);cases e;rfl
 subst e;have z_sorted:=PySem.W.mg_none_of X G z_sorted;have z_set:=PySem.W.mg_none_of X G z_set;have z_max:=PySem.W.mg_none_of X G z_max;have z_min:=PySem.W.mg_none_of X G z_min;have z_len:=PySem.W.mg_none_of X G z_len;have z_enumerate:=PySem.W.mg_none_of X G z_enumerate;have z_isinstance:=PySem.W.mg_none_of X G z_isinstance;have z_bool:=PySem.W.mg_none_of X G z_bool;have z_int:=PySem.W.mg_none_of X G z_int;have z_tuple:=PySem.W.mg_none_of X G z_tuple;have z_str:=PySem.W.mg_none_of X G z_str;have z_list:=PySem.W.mg_none_of X G z_list;have z_range:=PySem.W.mg_none_of X G z_range;have z_sum:=PySem.W.mg_none_of X G z_sum;have m0:=PySem.W.mg_of X G a0;have T0:=Xas (st:=Z33) l0 c0 k0;have b0:=T0.binds (ps:=["rows"]) λ_ _ _ _ _ _ us hl=>by obtain ⟨_,rfl⟩:=Xbe hl;rfl
 have m1:=PySem.W.mg_of X G a1;have T1:=Xas (st:=Zg) l1 c1 k1;have b1:=T1.binds (ps:=["names", "befores", "afters"]) λ_ _ _ _ _ _ us hl=>by obtain ⟨_,_,_,rfl⟩:=Xnm hl;rfl
 have m2:=PySem.W.mg_of X G a2;have T2:=Xas (st:=Z25) l2 c2 k2;have b2:=T2.binds (ps:=["rows"]) λ_ _ _ _ _ _ us hl=>by obtain ⟨_,rfl⟩:=Xbe hl;rfl
 have m3:=PySem.W.mg_of X G a3;have T3:=Xas (st:=Z34) l3 c3 k3;have b3:=T3.binds (ps:=["befores", "afters"]) λ_ _ _ _ _ _ us hl=>by obtain ⟨_,_,rfl⟩:=Xed hl;rfl
 have m4:=PySem.W.mg_of X G a4;have T4:=Xas (st:=Z2o) l4 c4 k4;have b4:=T4.binds (ps:=["turn"]) λ_ _ _ _ _ _ us hl=>by obtain ⟨_,rfl⟩:=Xbe hl;rfl
 have m5:=PySem.W.mg_of X G a5;have T5:=Xas (st:=Z2j) l5 c5 k5;have b5:=T5.binds (ps:=["turns"]) λ_ _ _ _ _ _ us hl=>by obtain ⟨_,rfl⟩:=Xbe hl;rfl
 have m6:=PySem.W.mg_of X G a6;have T6:=Xas (st:=Z18) l6 c6 k6;have b6:=T6.binds (ps:=["_law_script", "_law_place"]) λ_ _ _ _ _ _ us hl=>by obtain ⟨_,_,rfl⟩:=Xed hl;rfl
 have m7:=PySem.W.mg_of X G a7;have T7:=Xas (st:=Z17) l7 c7 k7;have b7:=T7.binds (ps:=["_law_cell_here"]) λ_ _ _ _ _ _ us hl=>by obtain ⟨_,rfl⟩:=Xbe hl;rfl
 have m8:=PySem.W.mg_of X G a8;have T8:=Xas (st:=Zq) l8 c8 k8;have b8:=T8.binds (ps:=["_law_cell_here", "_law_sizes"]) λ_ _ _ _ _ _ us hl=>by obtain ⟨_,_,rfl⟩:=Xed hl;rfl
 have m9:=PySem.W.mg_of X G a9;have T9:=Xas (st:=Z10) l9 c9 k9;have b9:=T9.binds (ps:=["_law_thing"]) λ_ _ _ _ _ _ us hl=>by obtain ⟨_,rfl⟩:=Xbe hl;rfl
 have m10:=PySem.W.mg_of X G a10;have T10:=Xas (st:=Z7) l10 c10 k10;have b10:=T10.binds (ps:=["_law_place"]) λ_ _ _ _ _ _ us hl=>by obtain ⟨_,rfl⟩:=Xbe hl;rfl
 have m11:=PySem.W.mg_of X G a11;have T11:=Xas (st:=Z2) l11 c11 k11;have b11:=T11.binds (ps:=["_law_found"]) λ_ _ _ _ _ _ us hl=>by obtain ⟨_,rfl⟩:=Xbe hl;rfl
 have m12:=PySem.W.mg_of X G a12;have T12:=Xas (st:=Z2e) l12 c12 k12;have b12:=T12.binds (ps:=["_law_entries_here", "_law_shut_here"]) λ_ _ _ _ _ _ us hl=>by obtain ⟨_,_,rfl⟩:=Xed hl;rfl
 have m13:=PySem.W.mg_of X G a13;have T13:=Xas (st:=Z1p) l13 c13 k13;have b13:=T13.binds (ps:=["_law_script"]) λ_ _ _ _ _ _ us hl=>by obtain ⟨_,rfl⟩:=Xbe hl;rfl
 have m14:=PySem.W.mg_of X G a14;have T14:=Xas (st:=Zc) l14 c14 k14;have b14:=T14.binds (ps:=["_law_cells", "_law_span", "_law_few", "_law_base", "_law_crowd"]) λ_ _ _ _ _ _ us hl=>by obtain ⟨_,_,_,_,_,rfl⟩:=Xwa hl;rfl
 have m15:=PySem.W.mg_of X G a15;have T15:=Xas (st:=Z19) l15 c15 k15;have b15:=T15.binds (ps:=["_law_cell_here", "_law_span", "_law_base"]) λ_ _ _ _ _ _ us hl=>by obtain ⟨_,_,_,rfl⟩:=Xnm hl;rfl
 have m16:=PySem.W.mg_of X G a16;have T16:=Xas (st:=Z14) l16 c16 k16;have b16:=T16.binds (ps:=["_law_script", "_law_most"]) λ_ _ _ _ _ _ us hl=>by obtain ⟨_,_,rfl⟩:=Xed hl;rfl
 have m17:=PySem.W.mg_of X G a17;have T17:=Xas (st:=Zn) l17 c17 k17;have b17:=T17.binds (ps:=["_law_rows"]) λ_ _ _ _ _ _ us hl=>by obtain ⟨_,rfl⟩:=Xbe hl;rfl
 have m18:=PySem.W.mg_of X G a18;have T18:=Xas (st:=Z1f) l18 c18 k18;have b18:=T18.binds (ps:=["_law_turns"]) λ_ _ _ _ _ _ us hl=>by obtain ⟨_,rfl⟩:=Xbe hl;rfl
 have m19:=PySem.W.mg_of X G a19;have T19:=Xas (st:=Z21) l19 c19 k19;have b19:=T19.binds (ps:=["_law_befores", "_law_afters"]) λ_ _ _ _ _ _ us hl=>by obtain ⟨_,_,rfl⟩:=Xed hl;rfl
 have m20:=PySem.W.mg_of X G a20;have T20:=Xas (st:=Z3c) l20 c20 k20;have b20:=T20.binds (ps:=["_law_script"]) λ_ _ _ _ _ _ us hl=>by obtain ⟨_,rfl⟩:=Xbe hl;rfl
 have G0:∀ base:Heap,FnOk l.prog w K mg base CX0 (0 + 1) f0 _ _ (Xag K Z2z):=λbase=>Z30 T0
 have G2:∀ base:Heap,FnOk l.prog w K mg base CX0 (0 + 1) f2 _ _ (Xag K Z29):=λbase=>Z2f T2
 have G4:∀ base:Heap,FnOk l.prog w K mg base CX0 (0 + 1) f4 _ _ (Xag K Z2l):=λbase=>Z2h T4
 have G6:∀ base:Heap,FnOk l.prog w K mg base CX0 (0 + 1) f6 _ _ (Xag K Z1u):=λbase=>Z1e T6  z_len
 have G7:∀ base:Heap,FnOk l.prog w K mg base CX0 (0 + 1) f7 _ _ (Xag K Z1i):=λbase=>Z13 T7
 have G9:∀ base:Heap,FnOk l.prog w K mg base CX0 (0 + 1) f9 _ _ (Xag K Zx):=λbase=>Zz T9  z_isinstance z_bool z_int
 have G12:∀ base:Heap,FnOk l.prog w K mg base CX0 (0 + 1) f12 _ _ (Xag K Z1z):=λbase=>Z1w T12  z_sorted
 have G17:∀ base:Heap,FnOk l.prog w K mg base CX0 (0 + 1) f17 _ _ (Xag K Zk):=λbase=>Zp T17
 have G18:∀ base:Heap,FnOk l.prog w K mg base CX0 (0 + 1) f18 _ _ (Xag K Z16):=λbase=>Z1n T18  z_len z_max z_min
 have G1:∀ base:Heap,FnOk l.prog w K mg base CX0 (1 + 1) f1 _ _ (Xag K Zo):=λbase=>Zs T1 (mkF2 G0 m0 k0 b0 (by decide))
 have G5:∀ base:Heap,FnOk l.prog w K mg base CX0 (1 + 1) f5 _ _ (Xag K Z2k):=λbase=>Z2g T5 (mkF2 G4 m4 k4 b4 (by decide)) z_max z_min
 have G8:∀ base:Heap,FnOk l.prog w K mg base CX0 (1 + 1) f8 _ _ (Xag K Zi):=λbase=>Zh T8 (mkF2 G7 m7 k7 b7 (by decide)) z_enumerate
 have G10:∀ base:Heap,FnOk l.prog w K mg base CX0 (1 + 1) f10 _ _ (Xag K Z9):=λbase=>Z5 T10 (mkF2 G9 m9 k9 b9 (by decide)) z_len z_isinstance z_tuple z_str
 have G19:∀ base:Heap,FnOk l.prog w K mg base CX0 (1 + 1) f19 _ _ (Xag K Z2b):=λbase=>Z24 T19 (mkF2 G17 m17 k17 b17 (by decide)) z_sorted z_set z_list
 have G3:∀ base:Heap,FnOk l.prog w K mg base CX0 (2 + 1) f3 _ _ (Xag K Z2t):=λbase=>Z2y T3 (mkF2 G2 m2 k2 b2 (by decide)) (mkF2 G1 m1 k1 b1 (by decide)) z_sorted z_set
 have G11:∀ base:Heap,FnOk l.prog w K mg base CX0 (2 + 1) f11 _ _ (Xag K Z1):=λbase=>Z0 T11 (mkF2 G9 m9 k9 b9 (by decide)) (mkF2 G10 m10 k10 b10 (by decide)) z_isinstance z_list z_len z_tuple
 have G13:∀ base:Heap,FnOk l.prog w K mg base CX0 (2 + 1) f13 _ _ (Xag K Z1b):=λbase=>Z1s T13 (mkF2 G8 m8 k8 b8 (by decide)) (mkF2 G6 m6 k6 b6 (by decide))
 have G14:∀ base:Heap,FnOk l.prog w K mg base CX0 (2 + 1) f14 _ _ (Xag K Zb):=λbase=>Zd T14 (mkF2 G8 m8 k8 b8 (by decide)) z_range z_sum
 have G15:∀ base:Heap,FnOk l.prog w K mg base CX0 (2 + 1) f15 _ _ (Xag K Z1k):=λbase=>Z1l T15 (mkF2 G8 m8 k8 b8 (by decide)) z_range z_min
 have G16:∀ base:Heap,FnOk l.prog w K mg base CX0 (3 + 1) f16 _ _ (Xag K Z1q):=λbase=>Z1r T16 (mkF2 G13 m13 k13 b13 (by decide)) (mkF2 G14 m14 k14 b14 (by decide)) (mkF2 G15 m15 k15 b15 (by decide)) (mkF2 G6 m6 k6 b6 (by decide))
 have G20:∀ base:Heap,FnOk l.prog w K mg base CX0 (4 + 1) f20 _ _ (Xag K Z3a):=λbase=>Z3b T20 (mkF2 G3 m3 k3 b3 (by decide)) (mkF2 G11 m11 k11 b11 (by decide)) (mkF2 G19 m19 k19 b19 (by decide)) (mkF2 G5 m5 k5 b5 (by decide)) (mkF2 G18 m18 k18 b18 (by decide)) (mkF2 G12 m12 k12 b12 (by decide)) (mkF2 G15 m15 k15 b15 (by decide)) (mkF2 G6 m6 k6 b6 (by decide)) (mkF2 G16 m16 k16 b16 (by decide)) (mkF2 G8 m8 k8 b8 (by decide)) z_list z_len z_enumerate
 exact ⟨PySem.W.fnOf "law" "law" (Xdb Z3c) (Xax Z3c) (Xab Z3c) .none kV20 dc20 pm20 an20 cd20 ct20,λs v=>.of_eq rfl,λbase _ _=>G20 base⟩
theorem Xwd {K:PySem.W.Frag} {H:Hp} {a:Addr} {ns:List Int} (hl:ns.length <= 63) (hS:SqL K H a (ns.map V.int)):Xag K Z3a [.ref a] H (λv _=>v = .bl true) E0 :=
 ⟨[.lst (ns.map .int)],λr=>r = .val (.bl true),Reps.cons (by simp only [Rep];exact ⟨a,_,rfl,hS,Reps.ints ns⟩) Reps.nil,⟨ns,rfl,hl,rfl⟩,λv H' r ok e=>by subst e;exact (by simpa only [Rep] using ok.2)⟩
theorem walk {l:PySem.W.OpenLaw} {q:Program} {loose:List Str} {XP:(Str -> Option Value) -> Heap -> Prop} {YP:World -> Heap -> Prop} {d:DefRec} {K:Params -> PySem.W.Frag} (hn:l.most = some 63) (hdf:d.params.defaults = [])
(hY:∀ (w:World) (h:Heap),YP w h -> (K w.params).In h)
(F:∀ (w:World) (mg:Str -> Option Value) (fa:Addr) (h:Heap),(K w.params).In h -> h.Ns mainGlobals mg -> mg d.name = some (.ref fa) ->
∃ fd:FuncData,(∀ (s:Shared) (u:Value),BindsTo s fd ⟨[u],[]⟩ [("_law_script", u)]) /\ ∀ base:Heap,(K w.params).In base -> base.Ns mainGlobals mg -> FnOk l.prog w (K w.params) mg base CX0 5 fa fd ["_law_script"] (Xag (K w.params) Z3a)) :
PySem.W.WalkO q loose XP YP l.row.toRowW d [] (λf vs=>PySem.call f vs) :=
 L2.walk_of (n:=63) (k:=5) (x := "_law_script") (CX:=λ_=>CX0) (sp:=λw=>Xag (K w.params) Z3a) hn (by decide) hdf ⟨rfl,by decide,by decide⟩ hY F (λ_ _ a ns hl _ hS=>Xwd hl hS) λ_ _ _ _ _ z=>z
end My
open PySem PySem.W PyProof.Rows
local macro_rules | `(tactic| refine $e) => do
 let e' <- e.raw.replaceM fun x => if x.isIdent && x.getId == `hl then pure (some (Lean.mkIdent `hq).raw) else pure none
 if e' == e.raw then Lean.Macro.throwUnsupported else
  let e' : Lean.TSyntax `term := ⟨e'⟩
  `(tactic| refine $e')
set_option maxRecDepth 100000 in
set_option maxHeartbeats 0 in
theorem PySem.Challenge.cw_feastfall_k23_turns_between_two_layings_holds : PySem.Challenge.rw_feastfall_k23_turns_between_two_layings.Holds := by
 w_on; o_law; k_head; (case hq => intro w; kernel_rfl); (case hw => w_witness2)
 k_fill
 refine My.walk (l := PySem.Challenge.rw_feastfall_k23_turns_between_two_layings) rfl rfl (fun w h Y => PySem.W.kIn_of Y) ?F
 case F =>
  intro w mg fa h KX G hmg; refine' My.all_mk KX G hmg ?a0 ?l0 ?c0 ?k0 ?a1 ?l1 ?c1 ?k1 ?a2 ?l2 ?c2 ?k2 ?a3 ?l3 ?c3 ?k3 ?a4 ?l4 ?c4 ?k4 ?a5 ?l5 ?c5 ?k5 ?a6 ?l6 ?c6 ?k6 ?a7 ?l7 ?c7 ?k7 ?a8 ?l8 ?c8 ?k8 ?a9 ?l9 ?c9 ?k9 ?a10 ?l10 ?c10 ?k10 ?a11 ?l11 ?c11 ?k11 ?a12 ?l12 ?c12 ?k12 ?a13 ?l13 ?c13 ?k13 ?a14 ?l14 ?c14 ?k14 ?a15 ?l15 ?c15 ?k15 ?a16 ?l16 ?c16 ?k16 ?a17 ?l17 ?c17 ?k17 ?a18 ?l18 ?c18 ?k18 ?a19 ?l19 ?c19 ?k19 ?a20 ?l20 ?c20 ?k20 ?z_sorted ?z_set ?z_max ?z_min ?z_len ?z_enumerate ?z_isinstance ?z_bool ?z_int ?z_tuple ?z_str ?z_list ?z_range ?z_sum
  (case a0 => k_is); (case l0 => unfold My.LkF; k_is); (case c0 => k_is); (case k0 => k_is); (case a1 => k_is); (case l1 => unfold My.LkF; k_is); (case c1 => k_is); (case k1 => k_is); (case a2 => k_is); (case l2 => unfold My.LkF; k_is); (case c2 => k_is); (case k2 => k_is); (case a3 => k_is); (case l3 => unfold My.LkF; k_is); (case c3 => k_is); (case k3 => k_is); (case a4 => k_is); (case l4 => unfold My.LkF; k_is); (case c4 => k_is); (case k4 => k_is); (case a5 => k_is); (case l5 => unfold My.LkF; k_is); (case c5 => k_is); (case k5 => k_is); (case a6 => k_is); (case l6 => unfold My.LkF; k_is); (case c6 => k_is); (case k6 => k_is); (case a7 => k_is); (case l7 => unfold My.LkF; k_is); (case c7 => k_is); (case k7 => k_is); (case a8 => k_is); (case l8 => unfold My.LkF; k_is); (case c8 => k_is); (case k8 => k_is); (case a9 => k_is); (case l9 => unfold My.LkF; k_is); (case c9 => k_is); (case k9 => k_is); (case a10 => k_is); (case l10 => unfold My.LkF; k_is); (case c10 => k_is); (case k10 => k_is); (case a11 => k_is); (case l11 => unfold My.LkF; k_is); (case c11 => k_is); (case k11 => k_is); (case a12 => k_is); (case l12 => unfold My.LkF; k_is); (case c12 => k_is); (case k12 => k_is); (case a13 => k_is); (case l13 => unfold My.LkF; k_is); (case c13 => k_is); (case k13 => k_is); (case a14 => k_is); (case l14 => unfold My.LkF; k_is); (case c14 => k_is); (case k14 => k_is); (case a15 => k_is); (case l15 => unfold My.LkF; k_is); (case c15 => k_is); (case k15 => k_is); (case a16 => k_is); (case l16 => unfold My.LkF; k_is); (case c16 => k_is); (case k16 => k_is); (case a17 => k_is); (case l17 => unfold My.LkF; k_is); (case c17 => k_is); (case k17 => k_is); (case a18 => k_is); (case l18 => unfold My.LkF; k_is); (case c18 => k_is); (case k18 => k_is); (case a19 => k_is); (case l19 => unfold My.LkF; k_is); (case c19 => k_is); (case k19 => k_is); (case a20 => k_is); (case l20 => unfold My.LkF; k_is); (case c20 => k_is); (case k20 => k_is); (case z_sorted => k_is); (case z_set => k_is); (case z_max => k_is); (case z_min => k_is); (case z_len => k_is); (case z_enumerate => k_is); (case z_isinstance => k_is); (case z_bool => k_is); (case z_int => k_is); (case z_tuple => k_is); (case z_str => k_is); (case z_list => k_is); (case z_range => k_is); (case z_sum => k_is)
