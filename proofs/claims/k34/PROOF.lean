import PyProof.Rows.All
import Wide.All
import OpenK.AllK
import Wide.FinOn
import Lean
import PyProof.EqAt
import PyProof.EqKinds
import PyProof.TupleCall
import PySem.Challenge.RW_feastfall_k34_whole_runs_stand_alone
set_option Elab.async false
set_option linter.all false
set_option maxRecDepth 100000
namespace L2
open PySem PySem.Spec PyProof.Rows
abbrev Key:=Sum Int Str
def keyIs:Key -> Value -> Bool
  | .inl k,v=>Value.isInt k v
  | .inr x,v=>Value.isStrOf x v
def keyH (w:World):Key -> Int
  | .inl k=>hashInt k
  | .inr x=>hashStr w x
theorem keyIs_shape:∀ {k:Key} {v:Value},keyIs k v = true -> (∃ i t,k = Sum.inl i /\ v = Value.int i t) \/ (∃ x t,k = Sum.inr x /\ v = Value.str x t)
  | .inl i,v,h=>by
    obtain ⟨t,e⟩:=Value.isInt_shape (k:=i) (v:=v) h;exact .inl ⟨i,t,rfl,e⟩
  | .inr x,v,h=>by
    obtain ⟨t,e⟩:=Value.isStrOf_shape (x:=x) (v:=v) h;exact .inr ⟨x,t,rfl,e⟩
theorem keyIs_int (i:Int) (t:Tok):keyIs (.inl i) (.int i t) = true:=by simp [keyIs,Value.isInt]
theorem keyIs_str (x:Str) (t:Tok):keyIs (.inr x) (.str x t) = true:=by simp [keyIs,Value.isStrOf]
theorem key_ll (a b:Int):decide ((Sum.inl a:Key) = Sum.inl b) = (a == b):=by
  by_cases e:a = b
  · subst e;simp
  · have h:¬ (Sum.inl a:Key) = Sum.inl b:=λq=>e (Sum.inl.inj q)
    rw [decide_eq_false h];exact (beq_eq_false_iff_ne.mpr e).symm
theorem key_rr (a b:Str):decide ((Sum.inr a:Key) = Sum.inr b) = decide (a = b):=by
  by_cases e:a = b
  · subst e;simp
  · have h:¬ (Sum.inr a:Key) = Sum.inr b:=λq=>e (Sum.inr.inj q)
    rw [decide_eq_false h,decide_eq_false e]
theorem key_lr (a:Int) (b:Str):decide ((Sum.inl a:Key) = Sum.inr b) = false:=decide_eq_false (λq=>nomatch q)
theorem key_rl (a:Str) (b:Int):decide ((Sum.inr a:Key) = Sum.inl b) = false:=decide_eq_false (λq=>nomatch q)
def mixKind (prog:Program) (w:World):PySem.KeyKind prog w Key where
  is:=keyIs
  hash:=keyH w
  inj:=λv a b ha hb=>by
    rcases keyIs_shape ha with ⟨i,t,rfl,rfl⟩ | ⟨x,t,rfl,rfl⟩
    · rcases keyIs_shape hb with ⟨j,u,rfl,e⟩ | ⟨y,u,rfl,e⟩
      · injection e with e1 _;rw [e1]
      · exact nomatch e
    · rcases keyIs_shape hb with ⟨j,u,rfl,e⟩ | ⟨y,u,rfl,e⟩
      · exact nomatch e
      · injection e with e1 _;rw [e1]
  byValue:=λk v h=>by
    rcases keyIs_shape h with ⟨i,t,rfl,rfl⟩ | ⟨x,t,rfl,rfl⟩ <;> rfl
  pyHash:=λhv h=>by
    rcases keyIs_shape hv with ⟨i,t,rfl,rfl⟩ | ⟨x,t,rfl,rfl⟩
    · exact wpAny_pyHash_int h
    · exact wpAny_pyHash_str h
  eqBool:=λhu hv h=>by
    rcases keyIs_shape hu with ⟨i,t,rfl,rfl⟩ | ⟨x,t,rfl,rfl⟩
    · rcases keyIs_shape hv with ⟨j,u,rfl,rfl⟩ | ⟨y,u,rfl,rfl⟩
      · rw [key_ll] at h;exact wpAny_eqBool_int h
      · rw [key_lr] at h;exact SeqAt.EqAt.int_str i t y u _ _ _ _ h
    · rcases keyIs_shape hv with ⟨j,u,rfl,rfl⟩ | ⟨y,u,rfl,rfl⟩
      · rw [key_rl] at h;exact SeqAt.EqAt.str_int x t j u _ _ _ _ h
      · rw [key_rr] at h;exact wpAny_eqBool_str h
  «strs» := λk x t v h=>by
    rcases keyIs_shape h with ⟨i,u,rfl,e⟩ | ⟨y,u,rfl,e⟩
    · exact nomatch e
    · injection e with e1 _
      subst e1
      cases v <;> rfl
theorem mixKind_int (prog:Program) (w:World) (i:Int) (t:Tok):(mixKind prog w).is (.inl i) (.int i t) = true:=keyIs_int i t
theorem mixKind_str (prog:Program) (w:World) (x:Str) (t:Tok):(mixKind prog w).is (.inr x) (.str x t) = true:=keyIs_str x t
inductive V where
  | non | bl (b:Bool) | int (i:Int) | str (x:Str) | byt (b:Array UInt8) | flt (b:UInt64) | ref (a:Addr) | ty (n:String)
  deriving DecidableEq
def RelV:V -> Value -> Prop
  | .non,u=>u = Value.none
  | .bl b,u=>u = Value.bool b
  | .int i,u=>∃ t,u = Value.int i t
  | .str x,u=>∃ t,u = Value.str x t
  | .byt b,u=>∃ t,u = Value.bytes b t
  | .flt b,u=>∃ t,u = Value.float b t
  | .ref a,u=>u = Value.ref a
  | .ty n,u=>u = Value.type n
abbrev Vals:List V -> List Value -> Prop:=Paired RelV
theorem Vals.length {xs:List V} {us:List Value} (r:Vals xs us):xs.length = us.length:=Paired.length r
theorem Vals.get:∀ {xs:List V} {us:List Value} {i:Nat} {x:V},Vals xs us -> xs[i]? = some x -> ∃ u,us[i]? = some u /\ RelV x u
  | _,_,_,_,.nil,e=>by simp at e
  | _,_,0,_,.cons r _,e=>by simp at e;subst e;exact ⟨_,rfl,r⟩
  | _,_,i + 1,x,.cons _ t,e=>by
    obtain ⟨u,h1,h2⟩:=Vals.get (i:=i) (x:=x) t (by simpa using e);exact ⟨u,by simpa using h1,h2⟩
theorem Vals.append:∀ {xs ys:List V} {us ws:List Value},Vals xs us -> Vals ys ws -> Vals (xs ++ ys) (us ++ ws)
  | _,_,_,_,.nil,s=>s
  | _,_,_,_,.cons r t,s=>.cons r (Vals.append t s)
theorem Vals.take:∀ {xs:List V} {us:List Value} (n:Nat),Vals xs us -> Vals (xs.take n) (us.take n)
  | _,_,0,_=>.nil
  | _,_,_ + 1,.nil=>.nil
  | _,_,n + 1,.cons r t=>.cons r (Vals.take n t)
theorem Vals.drop:∀ {xs:List V} {us:List Value} (n:Nat),Vals xs us -> Vals (xs.drop n) (us.drop n)
  | _,_,0,r=>r
  | _,_,_ + 1,.nil=>.nil
  | _,_,n + 1,.cons _ t=>Vals.drop n t
def RelO:Option V -> Option Value -> Prop
  | some v,some u=>RelV v u
  | none,none=>True
  | _,_=>False
def KV {κ:Type}:List (κ × V) -> List (κ × Value) -> Prop:=Paired λ(p:κ × V) (q:κ × Value)=>p.1 = q.1 /\ RelV p.2 q.2
def kV:Key -> V
  | .inl i=>.int i
  | .inr x=>.str x
inductive HO where
  | lst (xs:List V)
  | tup (xs:List V)
  | dK (kvs:List (Key × V)) | dT (kvs:List (List Key × V))
  | set (S:Int -> Bool) (n:Nat)
  | ins (C dx:Addr) (fs:List (Str × V))
  | own (x:Addr)
  | xd (fs:List (Str × V))
  | met (f x:Addr)
  | rng (lo hi:Int)
  | frz (o:Obj) (u:HO)
  | tbl (ps:Array Value)
  | ext (φ:Heap -> Prop)
abbrev Hp:=Addr -> Option HO
def upd (H:Hp) (a:Addr) (o:HO):Hp:=λb=>if b = a then some o else H b
theorem upd_same {H:Hp} {a:Addr} {o:HO}:upd H a o a = some o:=by unfold upd;rw [if_pos rfl]
theorem upd_ne {H:Hp} {a b:Addr} {o:HO} (h:b ≠ a):upd H a o b = H b:=by unfold upd;rw [if_neg h]
theorem ne_of {H:Hp} {a b:Addr} {o u:HO} (h:H a = some o) (h':H b = some u) (d:o ≠ u):a ≠ b:=by
  intro e;subst e;rw [h] at h';exact d (Option.some.inj h')
theorem ne_of_none {H:Hp} {a b:Addr} {o:HO} (h:H a = some o) (h':H b = none):a ≠ b:=by
  intro e;subst e;rw [h] at h';cases h'
section
variable (P:Program) (w:World)
def ObjOk (H:Hp) (h:Heap) (a:Addr):HO -> Prop
  | .lst xs=>xs.length <= sizeLine /\ ∃ (its:List Value) (n:Nat),Vals xs its /\ h.get? a = some { cls:=.type "list", data:=.seq its.toArray n }
  | .tup xs=>xs.length <= sizeLine /\ ∃ its:List Value,Vals xs its /\ IsTup h a its.toArray
  | .dK kvs=>kvs.length <= sizeLine /\ (a == sysModules) = false /\ ∃ vs,KV kvs vs /\ h.DictOf (mixKind P w) a vs
  | .dT kvs=>kvs.length <= sizeLine /\ (a == sysModules) = false /\ ∃ xs:List (List Key × Addr × Value),
      Paired (λ(p:List Key × V) (q:List Key × Addr × Value)=>p.1 = q.1 /\ H q.2.1 = some (.tup (p.1.map kV)) /\ RelV p.2 q.2.2) kvs xs /\
      ∃ o es ep,h.get? a = some o /\ o.ExactDict /\ o.data = .dict es ep /\ es.toList = xs.map (entryOfKey (tupleKind (mixKind P w))) /\ (xs.map (·.1)).Nodup
  | .set S n=>h.SetOf (intKind P w) a S n
  | .ins C dx fs=>H dx = some (.own a) /\ fs.length <= 1000 /\ dx ≠ a /\ h.get? a = some (PySem.W.instObj C dx) /\
      ∃ mA,h.Ns1 dx mA /\ (∀ f,RelO (fs.lookup f) (mA f)) /\ PySem.Within mA (fs.map (·.1))
  | .own _=>∃ o,h.get? a = some o
  | .xd fs=>∃ mA,h.Ns1 a mA /\ ∀ f,RelO (fs.lookup f) (mA f)
  | .rng lo hi=>∃ t u v,h.get? a = some { cls:=.type "range", data:=.fields #[.int lo t,.int hi u,.int 1 v] }
  | .frz o u=>h.get? a = some o /\ ObjOk H h a u
  | .tbl ps=>h.get? a = some { cls:=.none,data:=.fields ps }
  | .met f x=>h.get? a = some (PySem.W.methodObj (.ref f) (.ref x))
  | .ext φ=>φ h /\ (∃ o,h.get? a = some o) /\ ∀ h1 h2:Heap,φ h1 -> (∀ o,h1.get? a = some o -> h2.get? a = some o) -> φ h2
def HOk (H:Hp) (h:Heap):Prop:=∀ a o,H a = some o -> ObjOk P w H h a o
end
section
variable {P:Program} {w:World} {H H':Hp} {h h':Heap} {a:Addr} {o:HO}
theorem ObjOk.lt (x:ObjOk P w H h a o):a < h.objs.size:=by
  cases o with
  | lst xs=>obtain ⟨_,_,_,_,e⟩:=x;exact Heap.lt_size e
  | tup xs=>obtain ⟨_,_,_,p⟩:=x;exact p.lt
  | dK kvs=>obtain ⟨_,_,_,_,o,_,_,e,_⟩:=x;exact Heap.lt_size e
  | dT kvs=>obtain ⟨_,_,_,_,o,_,_,e,_⟩:=x;exact Heap.lt_size e
  | set S n=>obtain ⟨o,_,_,_,e,_⟩:=x;exact Heap.lt_size e
  | ins C dx fs=>obtain ⟨_,_,_,e,_⟩:=x;exact Heap.lt_size e
  | own y=>obtain ⟨_,e⟩:=x;exact Heap.lt_size e
  | xd fs=>obtain ⟨_,⟨_,_,_,e,_⟩,_⟩:=x;exact Heap.lt_size e
  | rng lo hi=>obtain ⟨_,_,_,e⟩:=x;exact Heap.lt_size e
  | frz ob u=>obtain ⟨e,_⟩:=x;exact Heap.lt_size e
  | tbl ps=>exact Heap.lt_size (show h.get? a = some _ from x)
  | met f y=>exact Heap.lt_size (show h.get? a = some _ from x)
  | ext φ=>obtain ⟨_,⟨_,e⟩,_⟩:=x;exact Heap.lt_size e
theorem Paired.mapP {α β:Type} {F G:α -> β -> Prop}:∀ {l₁:List α} {l₂:List β},Paired F l₁ l₂ -> (∀ a b,F a b -> G a b) -> Paired G l₁ l₂
  | _,_,.nil,_=>.nil
  | _,_,.cons r t,f=>.cons (f _ _ r) (Paired.mapP t f)
theorem ObjOk.stay (x:ObjOk P w H h a o) (k:∀ b u,(b = a \/ H b = some (.own a)) -> h.get? b = some u -> h'.get? b = some u)
 (ho:∀ b,H b = some (.own a) -> H' b = some (.own a)) (ht:∀ b xs,H b = some (.tup xs) -> H' b = some (.tup xs)):ObjOk P w H' h' a o:=by
  induction o with
  | lst xs=>obtain ⟨z,its,n,r,e⟩:=x;exact ⟨z,its,n,r,k _ _ (.inl rfl) e⟩
  | tup xs=>obtain ⟨z,its,r,ob,e,c⟩:=x;exact ⟨z,its,r,ob,k _ _ (.inl rfl) e,c⟩
  | dK kvs=>obtain ⟨z,y,vs,r,ob,es,ep,e,c⟩:=x;exact ⟨z,y,vs,r,ob,es,ep,k _ _ (.inl rfl) e,c⟩
  | dT kvs =>
    obtain ⟨z,y,xs,r,ob,es,ep,e,c⟩:=x;exact ⟨z,y,xs,Paired.mapP r λp q z=>⟨z.1,ht _ _ z.2.1,z.2.2⟩,ob,es,ep,k _ _ (.inl rfl) e,c⟩
  | set S n=>obtain ⟨ob,es,ep,t,e,c⟩:=x;exact ⟨ob,es,ep,t,k _ _ (.inl rfl) e,c⟩
  | ins C dx fs =>
    obtain ⟨d,z,ne,e,mA,⟨od,es,ep,e2,c⟩,r⟩:=x;exact ⟨ho _ d,z,ne,k _ _ (.inl rfl) e,mA,⟨od,es,ep,k _ _ (.inr d) e2,c⟩,r⟩
  | own y=>obtain ⟨ob,e⟩:=x;exact ⟨ob,k _ _ (.inl rfl) e⟩
  | xd fs=>obtain ⟨mA,⟨od,es,ep,e,c⟩,r⟩:=x;exact ⟨mA,⟨od,es,ep,k _ _ (.inl rfl) e,c⟩,r⟩
  | rng lo hi=>obtain ⟨t,u,v,e⟩:=x;exact ⟨t,u,v,k _ _ (.inl rfl) e⟩
  | frz ob u ih=>obtain ⟨e,q⟩:=x;exact ⟨k _ _ (.inl rfl) e,ih q⟩
  | tbl ps =>
    have e:h.get? a = some { cls:=.none,data:=.fields ps }:=x
    show h'.get? a = some { cls:=.none,data:=.fields ps }
    exact k a _ (.inl rfl) e
  | met f y =>
    have e:h.get? a = some (PySem.W.methodObj (.ref f) (.ref y)):=x
    show h'.get? a = some (PySem.W.methodObj (.ref f) (.ref y))
    exact k a _ (.inl rfl) e
  | ext φ=>obtain ⟨p,⟨o,e⟩,st⟩:=x;exact ⟨st _ _ p λo q=>k _ _ (.inl rfl) q,⟨o,k _ _ (.inl rfl) e⟩,st⟩
theorem HOk.lt (x:HOk P w H h) (e:H a = some o):a < h.objs.size:=(x a o e).lt
theorem HOk.fresh (x:HOk P w H h) (e:h.objs.size <= a):H a = none:=by
  cases q:H a with
  | none=>rfl
  | some u=>exact absurd (Nat.lt_of_lt_of_le (x.lt q) e) (Nat.lt_irrefl _)
theorem HOk.kept (x:HOk P w H h) (k:∀ b u,h.get? b = some u -> h'.get? b = some u):HOk P w H h':=λa o e =>
  (x a o e).stay (λb u _ q=>k b u q) (λ_ q=>q) λ_ _ q=>q
theorem HOk.laid (x:HOk P w H h) (k:∀ b u,h.get? b = some u -> h'.get? b = some u) (hp:h.objs.size <= a) (new:ObjOk P w (upd H a o) h' a o):HOk P w (upd H a o) h':=λb u e=>by
  have hn:=x.fresh hp
  by_cases hb:b = a
  · subst hb;rw [upd_same] at e;cases e;exact new
  · rw [upd_ne hb] at e
    exact (x b u e).stay (λc v _ q=>k c v q) (λc q=>by rw [upd_ne (ne_of_none q hn)];exact q) λc xs q=>by rw [upd_ne (ne_of_none q hn)];exact q
end
def Rd (H:Hp) (a:Addr) (u:HO):Prop:=H a = some u \/ ∃ o,H a = some (.frz o u)
theorem Rd.ok {P:Program} {w:World} {H:Hp} {h:Heap} {a:Addr} {u:HO} (r:Rd H a u) (x:HOk P w H h):ObjOk P w H h a u:=by
  rcases r with r | ⟨o,r⟩
  · exact x a u r
  · obtain ⟨_,q⟩:=x a _ r
    exact q
def Mut:Option HO -> Prop
  | some (.lst _)=>True
  | some (.dK _)=>True
  | some (.dT _)=>True
  | some (.set _ _)=>True
  | some (.ins _ _ _)=>True
  | some (.ext _)=>True
  | _=>False
section
variable {P:Program} {w:World} {H:Hp} {h h':Heap} {x e:Addr} {o':HO}
theorem HOk.write (ok:HOk P w H h) (mu:Mut (H x)) (he:e = x \/ H e = some (.own x)) (k:∀ b u,b ≠ e -> h.get? b = some u -> h'.get? b = some u) (heo:∃ u,h'.get? e = some u)
 (new:ObjOk P w (upd H x o') h' x o'):HOk P w (upd H x o') h':=λb u q=>by
  have nown:∀ c y,H c = some (.own y) -> c ≠ x:=λc y r z=>by subst z;rw [r] at mu;exact mu
  have ntup:∀ c xs,H c = some (.tup xs) -> c ≠ x:=λc xs r z=>by subst z;rw [r] at mu;exact mu
  by_cases hb:b = x
  · subst hb;rw [upd_same] at q;cases q;exact new
  · rw [upd_ne hb] at q
    by_cases hbe:b = e
    · have q':H b = some (.own x):=by
        rcases he with z | z
        · exact absurd (hbe.trans z) hb
        · rw [hbe];exact z
      rw [q] at q';cases q';obtain ⟨v,hv⟩:=heo;exact ⟨v,by rw [hbe];exact hv⟩
    · refine (ok b u q).stay (λc v hc r=>k c v ?_ r) (λc r=>by rw [upd_ne (nown c b r)];exact r) λc xs r=>by rw [upd_ne (ntup c xs r)];exact r
      rcases hc with rfl | hc
      · exact hbe
      · rintro rfl
        rcases he with z | z
        · exact nown c b hc z
        · rw [hc] at z;cases z;exact hb rfl
end
structure Un (fs ex:List Addr) (H H':Hp) (h h':Heap):Prop where
  keep:∀ b o,h.get? b = some o -> H b = none -> b ∉ fs -> b ∉ ex -> h'.get? b = some o
  slot:∀ b o,h.get? b = some o -> H b = none -> b ∈ fs -> b ∉ ex -> ∃ sl,h'.get? b = some { o with slots:=sl }
  free:∀ b o,h.get? b = some o -> H b = none -> b ∉ ex -> H' b = none
  there:∀ b o,h.get? b = some o -> b ∉ ex -> ∃ o',h'.get? b = some o'
  tups:∀ b xs,H b = some (.tup xs) -> H' b = some (.tup xs)
  frzs:∀ b o u,H b = some (.frz o u) -> H' b = some (.frz o u)
  tbls:∀ b ps,H b = some (.tbl ps) -> ∃ more,H' b = some (.tbl (ps ++ more))
section
variable {fs fs' ex ex':List Addr} {H H1 H2:Hp} {h h1 h2 h':Heap} {a x e:Addr} {o:HO}
theorem Un.any (u:Un fs ex H H1 h h1) {b:Addr} {ob:Obj} (q:h.get? b = some ob) (n:H b = none) (hx:b ∉ ex):∃ sl,h1.get? b = some { ob with slots:=sl }:=by
  by_cases hb:b ∈ fs
  · exact u.slot b ob q n hb hx
  · exact ⟨ob.slots,u.keep b ob q n hb hx⟩
theorem Un.kept (k:∀ b u,h.get? b = some u -> h'.get? b = some u):Un fs ex H H h h' :=
  ⟨λb ob q _ _ _=>k b ob q,λb ob q _ _ _=>⟨ob.slots,k b ob q⟩,λ_ _ _ n _=>n,λb ob q _=>⟨ob,k b ob q⟩,λ_ _ q=>q,λ_ _ _ q=>q,λ_ ps q=>⟨#[],by rw [q];simp⟩⟩
theorem Un.refl:Un fs ex H H h h:=Un.kept λ_ _ q=>q
theorem Un.laid (k:∀ b u,h.get? b = some u -> h'.get? b = some u) (hp:h.objs.size <= a) (hn:H a = none):Un fs ex H (upd H a o) h h' where
  keep:=λb u q _ _ _=>k b u q
  slot:=λb u q _ _ _=>⟨u.slots,k b u q⟩
  free:=λb u q n _=>by rw [upd_ne (Nat.ne_of_lt (Nat.lt_of_lt_of_le (Heap.lt_size q) hp))];exact n
  there:=λb u q _=>⟨u,k b u q⟩
  tups:=λb xs q=>by rw [upd_ne (ne_of_none q hn)];exact q
  frzs:=λb u xs q=>by rw [upd_ne (ne_of_none q hn)];exact q
  tbls:=λb ps q=>⟨#[],by rw [upd_ne (ne_of_none q hn),q];simp⟩
theorem Un.write (mu:Mut (H x)) (he:e = x \/ H e = some (.own x)) (k:∀ b u,b ≠ e -> h.get? b = some u -> h'.get? b = some u) (heo:∃ u,h'.get? e = some u):Un fs ex H (upd H x o) h h':=by
  have hx:∀ b,H b = none -> b ≠ x:=λb n z=>by subst z;rw [n] at mu;exact mu
  have hb:∀ b,H b = none -> b ≠ e:=λb n z=>by
    subst z
    rcases he with r | r
    · exact hx b n r
    · rw [n] at r;cases r
  have hm:∀ b u,H b = some u -> ¬ Mut (some u) -> b ≠ x:=λb u q nm z=>by subst z;rw [q] at mu;exact nm mu
  refine ⟨λb u q n _ _=>k b u (hb b n) q,λb u q n _ _=>⟨u.slots,k b u (hb b n) q⟩,λb u q n _=>by rw [upd_ne (hx b n)];exact n,λb u q _=>?_,
    λb xs q=>by rw [upd_ne (hm b _ q λz=>z)];exact q,λb u xs q=>by rw [upd_ne (hm b _ q λz=>z)];exact q,λb ps q=>⟨#[],by rw [upd_ne (hm b _ q λz=>z),q];simp⟩⟩
  by_cases hbe:b = e
  · subst hbe;exact heo
  · exact ⟨u,k b u hbe q⟩
end
def trk (h:Heap) (H:Hp):List Addr:=(List.range h.objs.size).filter λa=>(H a).isSome
def hidT (h:Heap) (H:Hp):Heap:=PySem.W.hideAll h (trk h H)
theorem hidT_size (h:Heap) (H:Hp):(hidT h H).objs.size = h.objs.size:=PySem.W.hideAll_size _ _
theorem hidT_get {h:Heap} {H:Hp} {b:Addr} {o:Obj} (e:h.get? b = some o) (n:H b = none):(hidT h H).get? b = some o :=
  PySem.W.hideAll_get _ e λhm=>by
    have q:(H b).isSome = true:=(List.mem_filter.mp hm).2;rw [n] at q;simp at q
theorem of_hidT {h:Heap} {H:Hp} {b:Addr} {o:Obj} (e:(hidT h H).get? b = some o):h.get? b = some o /\ H b = none:=by
  have e':h.get? b = some o:=PySem.W.of_hideAll (trk h H) e;refine ⟨e',?_⟩
  cases q:H b with
  | none=>rfl
  | some x =>
    have hm:b ∈ trk h H:=List.mem_filter.mpr ⟨List.mem_range.mpr (Heap.lt_size e'),by simp [q]⟩;have z:(hidT h H).get? b = none:=PySem.W.hideAll_none (trk h H) hm;rw [z] at e;cases e
def allNews (g h:Heap) (L:Addr):List (Addr × Obj):=(List.range h.objs.size).filterMap λa=>if a = L \/ (g.get? a).isSome = true then none else (h.get? a).map λo=>(a,o)
def rest (g h:Heap) (L d:Addr):List (Addr × Obj):=(allNews g h L).filter λp=>decide (p.1 ≠ d)
structure Mod (K:PySem.W.Frag) (mg:Str -> Option Value) (base:Heap):Prop where
  kin:K.In base
  glob:base.Ns mainGlobals mg
  blt:∃ mb,base.Ns builtinsNs mb /\ ∀ x:Str,x ≠ "__name__" -> mb x = bootBuiltins x
  nolimit:base.NoLimit
structure Cx where
  prog:Program
  w:World
  K:PySem.W.Frag
  mg:Str -> Option Value
  base:Heap
  A:Around
  N:List Str
  s₀:Shared
  H₀:Hp
  env:Env
  outer:List Env
  stack:List Env
  ex:List Addr
  fn:Str -> Bool
  calm:Bool
  pn:List (Addr × Obj)
  xe:Value -> Shared -> Prop
def frs (l:List Env):List Addr:=l.filterMap (·.frame)
abbrev Cx.fs (X:Cx):List Addr:=frs X.outer
def Vis (sc:Scope) (x:Str):Prop:=sc.names.lookup x = some .local \/ sc.names.lookup x = some .cell \/ sc.names.lookup x = some .free
def Loc (sc:Scope) (x:Str):Prop:=sc.names.lookup x = some .local \/ sc.names.lookup x = some .cell
def Look (env:Env) (h:Heap) (m:Str -> Option Value) (x:Str) (u:Value):Prop :=
  (env.kindOf x = some .local /\ m x = some u) \/ ((env.kindOf x = some .cell \/ env.kindOf x = some .free) /\ ∃ c,env.cells.lookup x = some c /\ h.IsCell c (some u))
structure Cx.Ok (X:Cx):Prop where
  mod:Mod X.K X.mg X.base
  kind:X.env.scope.kind = .function
  glob:X.env.globals = mainGlobals
  blt:X.env.builtins = builtinsNs
  above:X.s₀.heap.objs.size <= X.env.locals
  inj:∀ x y c,X.env.cells.lookup x = some c -> X.env.cells.lookup y = some c -> x = y
  has:∀ x,(X.env.kindOf x = some .cell \/ X.env.kindOf x = some .free) -> ∃ c,X.env.cells.lookup x = some c
  cab:∀ x c,X.fn x = true -> X.env.cells.lookup x = some c -> X.s₀.heap.objs.size <= c
  hd:X.calm = true -> X.A.handled = none
  frames:X.A.frames = some X.stack
  stk:X.stack = X.outer \/ (X.stack = X.env :: X.outer /\ X.env.frame = some X.env.locals)
  exf:∀ b ∈ X.ex,b ≠ X.env.locals /\ ∀ x c,X.env.cells.lookup x = some c -> c ≠ b
  bs:∀ b o,X.base.get? b = some o -> X.s₀.heap.get? b = some o /\ X.H₀ b = none
  bsz:X.base.objs.size <= X.s₀.heap.objs.size
  noex:∀ b o,X.base.get? b = some o -> b ∉ X.ex
  exfs:∀ b ∈ X.ex,b ∉ X.fs
  funs:X.s₀.heap.FunFrames X.base X.outer
  frf:∀ b ∈ X.fs,X.H₀ b = none
structure Inv (X:Cx) (pins:List (Addr × Obj)) (σ:List (Option V)) (H:Hp) (s:Shared):Prop where
  ok:X.Ok
  os:s.os = X.s₀.os
  bare:AllBare s.gens
  base:Un X.fs X.ex X.H₀ H X.s₀.heap s.heap
  loc:∃ m,s.heap.Ns X.env.locals m /\ ∀ (i:Nat) (x:Str) (v:V),X.N[i]? = some x -> σ[i]? = some (some v) -> Vis X.env.scope x -> ∃ u,RelV v u /\ Look X.env s.heap m x u
  cell:∀ x c,X.env.cells.lookup x = some c -> ∃ v,s.heap.IsCell c v
  free:H X.env.locals = none
  freeC:∀ x c,X.env.cells.lookup x = some c -> H c = none
  pin:∀ p ∈ X.pn ++ pins,s.heap.get? p.1 = some p.2 /\ H p.1 = none /\ p.1 ≠ X.env.locals /\ p.1 ∉ X.fs /\ ∀ v,p.2.data ≠ .cell v
  hok:HOk X.prog X.w H s.heap
  len:σ.length = X.N.length
section
variable {X:Cx} {pins:List (Addr × Obj)} {σ:List (Option V)} {H H':Hp} {s:Shared} {h':Heap}
theorem Cx.Ok.nofr (ok:X.Ok) {b:Addr} {o:Obj} (e:X.base.get? b = some o):b ∉ X.fs:=λhb=>by
  have:=(ok.funs.mem hb).1;rw [e] at this;cases this
theorem Inv.bs (I:Inv X pins σ H s):∀ b o,X.base.get? b = some o -> s.heap.get? b = some o /\ H b = none:=λb o e =>
  ⟨I.base.keep b o (I.ok.bs b o e).1 (I.ok.bs b o e).2 (I.ok.nofr e) (I.ok.noex b o e),I.base.free b o (I.ok.bs b o e).1 (I.ok.bs b o e).2 (I.ok.noex b o e)⟩
theorem Inv.bk (I:Inv X pins σ H s):∀ b o,X.base.get? b = some o -> s.heap.get? b = some o:=λb o e=>(I.bs b o e).1
theorem Inv.mod (I:Inv X pins σ H s):Mod X.K X.mg X.base:=I.ok.mod
theorem Inv.kIn (I:Inv X pins σ H s):X.K.In s.heap:=I.ok.mod.kin.keeps I.bk
theorem Inv.lt (I:Inv X pins σ H s):X.env.locals < s.heap.objs.size:=let ⟨_,hn,_⟩:=I.loc;hn.lt
theorem Inv.sz (I:Inv X pins σ H s):X.s₀.heap.objs.size <= s.heap.objs.size:=Nat.le_trans I.ok.above (Nat.le_of_lt I.lt)
theorem Inv.nofs (I:Inv X pins σ H s) {a:Addr} (h:s.heap.objs.size <= a):a ∉ X.fs:=λhb=>by
  obtain ⟨_,o,ho,_⟩:=I.ok.funs.mem hb;exact absurd (Nat.lt_of_lt_of_le (Heap.lt_size ho) (Nat.le_trans I.sz h)) (Nat.lt_irrefl _)
theorem Inv.cne (I:Inv X pins σ H s):∀ x c,X.env.cells.lookup x = some c -> c ≠ X.env.locals:=λx c e z=>by
  obtain ⟨v,o,ho,hd⟩:=I.cell x c e;obtain ⟨m,⟨o',es,ep,ho',hd',_⟩,_⟩:=I.loc;rw [z,ho'] at ho;cases ho;rw [hd'] at hd;cases hd
theorem Inv.funs (I:Inv X pins σ H s):s.heap.FunFrames X.base X.outer:=by
  have all:∀ (l:List Env),(∀ b ∈ frs l,b ∈ X.fs) -> X.s₀.heap.FunFrames X.base l -> s.heap.FunFrames X.base l:=by
    intro l
    induction l with
    | nil=>intro _ _;trivial
    | cons env r ih =>
      intro hs hl;obtain ⟨hk,⟨L,o,hf,hn,ho,hd⟩,hr⟩:=hl;have hL:L ∈ X.fs:=hs L (by unfold frs;rw [List.filterMap_cons,hf];exact List.mem_cons_self);obtain ⟨sl,e⟩:=I.base.slot L o ho (I.ok.frf L hL) hL λz=>I.ok.exfs L z hL
      exact ⟨hk,⟨L,_,hf,hn,e,hd⟩,ih (λb hb=>hs b (by unfold frs;rw [List.filterMap_cons,hf];exact List.mem_cons_of_mem _ hb)) hr⟩
  exact all X.outer (λ_ hb=>hb) I.ok.funs
theorem Inv.stack (I:Inv X pins σ H s):s.heap.FunFrames X.base X.stack:=by
  rcases I.ok.stk with e | ⟨e,hf⟩
  · rw [e];exact I.funs
  · rw [e]
    obtain ⟨m,hn,_⟩:=I.loc;refine .cons (by rw [I.ok.kind];decide) hf hn ?_ I.funs;exact Heap.get?_none_of_le (Nat.le_trans I.ok.bsz I.ok.above)
theorem Inv.stkSub (I:Inv X pins σ H s):∀ b ∈ frs X.stack,b ∈ X.env.locals :: X.fs:=λb hb=>by
  rcases I.ok.stk with e | ⟨e,hf⟩
  · rw [e] at hb;exact List.mem_cons_of_mem _ hb
  · rw [e] at hb
    unfold frs at hb;rw [List.filterMap_cons,hf] at hb;exact hb
theorem Inv.stkFree (I:Inv X pins σ H s):∀ b ∈ frs X.stack,H b = none:=λb hb=>by
  rcases List.mem_cons.mp (I.stkSub b hb) with e | hb
  · rw [e];exact I.free
  · obtain ⟨_,o,ho,_⟩:=I.ok.funs.mem hb
    exact I.base.free b o ho (I.ok.frf b hb) λz=>I.ok.exfs b z hb
theorem Inv.step {g':Array GenState} {t':Nat} {d':Drawn} {ch:List Addr} (I:Inv X pins σ H s)
 (hch:∀ b ∈ ch,(b ∈ X.ex \/ X.s₀.heap.objs.size <= b) /\ b ≠ X.env.locals /\ (∀ x c,X.env.cells.lookup x = some c -> c ≠ b) /\ ∀ p ∈ X.pn ++ pins,p.1 ≠ b)
 (keep:∀ b o,b ≠ X.env.locals -> b ∉ X.fs -> b ∉ ch -> s.heap.get? b = some o -> H b = none -> h'.get? b = some o)
 (slot:∀ b o,b ≠ X.env.locals -> b ∈ X.fs -> b ∉ ch -> s.heap.get? b = some o -> H b = none -> ∃ sl,h'.get? b = some { o with slots:=sl }) (free:∀ b o,b ∉ ch -> s.heap.get? b = some o -> H b = none -> H' b = none)
 (there:∀ b o,b ∉ ch -> s.heap.get? b = some o -> ∃ o',h'.get? b = some o')
 (tups:∀ b xs,H b = some (.tup xs) -> H' b = some (.tup xs)) (frzs:∀ b o u,H b = some (.frz o u) -> H' b = some (.frz o u)) (tbls:∀ b ps,H b = some (.tbl ps) -> ∃ more,H' b = some (.tbl (ps ++ more)))
 (ns:∀ m,s.heap.Ns X.env.locals m -> h'.Ns X.env.locals m) (hok:HOk X.prog X.w H' h') (hg:AllBare g') :
 Inv X pins σ H' { s with heap:=h',gens:=g',drawn:=d',toks:=t' }:=by
  have neL:∀ b o,X.s₀.heap.get? b = some o -> b ≠ X.env.locals:=λb o e=>Nat.ne_of_lt (Nat.lt_of_lt_of_le (Heap.lt_size e) I.ok.above)
  have neC:∀ b o,X.s₀.heap.get? b = some o -> b ∉ X.ex -> b ∉ ch:=λb o e hx hb=>by
    rcases (hch b hb).1 with z | z
    · exact hx z
    · exact absurd (Nat.lt_of_lt_of_le (Heap.lt_size e) z) (Nat.lt_irrefl _)
  have cellK:∀ x c,X.env.cells.lookup x = some c -> ∀ v,s.heap.IsCell c v -> h'.IsCell c v:=λx c e v ⟨o,ho,hd⟩=>by
    have nch:c ∉ ch:=λz=>(hch c z).2.2.1 x c e rfl
    by_cases hc:c ∈ X.fs
    · obtain ⟨sl,q⟩:=slot c o (I.cne x c e) hc nch ho (I.freeC x c e)
      exact ⟨_,q,hd⟩
    · exact ⟨o,keep c o (I.cne x c e) hc nch ho (I.freeC x c e),hd⟩
  refine ⟨I.ok,I.os,hg,⟨λb o e n hb hx=>?_,λb o e n hb hx=>?_,λb o e n hx=>?_,λb o e hx=>?_,λb xs e=>tups b xs (I.base.tups b xs e),λb o xs e=>frzs b o xs (I.base.frzs b o xs e),λb ps e=>?_⟩,?_,λx c e=>?_,?_,λx c e=>?_,λp hp=>?_,hok,I.len⟩
  · exact keep b o (neL b o e) hb (neC b o e hx) (I.base.keep b o e n hb hx) (I.base.free b o e n hx)
  · obtain ⟨sl,e1⟩:=I.base.slot b o e n hb hx
    obtain ⟨sl',e2⟩:=slot b _ (neL b o e) hb (neC b o e hx) e1 (I.base.free b o e n hx);exact ⟨sl',e2⟩
  · obtain ⟨o',e1⟩:=I.base.there b o e hx
    exact free b o' (neC b o e hx) e1 (I.base.free b o e n hx)
  · obtain ⟨o',e1⟩:=I.base.there b o e hx
    exact there b o' (neC b o e hx) e1
  · obtain ⟨m1,e1⟩:=I.base.tbls b ps e
    obtain ⟨m2,e2⟩:=tbls b _ e1;exact ⟨m1 ++ m2,by rw [e2,Array.append_assoc]⟩
  · obtain ⟨m,hn,hl⟩:=I.loc
    refine ⟨m,ns m hn,λi x v e1 e2 e3=>?_⟩;obtain ⟨u,r,l⟩:=hl i x v e1 e2 e3;refine ⟨u,r,?_⟩
    rcases l with l | ⟨k,c,e,z⟩
    · exact .inl l
    · exact .inr ⟨k,c,e,cellK x c e _ z⟩
  · obtain ⟨v,z⟩:=I.cell x c e
    exact ⟨v,cellK x c e v z⟩
  · obtain ⟨m,⟨o,_,_,ho,_⟩,_⟩:=I.loc
    exact free _ o (λz=>(hch _ z).2.1 rfl) ho I.free
  · obtain ⟨v,o,ho,hd⟩:=I.cell x c e
    exact free c o (λz=>(hch c z).2.2.1 x c e rfl) ho (I.freeC x c e)
  · obtain ⟨e,n,ne,nf,d⟩:=I.pin p hp
    have nch:p.1 ∉ ch:=λz=>(hch p.1 z).2.2.2 p hp rfl
    exact ⟨keep p.1 p.2 ne nf nch e n,free p.1 p.2 nch e n,ne,nf,d⟩
theorem Inv.un {t':Nat} (I:Inv X pins σ H s) (u:Un X.fs [] H H' s.heap h') (hok:HOk X.prog X.w H' h'):Inv X pins σ H' { s with heap:=h',toks:=t' }:=by
  obtain ⟨m,⟨o,es,ep,ho,r⟩,_⟩:=id I.loc;obtain ⟨sl,hL⟩:=u.any ho I.free (by simp)
  exact I.step (g':=s.gens) (d':=s.drawn) (ch:=[]) (λ_ z=>nomatch z) (λb o _ hb _ e n=>u.keep b o e n hb (by simp)) (λb o _ hb _ e n=>u.slot b o e n hb (by simp)) (λb o _ e n=>u.free b o e n (by simp)) (λb o _ e=>u.there b o e (by simp)) u.tups u.frzs u.tbls (λm' hm=>by
    obtain ⟨o',es',ep',ho',r'⟩:=hm;rw [ho] at ho';cases ho'
    exact ⟨_,es',ep',hL,r'⟩) hok I.bare
theorem Inv.call {g':Array GenState} {t':Nat} {d':Drawn} {ch:List Addr} (I:Inv X pins σ H s) (u:Un (frs X.stack) ch H H' s.heap h') (hok:HOk X.prog X.w H' h') (hg:AllBare g')
 (hch:∀ b ∈ ch,(b ∈ X.ex \/ X.s₀.heap.objs.size <= b) /\ b ≠ X.env.locals /\ (∀ x c,X.env.cells.lookup x = some c -> c ≠ b) /\ ∀ p ∈ X.pn ++ pins,p.1 ≠ b) :
 Inv X pins σ H' { s with heap:=h',gens:=g',drawn:=d',toks:=t' }:=by
  obtain ⟨m,⟨o,es,ep,ho,r⟩,_⟩:=id I.loc;obtain ⟨sl,hL⟩:=u.any ho I.free λz=>(hch _ z).2.1 rfl
  exact I.step (ch:=ch) hch (λb o hL hb hc e n=>u.keep b o e n (λz=>(List.mem_cons.mp (I.stkSub b z)).elim hL hb) hc) (λb o _ _ hc e n=>u.any e n hc) (λb o hc e n=>u.free b o e n hc) (λb o hc e=>u.there b o e hc) u.tups u.frzs u.tbls (λm' hm=>by
    obtain ⟨o',es',ep',ho',r'⟩:=hm;rw [ho] at ho';cases ho'
    exact ⟨_,es',ep',hL,r'⟩) hok hg
theorem Inv.turned {t':Nat} {it:Addr} (I:Inv X pins σ H s) (k:∀ b o,b ≠ it -> s.heap.get? b = some o -> h'.get? b = some o) (hn:H it = none) (hL:it ≠ X.env.locals)
 (h1:it ∈ X.ex \/ X.s₀.heap.objs.size <= it) (h2:∀ x c,X.env.cells.lookup x = some c -> c ≠ it) (h3:∀ p ∈ X.pn ++ pins,p.1 ≠ it):Inv X pins σ H { s with heap:=h',toks:=t' }:=by
  have nit:∀ b u,H b = some u -> b ≠ it:=λb u e z=>by rw [z,hn] at e;cases e
  refine I.step (g':=s.gens) (d':=s.drawn) (ch:=[it]) (λb hb=>?_) (λb o _ _ hc e _=>k b o (λz=>hc (by simp [z])) e) (λb o _ _ hc e _=>⟨o.slots,k b o (λz=>hc (by simp [z])) e⟩) (λ_ _ _ _ n=>n)
    (λb o hc e=>⟨o,k b o (λz=>hc (by simp [z])) e⟩) (λ_ _ e=>e) (λ_ _ _ e=>e) (λb ps e=>⟨#[],by rw [e];simp⟩) (λm hm=>?_) (λb u e=>?_) I.bare
  · have e:b = it:=by simpa using hb
    subst e;exact ⟨h1,hL,h2,h3⟩
  · obtain ⟨o,es,ep,ho,r⟩:=hm
    exact ⟨o,es,ep,k _ o (Ne.symm hL) ho,r⟩
  · refine (I.hok b u e).stay (λc v hc q=>k c v ?_ q) (λ_ q=>q) λ_ _ q=>q
    rcases hc with z | z
    · rw [z];exact nit b u e
    · exact nit c _ z
theorem Inv.tok (I:Inv X pins σ H s) (t:Nat):Inv X pins σ H { s with toks:=t }:=I.un (h':=s.heap) (t':=t) Un.refl I.hok
theorem Inv.kept {t':Nat} (I:Inv X pins σ H s) (k:∀ b u,s.heap.get? b = some u -> h'.get? b = some u):Inv X pins σ H { s with heap:=h',toks:=t' }:=I.un (Un.kept k) (I.hok.kept k)
theorem Inv.laid {a:Addr} {o:HO} {t':Nat} (I:Inv X pins σ H s) (k:∀ b u,s.heap.get? b = some u -> h'.get? b = some u) (hp:s.heap.objs.size <= a) (new:ObjOk X.prog X.w (upd H a o) h' a o) :
 Inv X pins σ (upd H a o) { s with heap:=h',toks:=t' }:=I.un (Un.laid k hp (I.hok.fresh hp)) (I.hok.laid k hp new)
theorem Inv.write {x e:Addr} {o:HO} {t':Nat} (I:Inv X pins σ H s) (mu:Mut (H x)) (he:e = x \/ H e = some (.own x)) (k:∀ b u,b ≠ e -> s.heap.get? b = some u -> h'.get? b = some u) (heo:∃ u,h'.get? e = some u)
 (new:ObjOk X.prog X.w (upd H x o) h' x o):Inv X pins σ (upd H x o) { s with heap:=h',toks:=t' }:=I.un (Un.write mu he k heo) (I.hok.write mu he k heo new)
theorem Inv.pins_of {pins':List (Addr × Obj)} (I:Inv X pins σ H s) (h:∀ p ∈ pins',s.heap.get? p.1 = some p.2 /\ H p.1 = none /\ p.1 ≠ X.env.locals /\ p.1 ∉ X.fs /\ ∀ v,p.2.data ≠ .cell v):Inv X pins' σ H s :=
  ⟨I.ok,I.os,I.bare,I.base,I.loc,I.cell,I.free,I.freeC,λp hp=>(List.mem_append.mp hp).elim (λz=>I.pin p (List.mem_append_left _ z)) (h p),I.hok,I.len⟩
theorem nodup_ix {N:List Str} (hN:N.Nodup) {i j:Nat} {x:Str} (a:N[i]? = some x) (b:N[j]? = some x):i = j:=by
  obtain ⟨h1,e1⟩:=List.getElem?_eq_some_iff.mp a;obtain ⟨h2,e2⟩:=List.getElem?_eq_some_iff.mp b;exact (List.getElem_inj hN).mp (e1.trans e2.symm)
theorem store_ok2 {M:Model} {A:Around} {E:Value -> Shared -> Prop} {i:Nat} {x:Str} {v:V} {u:Value} {Q:Unit -> Shared -> Prop} (I:Inv X pins σ H s) (hN:X.N.Nodup) (hi:X.N[i]? = some x) (hx:Loc X.env.scope x) (r:RelV v u)
 (h:∀ s',Inv X pins (σ.set i (some v)) H s' -> (∃ a,Heap.SameBut a s.heap s'.heap /\ (a = X.env.locals \/ X.env.cells.lookup x = some a)) -> Q () s') (hf:X.fn x = true \/ X.env.scope.names.lookup x = some .local:=by first | exact .inl rfl | exact .inr rfl | assumption):wpAny M A (storeName X.env x u) Q E s:=by
  obtain ⟨m,hn,hl⟩:=id I.loc;have hcls:(X.env.scope.kind == .class || (X.env.scope.kind == .module && X.env.locals != X.env.globals)) = false:=by rw [I.ok.kind];rfl
  have hiσ:i < σ.length:=by rw [I.len];exact (List.getElem?_eq_some_iff.mp hi).1
  have cne:=I.cne;have tracked:∀ {a:Addr} {h':Heap},(∃ o,s.heap.get? a = some o /\ H a = none) -> Heap.SameBut a s.heap h' -> HOk X.prog X.w H h':=λ{a h'} ha hs b ob e=>by
    obtain ⟨_,_,hfree⟩:=ha;refine (I.hok b ob e).stay (λc w' hc q=>(hs.2 c ?_).trans q) (λ_ q=>q) λ_ _ q=>q
    rintro rfl
    rcases hc with rfl | hc
    · rw [hfree] at e;cases e
    · rw [hfree] at hc;cases hc
  rcases hx with hk | hk
  · refine wpAny_storeName_local hk hn (λh' hn' hs=>?_) hcls
    obtain ⟨oL,_,_,hoL,_⟩:=id hn;refine h _ ⟨I.ok,I.os,I.bare,⟨λb o e n hb hx=>?_,λb o e n hb hx=>?_,I.base.free,λb o e hx=>?_,I.base.tups,I.base.frzs,I.base.tbls⟩,⟨_,hn',λj y v' e1 e2 e3=>?_⟩,λy c e=>?_,I.free,I.freeC,λp hp=>?_,tracked ⟨oL,hoL,I.free⟩ hs,by simpa using I.len⟩ ⟨_,hs,.inl rfl⟩
    · exact (hs.2 b (Nat.ne_of_lt (Nat.lt_of_lt_of_le (Heap.lt_size e) I.ok.above))).trans (I.base.keep b o e n hb hx)
    · obtain ⟨sl,e1⟩:=I.base.slot b o e n hb hx
      exact ⟨sl,(hs.2 b (Nat.ne_of_lt (Nat.lt_of_lt_of_le (Heap.lt_size e) I.ok.above))).trans e1⟩
    · obtain ⟨o',e1⟩:=I.base.there b o e hx
      exact ⟨o',(hs.2 b (Nat.ne_of_lt (Nat.lt_of_lt_of_le (Heap.lt_size e) I.ok.above))).trans e1⟩
    · by_cases hj:j = i
      · subst hj
        rw [hi] at e1;cases e1;rw [List.getElem?_set_self hiσ] at e2;cases e2;exact ⟨u,r,.inl ⟨hk,by simp⟩⟩
      · rw [List.getElem?_set_ne (Ne.symm hj)] at e2
        obtain ⟨u',r',q⟩:=hl j y v' e1 e2 e3;refine ⟨u',r',?_⟩
        rcases q with ⟨k,e⟩ | ⟨k,c,e,z⟩
        · refine .inl ⟨k,?_⟩
          have : y ≠ x:=λe=>hj (nodup_ix hN e1 (e ▸ hi))
          simp [this,e]
        · exact .inr ⟨k,c,e,z.sameBut hs (cne y c e)⟩
    · obtain ⟨w',z⟩:=I.cell y c e
      exact ⟨w',z.sameBut hs (cne y c e)⟩
    · obtain ⟨e,n,ne,nf,d⟩:=I.pin p hp
      exact ⟨(hs.2 p.1 ne).trans e,n,ne,nf,d⟩
  · have hfn:X.fn x = true:=by
      rcases hf with z | z
      · exact z
      · rw [z] at hk;cases hk
    obtain ⟨c,hc⟩:=I.ok.has x (.inl hk);obtain ⟨w',z⟩:=I.cell x c hc;refine wpAny_storeName_cell I.ok.kind hk hc z (λh' hc' hs=>?_);obtain ⟨oc,hoc,hocd⟩:=id z
    refine h { s with heap:=h' } ⟨I.ok,I.os,I.bare,⟨λb o e n hb hx=>?_,λb o e n hb hx=>?_,I.base.free,λb o e hx=>?_,I.base.tups,I.base.frzs,I.base.tbls⟩,⟨m,hn.sameBut hs (Ne.symm (cne x c hc)),λj y v' e1 e2 e3=>?_⟩,λy c' e=>?_,I.free,I.freeC,λp hp=>?_,tracked ⟨oc,hoc,I.freeC x c hc⟩ hs,by simpa using I.len⟩ ⟨c,hs,.inr hc⟩
    · exact (hs.2 b (Nat.ne_of_lt (Nat.lt_of_lt_of_le (Heap.lt_size e) (I.ok.cab x c hfn hc)))).trans (I.base.keep b o e n hb hx)
    · obtain ⟨sl,e1⟩:=I.base.slot b o e n hb hx
      exact ⟨sl,(hs.2 b (Nat.ne_of_lt (Nat.lt_of_lt_of_le (Heap.lt_size e) (I.ok.cab x c hfn hc)))).trans e1⟩
    · obtain ⟨o',e1⟩:=I.base.there b o e hx
      exact ⟨o',(hs.2 b (Nat.ne_of_lt (Nat.lt_of_lt_of_le (Heap.lt_size e) (I.ok.cab x c hfn hc)))).trans e1⟩
    · by_cases hj:j = i
      · subst hj
        rw [hi] at e1;cases e1;rw [List.getElem?_set_self hiσ] at e2;cases e2;exact ⟨u,r,.inr ⟨.inl hk,c,hc,hc'⟩⟩
      · rw [List.getElem?_set_ne (Ne.symm hj)] at e2
        obtain ⟨u',r',q⟩:=hl j y v' e1 e2 e3;refine ⟨u',r',?_⟩
        rcases q with q | ⟨k,c',e,z'⟩
        · exact .inl q
        · refine .inr ⟨k,c',e,z'.sameBut hs ?_⟩
          rintro rfl;exact hj (nodup_ix hN e1 (I.ok.inj _ _ _ e hc ▸ hi))
    · by_cases hcc:c' = c
      · subst hcc;exact ⟨_,hc'⟩
      · obtain ⟨w2,z2⟩:=I.cell y c' e
        exact ⟨w2,z2.sameBut hs hcc⟩
    · obtain ⟨e,n,ne,nf,d⟩:=I.pin p hp
      refine ⟨(hs.2 p.1 ?_).trans e,n,ne,nf,d⟩;intro q;rw [q,hoc] at e;have q':oc = p.2:=Option.some.inj e;exact d w' (by rw [<- q'];exact hocd)
theorem store_ok {M:Model} {A:Around} {E:Value -> Shared -> Prop} {i:Nat} {x:Str} {v:V} {u:Value} {Q:Unit -> Shared -> Prop} (I:Inv X pins σ H s) (hN:X.N.Nodup) (hi:X.N[i]? = some x) (hx:Loc X.env.scope x) (r:RelV v u)
 (h:∀ s',Inv X pins (σ.set i (some v)) H s' -> Q () s') (hf:X.fn x = true \/ X.env.scope.names.lookup x = some .local:=by first | exact .inl rfl | exact .inr rfl | assumption):wpAny M A (storeName X.env x u) Q E s :=
  store_ok2 I hN hi hx r (λs' I' _=>h s' I') hf
end
abbrev XK:=Value -> Option Addr -> Hp -> Prop
abbrev St:=List (Option V)
abbrev VK:=V -> Hp -> Prop
abbrev TE:=St -> Hp -> VK -> Prop
abbrev TT:=St -> Hp -> (Bool -> Hp -> Prop) -> Prop
abbrev TA:=St -> Hp -> (List V -> Hp -> Prop) -> Prop
structure Ends where
  nx:St -> Hp -> Prop
  rt:VK
  bk:St -> Hp -> Prop:=λ_ _=>False
  ct:St -> Hp -> Prop:=λ_ _=>False
abbrev TS:=Ends -> St -> Hp -> Prop
def EP (X:Cx) (pins:List (Addr × Obj)) (σ:St) (Q:VK) (u:Value) (s':Shared):Prop:=∃ v H',Inv X pins σ H' s' /\ RelV v u /\ Q v H'
def TP (X:Cx) (pins:List (Addr × Obj)) (σ:St) (Q:Bool -> Hp -> Prop) (b:Bool) (s':Shared):Prop:=∃ H',Inv X pins σ H' s' /\ Q b H'
def AP (X:Cx) (pins:List (Addr × Obj)) (σ:St) (Q:List V -> Hp -> Prop) (us:List Value) (s':Shared):Prop:=∃ vs H',Inv X pins σ H' s' /\ Vals vs us /\ Q vs H'
def SP (X:Cx) (pins:List (Addr × Obj)) (D:Ends) (f:Flow) (s':Shared):Prop :=
  match f with
  | .next=>∃ σ' H',Inv X pins σ' H' s' /\ D.nx σ' H'
  | .brk=>∃ σ' H',Inv X pins σ' H' s' /\ D.bk σ' H'
  | .cont=>∃ σ' H',Inv X pins σ' H' s' /\ D.ct σ' H'
  | .ret u=>∃ v σ' H',Inv X pins σ' H' s' /\ RelV v u /\ D.rt v H'
def PE (X:Cx) (e:Expr) (t:TE):Prop :=
  ∀ (pins:List (Addr × Obj)) (s:Shared) (σ:St) (H:Hp) (Q:VK),Inv X pins σ H s -> t σ H Q -> wpAny (model X.prog X.w) X.A (eval e X.env) (EP X pins σ Q) X.xe s
def PT (X:Cx) (e:Expr) (t:TT):Prop :=
  ∀ (pins:List (Addr × Obj)) (s:Shared) (σ:St) (H:Hp) (Q:Bool -> Hp -> Prop),Inv X pins σ H s -> t σ H Q -> wpAny (model X.prog X.w) X.A (isTrue e X.env (eval e X.env)) (TP X pins σ Q) X.xe s
def PW (X:Cx) (e:Expr) (t:TT):Prop :=
  ∀ (whole:Sem Value) (pins:List (Addr × Obj)) (s:Shared) (σ:St) (H:Hp) (Q:Bool -> Hp -> Prop),Inv X pins σ H s -> t σ H Q -> wpAny (model X.prog X.w) X.A (isTrue e X.env whole) (TP X pins σ Q) X.xe s
theorem PW.pt {X:Cx} {e:Expr} {t:TT} (h:PW X e t):PT X e t:=h _
def PA (X:Cx) (es:List Expr) (t:TA):Prop :=
  ∀ (pos:Pos) (pins:List (Addr × Obj)) (s:Shared) (σ:St) (H:Hp) (Q:List V -> Hp -> Prop),Inv X pins σ H s -> t σ H Q -> wpAny (model X.prog X.w) X.A (spliced (backTo pos (starEach es X.env))) (AP X pins σ Q) X.xe s
def PS (X:Cx) (st:Stmt) (t:TS):Prop :=
  ∀ (pins:List (Addr × Obj)) (s:Shared) (σ:St) (H:Hp) (D:Ends),Inv X pins σ H s -> t D σ H -> wpAny (model X.prog X.w) X.A (exec st X.env) (SP X pins D) X.xe s
def PSs (X:Cx) (st:List Stmt) (t:TS):Prop :=
  ∀ (pins:List (Addr × Obj)) (s:Shared) (σ:St) (H:Hp) (D:Ends),Inv X pins σ H s -> t D σ H -> wpAny (model X.prog X.w) X.A (execs st X.env) (SP X pins D) X.xe s
theorem thn {α:Type} {t:Sem α} {Q Q':α -> Shared -> Prop} {M:Model} {A:Around} {E:Value -> Shared -> Prop} {s:Shared} (h:wpAny M A t Q E s) (hQ:∀ a s,Q a s -> Q' a s):wpAny M A t Q' E s:=wpAny_mono h hQ λ_ _ x=>x
section
variable {X:Cx}
def tVar (i:Nat):TE:=λσ H Q=>∃ v,σ[i]? = some (some v) /\ Q v H
def tC (v:V):TE:=λ_ H Q=>Q v H
theorem pe_var {i:Nat} {x:Str} {pos:Pos} (hN:X.N[i]? = some x) (hv:Vis X.env.scope x) (hd:(x == ("__debug__" : Str)) = false:=by decide) (hcd:(x == ("__classdict__" : Str)) = false:=by decide):PE X (.Name x pos) (tVar i):=by
  intro pins s σ H Q I h;obtain ⟨v,e,h⟩:=h;obtain ⟨m,hn,hl⟩:=I.loc;obtain ⟨u,r,l⟩:=hl i x v hN e hv;have fin:EP X pins σ Q u s:=⟨v,H,I,r,h⟩
  rcases l with ⟨hk,hm⟩ | ⟨hk,c,hc,hcell⟩
  · exact wpAny_Name (wpAny_loadName_local I.ok.kind hk hn hm fin) hd
  · rcases hk with hk | hk
    · exact wpAny_Name (wpAny_loadName_cell I.ok.kind hk hc hcell fin) hd
    · exact wpAny_Name (wpAny_loadName_free I.ok.kind hk hc hcell fin hcd) hd
theorem pe_int {i j pos}:PE X (.Constant (.int i) j pos) (tC (.int i)):=λ_ _ _ H _ I h=>wpAny_Constant_int ⟨.int i,H,I.tok _,⟨_,rfl⟩,h⟩
theorem pe_bl {b j pos}:PE X (.Constant (.bool b) j pos) (tC (.bl b)):=λ_ _ _ H _ I h=>Constant_bool ⟨.bl b,H,I,rfl,h⟩
theorem pe_str {x j pos}:PE X (.Constant (.str x) j pos) (tC (.str x)):=λ_ _ _ H _ I h=>Calls.Constant_str ⟨.str x,H,I.tok _,⟨_,rfl⟩,h⟩
def Gl (X:Cx) (x:Str):Prop:=X.env.kindOf x = some .globalImplicit
theorem ld_glob {E:Value -> Shared -> Prop} {pins:List (Addr × Obj)} {s:Shared} {σ:St} {H:Hp} {x:Str} {u:Value} {pos:Pos} {Q:Value -> Shared -> Prop} (I:Inv X pins σ H s) (hg:Gl X x) (hm:X.mg x = some u) (h:Q u s)
 (hd:(x == ("__debug__" : Str)) = false:=by decide):wpAny (model X.prog X.w) X.A (eval (.Name x pos) X.env) Q E s :=
  Calls.Name_function_global I.ok.kind hg (Calls.loadGlobal_global (by rw [I.ok.glob];exact I.mod.glob.keeps I.bk) hm h) hd
theorem ld_blt {E:Value -> Shared -> Prop} {pins:List (Addr × Obj)} {s:Shared} {σ:St} {H:Hp} {x:Str} {u:Value} {pos:Pos} {Q:Value -> Shared -> Prop} (I:Inv X pins σ H s) (hg:Gl X x) (hm:X.mg x = none) (hv:bootBuiltins x = some u) (h:Q u s)
 (hn:x ≠ "__name__" := by decide) (hd:(x == ("__debug__" : Str)) = false:=by decide):wpAny (model X.prog X.w) X.A (eval (.Name x pos) X.env) Q E s:=by
  obtain ⟨mb,h1,h2⟩:=I.mod.blt;exact Calls.Name_function_global I.ok.kind hg (Calls.loadGlobal_builtin (by rw [I.ok.glob];exact I.mod.glob.keeps I.bk) hm (by rw [I.ok.blt];exact h1.keeps I.bk) ((h2 x hn).trans hv) h) hd
theorem pe_bltn {x:Str} {v:V} {u:Value} {pos:Pos} (hg:Gl X x) (hm:X.mg x = none) (hv:bootBuiltins x = some u) (r:RelV v u) (hn:x ≠ "__name__" := by decide) (hd:(x == ("__debug__" : Str)) = false:=by decide):PE X (.Name x pos) (tC v) :=
  λ_ _ _ H _ I h=>ld_blt I hg hm hv ⟨v,H,I,r,h⟩ hn hd
variable {a b:Expr} {ta tb:TE} {pos:Pos}
def PC (X:Cx) (op:CmpOp) (a b:Expr) (t:TE):Prop :=
  ∀ (pins:List (Addr × Obj)) (s:Shared) (σ:St) (H:Hp) (Q:VK),Inv X pins σ H s -> t σ H Q ->
    wpAny (model X.prog X.w) X.A (eval a X.env) (λv s₁=>wpAny (model X.prog X.w) X.A (eval b X.env) (λu s₂=>wpAny (model X.prog X.w) X.A (compareOp op v u) (EP X pins σ Q) X.xe s₂) X.xe s₁) X.xe s
def tB (t:TE):TT:=λσ H Q=>t σ H λx H1=>∃ c,x = .bl c /\ Q c H1
theorem pe_cmp {op:CmpOp} {t:TE} (h:PC X op a b t) (h1:behindInMarks op b = false:=by first | exact nobehind _ (by decide) (by decide) | rfl):PE X (.Compare a [op] [b] pos) t:=λpins s σ H Q I hw=>wpAny_Compare1 (h pins s σ H Q I hw) h1
theorem pt_cmp {op:CmpOp} {t:TE} (h:PC X op a b t) (h1:behindInMarks op b = false:=by first | exact nobehind _ (by decide) (by decide) | rfl):PT X (.Compare a [op] [b] pos) (tB t):=by
  intro pins s σ H Q I hw;refine wpAny_isTrue_Compare1 (thn (h pins s σ H _ I hw) λv s1 h1=>thn h1 λu s2 h2=>thn h2 λc s3 ⟨x,H1,I1,r1,q1⟩=>?_) h1;obtain ⟨d,rfl,q⟩:=q1;cases r1;exact wpAny_truthy_bool ⟨H1,I1,q⟩
theorem pt_val {e:Expr} {t:TE} (h:PE X e t) (he:∀ whole,isTrue e X.env whole = (do let v <- whole;standAt e.pos;holding [v] (truthy v)):=by intro _;rfl):PT X e (tB t):=by
  intro pins s σ H Q I hw;refine isTrue_plain (thn (h pins s σ H _ I hw) λv s1 ⟨x,H1,I1,r1,q1⟩=>?_) (he _);obtain ⟨d,rfl,q⟩:=q1;cases r1;exact wpAny_truthy_bool ⟨H1,I1,q⟩
variable {tA tB':TT} {rest:List Expr}
def tAnd (t u:TT):TT:=λσ H Q=>t σ H λc H1=>if c = true then u σ H1 Q else Q false H1
def tOr (t u:TT):TT:=λσ H Q=>t σ H λc H1=>if c = true then Q true H1 else u σ H1 Q
def tNot (t:TT):TT:=λσ H Q=>t σ H λc H1=>Q (!c) H1
theorem pw_and1 (ha:PT X a tA):PW X (.BoolOp .And [a] pos) tA:=by
  intro wh pins s σ H Q I h;refine isTrue_and (thn (ha pins s σ H Q I h) λc s1 e=>?_)
  cases c with
  | true=>exact isTrue_and_nil e
  | false=>exact e
theorem pw_or1 (ha:PT X a tA):PW X (.BoolOp .Or [a] pos) tA:=by
  intro wh pins s σ H Q I h;refine isTrue_or (thn (ha pins s σ H Q I h) λc s1 e=>?_)
  cases c with
  | false=>exact isTrue_or_nil e
  | true=>exact e
theorem pw_and (ha:PT X a tA) (hb:PW X (.BoolOp .And (b :: rest) pos) tB'):PW X (.BoolOp .And (a :: b :: rest) pos) (tAnd tA tB'):=by
  intro wh pins s σ H Q I h;refine isTrue_and (thn (ha pins s σ H _ I h) λc s1 ⟨H1,I1,q1⟩=>?_)
  cases c with
  | true=>exact hb wh pins s1 σ H1 Q I1 q1
  | false=>exact ⟨H1,I1,q1⟩
theorem pw_or (ha:PT X a tA) (hb:PW X (.BoolOp .Or (b :: rest) pos) tB'):PW X (.BoolOp .Or (a :: b :: rest) pos) (tOr tA tB'):=by
  intro wh pins s σ H Q I h;refine isTrue_or (thn (ha pins s σ H _ I h) λc s1 ⟨H1,I1,q1⟩=>?_)
  cases c with
  | true=>exact ⟨H1,I1,q1⟩
  | false=>exact hb wh pins s1 σ H1 Q I1 q1
theorem pt_not (ha:PT X a tA):PT X (.UnaryOp .Not a pos) (tNot tA):=by
  intro pins s σ H Q I h;exact isTrue_not (ha pins s σ H (λc H1=>Q (!c) H1) I h)
def tAndV (ta tb:TE):TE:=λσ H Q=>ta σ H λx H1=>∃ c,x = .bl c /\ if c = true then tb σ H1 Q else Q (.bl false) H1
def tOrV (ta tb:TE):TE:=λσ H Q=>ta σ H λx H1=>∃ c,x = .bl c /\ if c = true then Q (.bl true) H1 else tb σ H1 Q
def tNotV (ta:TE):TE:=λσ H Q=>ta σ H λx H1=>∃ c,x = .bl c /\ Q (.bl (!c)) H1
theorem pe_one {op} {t:TE} (h:PE X a t):PE X (.BoolOp op [a] pos) t:=λpins s σ H Q I hw=>BoolOp_one (h pins s σ H Q I hw)
theorem pe_and (ha:PE X a ta) (hb:PE X (.BoolOp .And (b :: rest) pos) tb):PE X (.BoolOp .And (a :: b :: rest) pos) (tAndV ta tb):=by
  intro pins s σ H Q I h;refine BoolOp_and (thn (ha pins s σ H _ I h) λv s1 ⟨x,H1,I1,r1,q1⟩=>?_);obtain ⟨c,rfl,q1⟩:=q1;cases r1;refine wpAny_truthy_bool ?_
  cases c with
  | true=>exact hb pins s1 σ H1 Q I1 q1
  | false=>exact ⟨.bl false,H1,I1,rfl,q1⟩
theorem pe_or (ha:PE X a ta) (hb:PE X (.BoolOp .Or (b :: rest) pos) tb):PE X (.BoolOp .Or (a :: b :: rest) pos) (tOrV ta tb):=by
  intro pins s σ H Q I h;refine BoolOp_or (thn (ha pins s σ H _ I h) λv s1 ⟨x,H1,I1,r1,q1⟩=>?_);obtain ⟨c,rfl,q1⟩:=q1;cases r1;refine wpAny_truthy_bool ?_
  cases c with
  | false=>exact hb pins s1 σ H1 Q I1 q1
  | true=>exact ⟨.bl true,H1,I1,rfl,q1⟩
theorem pe_not (ha:PE X a ta):PE X (.UnaryOp .Not a pos) (tNotV ta):=by
  intro pins s σ H Q I h;refine UnaryOp_ (thn (ha pins s σ H _ I h) λv s1 ⟨x,H1,I1,r1,q1⟩=>?_);obtain ⟨c,rfl,q1⟩:=q1;cases r1;exact not_of (wpAny_truthy_bool ⟨.bl (!c),H1,I1,rfl,q1⟩)
end
def SqL (K:PySem.W.Frag) (H:Hp) (a:Addr) (xs:List V):Prop :=
  Rd H a (.lst xs) \/
    ∃ (o:Obj) (its:Array Value) (n:Nat),K.lookup a = some o /\ o.cls = .type "list" /\ o.dict = none /\ o.data = .seq its n /\ its.size <= sizeLine /\ Vals xs its.toList
def SqT (K:PySem.W.Frag) (H:Hp) (a:Addr) (xs:List V):Prop :=
  Rd H a (.tup xs) \/
    ∃ (o:Obj) (its:Array Value) (n:Nat),K.lookup a = some o /\ o.cls = .type "tuple" /\ o.data = .seq its n /\ its.size <= sizeLine /\ Vals xs its.toList
def absV:Value -> Option V
  | .none=>some .non
  | .bool b=>some (.bl b)
  | .int i _=>some (.int i)
  | .str x _=>some (.str x)
  | .bytes b _=>some (.byt b)
  | .float b _=>some (.flt b)
  | .ref a=>some (.ref a)
  | .type n=>some (.ty n)
  | _=>none
theorem RelV.abs {x:V} {u:Value} (r:RelV x u):absV u = some x:=by
  cases x with
  | non=>cases r;rfl
  | bl _=>cases r;rfl
  | int _=>obtain ⟨t,rfl⟩:=r;rfl
  | str _=>obtain ⟨t,rfl⟩:=r;rfl
  | byt _=>obtain ⟨t,rfl⟩:=r;rfl
  | flt _=>obtain ⟨t,rfl⟩:=r;rfl
  | ref _=>cases r;rfl
  | ty _=>cases r;rfl
theorem RelV.inj {x y:V} {u:Value} (r:RelV x u) (q:RelV y u):x = y:=Option.some.inj (r.abs.symm.trans q.abs)
theorem Vals.inj:∀ {xs ys:List V} {us:List Value},Vals xs us -> Vals ys us -> xs = ys
  | _,_,_,.nil,.nil=>rfl
  | _,_,_,.cons r t,.cons r' t'=>by rw [r.inj r',Vals.inj t t']
section
variable {X:Cx} {pins:List (Addr × Obj)} {σ:St} {H:Hp} {s:Shared} {a:Addr} {xs ys:List V}
theorem SqL.of {K:PySem.W.Frag} (h:H a = some (.lst xs)):SqL K H a xs:=.inl (.inl h)
theorem SqT.of {K:PySem.W.Frag} (h:H a = some (.tup xs)):SqT K H a xs:=.inl (.inl h)
theorem Inv.list (I:Inv X pins σ H s) (h:SqL X.K H a xs):∃ its:List Value,Vals xs its /\ PlainL s.heap a its.toArray /\ xs.length <= sizeLine:=by
  rcases h with h | ⟨o,its,n,hk,hc,hd,hs,hz,r⟩
  · obtain ⟨z,its,n,r,e⟩:=h.ok I.hok
    exact ⟨its,r,⟨_,n,e,rfl,rfl,rfl⟩,z⟩
  · refine ⟨its.toList,r,⟨o,n,I.kIn a o hk,hc,hd,by simpa using hs⟩,?_⟩
    have e:=r.length;simp only [Array.length_toList] at e;omega
theorem Inv.tuple (I:Inv X pins σ H s) (h:SqT X.K H a xs):∃ its:List Value,Vals xs its /\ IsTup s.heap a its.toArray /\ xs.length <= sizeLine:=by
  rcases h with h | ⟨o,its,n,hk,hc,hs,hz,r⟩
  · obtain ⟨z,its,r,p⟩:=h.ok I.hok
    exact ⟨its,r,p,z⟩
  · refine ⟨its.toList,r,⟨o,I.kIn a o hk,hc,n,by simpa using hs⟩,?_⟩
    have e:=r.length;simp only [Array.length_toList] at e;omega
theorem Inv.list_inj (I:Inv X pins σ H s) (h:SqL X.K H a xs) (h':SqL X.K H a ys):xs = ys:=by
  obtain ⟨its,r,⟨o,n,e,_,_,d⟩,_⟩:=I.list h;obtain ⟨its',r',⟨o',n',e',_,_,d'⟩,_⟩:=I.list h';rw [e] at e';cases e';rw [d] at d'
  injection d' with d1 _
  have : its = its':=by simpa using congrArg Array.toList d1
  subst this;exact r.inj r'
theorem Inv.tuple_inj (I:Inv X pins σ H s) (h:SqT X.K H a xs) (h':SqT X.K H a ys):xs = ys:=by
  obtain ⟨its,r,⟨o,e,_,n,d⟩,_⟩:=I.tuple h;obtain ⟨its',r',⟨o',e',_,n',d'⟩,_⟩:=I.tuple h';rw [e] at e';cases e';rw [d] at d'
  injection d' with d1 _
  have : its = its':=by simpa using congrArg Array.toList d1
  subst this;exact r.inj r'
end
abbrev Cx.wish (X:Cx) (E:Value -> Shared -> Prop):Cx:={ X with xe:=E }
abbrev Cx.nox (X:Cx):Cx:=X.wish λ_ _=>False
theorem Cx.Ok.wish {X:Cx} (ok:X.Ok) (E:Value -> Shared -> Prop):(X.wish E).Ok :=
  ⟨ok.mod,ok.kind,ok.glob,ok.blt,ok.above,ok.inj,ok.has,ok.cab,ok.hd,ok.frames,ok.stk,ok.exf,ok.bs,ok.bsz,ok.noex,ok.exfs,ok.funs,ok.frf⟩
theorem Cx.Ok.unwish {X:Cx} {E:Value -> Shared -> Prop} (ok:(X.wish E).Ok):X.Ok :=
  ⟨ok.mod,ok.kind,ok.glob,ok.blt,ok.above,ok.inj,ok.has,ok.cab,ok.hd,ok.frames,ok.stk,ok.exf,ok.bs,ok.bsz,ok.noex,ok.exfs,ok.funs,ok.frf⟩
section
variable {X:Cx} {pins:List (Addr × Obj)} {σ:St} {H:Hp} {s:Shared} {E:Value -> Shared -> Prop}
theorem Inv.wish (I:Inv X pins σ H s) (E:Value -> Shared -> Prop):Inv (X.wish E) pins σ H s:=⟨I.ok.wish E,I.os,I.bare,I.base,I.loc,I.cell,I.free,I.freeC,I.pin,I.hok,I.len⟩
theorem Inv.unwish (I:Inv (X.wish E) pins σ H s):Inv X pins σ H s:=⟨I.ok.unwish,I.os,I.bare,I.base,I.loc,I.cell,I.free,I.freeC,I.pin,I.hok,I.len⟩
theorem SP.unwish {D:Ends} {f:Flow} {s':Shared} (h:SP (X.wish E) pins D f s'):SP X pins D f s':=by
  cases f with
  | next=>obtain ⟨σ',H',I,q⟩:=h;exact ⟨σ',H',I.unwish,q⟩
  | brk=>obtain ⟨σ',H',I,q⟩:=h;exact ⟨σ',H',I.unwish,q⟩
  | cont=>obtain ⟨σ',H',I,q⟩:=h;exact ⟨σ',H',I.unwish,q⟩
  | ret u=>obtain ⟨v,σ',H',I,r,q⟩:=h;exact ⟨v,σ',H',I.unwish,r,q⟩
theorem PSs.nox {st:List Stmt} {t:TS} (h:PSs X.nox st t):PSs X st t:=λpins s σ H D I hw =>
  wpAny_mono (h pins s σ H D (I.wish _) hw) (λ_ _ q=>q.unwish) λ_ _ z=>False.elim z
end
section
variable {X:Cx} {st:Stmt} {rest:List Stmt} {t u:TS} {e:Expr} {te:TE} {pos:Pos}
def tNext:TS:=λD σ H=>D.nx σ H
def tSeq (t u:TS):TS:=λD σ H=>t { D with nx:=u D } σ H
theorem pss_nil:PSs X [] tNext:=λ_ _ σ H _ I h=>wpAny_execs_nil ⟨σ,H,I,h⟩
theorem pss_cons (h1:PS X st t) (h2:PSs X rest u):PSs X (st :: rest) (tSeq t u):=by
  intro pins s σ H D I h
  refine wpAny_execs_cons (thn (h1 pins s σ H { D with nx:=u D } I h) λf s1 q=>?_)
  cases f with
  | next =>
    obtain ⟨σ',H',I',q⟩:=q;exact h2 pins s1 σ' H' D I' q
  | ret v=>exact q
  | brk=>exact q
  | cont=>exact q
theorem pss_one (h1:PS X st t):PSs X [st] t:=by
  intro pins s σ H D I h;refine wpAny_execs_cons (thn (h1 pins s σ H D I h) λf s1 q=>?_)
  cases f with
  | next=>exact wpAny_execs_nil q
  | ret v=>exact q
  | brk=>exact q
  | cont=>exact q
theorem Inv.quiet {pins:List (Addr × Obj)} {σ:St} {H:Hp} {s:Shared} (I:Inv X pins σ H s):interactive X.env = false:=by simp [interactive,I.ok.kind]
def tDrop (te:TE):TS:=λD σ H=>te σ H λ_ H1=>D.nx σ H1
theorem ps_expr (he:PE X e te) (hs:swapsWith e none pos.line X.env = pure false:=by rfl):PS X (.Expr e pos) (tDrop te):=by
  intro pins s σ H D I h;exact wpAny_Expr_any (thn (he pins s σ H _ I h) λv s1 ⟨x,H1,I1,r1,q1⟩=>⟨σ,H1,I1,q1⟩) I.quiet hs
def tRet (te:TE):TS:=λD σ H=>te σ H D.rt
theorem ps_ret (he:PE X e te):PS X (.Return (some e) pos) (tRet te):=by
  intro pins s σ H D I h;exact wpAny_Return_some (thn (he pins s σ H _ I h) λv s1 ⟨x,H1,I1,r1,q1⟩=>⟨x,σ,H1,I1,r1,q1⟩)
def tIfS (c:TT) (t u:TS):TS:=λD σ H=>c σ H λb H1=>if b = true then t D σ H1 else u D σ H1
theorem ps_if {c:Expr} {a b:List Stmt} {tc:TT} (hc:PT X c tc) (ha:PSs X a t) (hb:PSs X b u):PS X (.If c a b pos) (tIfS tc t u):=by
  intro pins s σ H D I h;refine wpAny_If (thn (hc pins s σ H _ I h) λd s1 ⟨H1,I1,q1⟩=>?_)
  cases d with
  | true=>exact ha pins s1 σ H1 D I1 q1
  | false=>exact hb pins s1 σ H1 D I1 q1
end
abbrev TG:=V -> St -> Hp -> (St -> Hp -> Prop) -> Prop
abbrev TGs:=List V -> St -> Hp -> (St -> Hp -> Prop) -> Prop
def PG (X:Cx) (target:Expr) (t:TG):Prop :=
  ∀ (pins:List (Addr × Obj)) (s:Shared) (σ:St) (H:Hp) (v:V) (u:Value) (Q:St -> Hp -> Prop),Inv X pins σ H s -> RelV v u -> t v σ H Q ->
    wpAny (model X.prog X.w) X.A (assign target X.env u) (λ_ s'=>∃ σ' H',Inv X pins σ' H' s' /\ Q σ' H') X.xe s
def PGs (X:Cx) (ts:List Expr) (t:TGs):Prop :=
  ∀ (pins:List (Addr × Obj)) (s:Shared) (σ:St) (H:Hp) (vs:List V) (us:List Value) (Q:St -> Hp -> Prop),Inv X pins σ H s -> Vals vs us -> t vs σ H Q ->
    wpAny (model X.prog X.w) X.A (assignInOrder ((assignEach ts X.env).map (·.2)) us) (λ_ s'=>∃ σ' H',Inv X pins σ' H' s' /\ Q σ' H') X.xe s
abbrev TIp:=V -> V -> Hp -> VK -> Prop
def PIp (X:Cx) (op:Operator) (t:TIp):Prop :=
  ∀ (pins:List (Addr × Obj)) (s:Shared) (σ:St) (H:Hp) (x y:V) (v u:Value) (Q:VK),Inv X pins σ H s -> RelV x v -> RelV y u -> t x y H Q ->
    wpAny (model X.prog X.w) X.A (inplaceOp op v u) (EP X pins σ Q) X.xe s
section
variable {X:Cx} {pos:Pos}
def gName (i:Nat):TG:=λv σ H Q=>Q (σ.set i (some v)) H
theorem pg_name {i:Nat} {x:Str} (hN:X.N.Nodup) (hi:X.N[i]? = some x) (hx:Loc X.env.scope x) (hf:X.fn x = true \/ X.env.scope.names.lookup x = some .local:=by first | exact .inl rfl | exact .inr rfl | assumption):PG X (.Name x pos) (gName i):=by
  intro pins s σ H v u Q I r h;exact wpAny_assign_Name (store_ok I hN hi hx r (λs' I'=>⟨_,H,I',h⟩) hf)
def gNil:TGs:=λvs σ H Q=>vs = [] /\ Q σ H
def gCons (t:TG) (u:TGs):TGs:=λvs σ H Q=>∃ v r,vs = v :: r /\ t v σ H λσ' H'=>u r σ' H' Q
theorem pgs_nil:PGs X [] gNil:=by
  intro pins s σ H vs us Q I r h;obtain ⟨e,h⟩:=h;subst e;cases r;exact assignInOrder_nil ⟨σ,H,I,h⟩
theorem pgs_cons {e:Expr} {es:List Expr} {t:TG} {u:TGs} (h1:PG X e t) (h2:PGs X es u)
 (hs:(assignEach (e :: es) X.env).map (·.2) = assign e X.env :: (assignEach es X.env).map (·.2):=by rfl):PGs X (e :: es) (gCons t u):=by
  intro pins s σ H vs us Q I r h;obtain ⟨v,vr,e1,h⟩:=h;subst e1
  cases r with
  | cons r rr =>
    rw [hs];refine assignInOrder_cons (thn (h1 pins s σ H _ _ _ I r h) λ_ s1 ⟨σ1,H1,I1,q1⟩=>?_);exact h2 pins s1 σ1 H1 _ _ Q I1 rr q1
def gTup (K:PySem.W.Frag) (n:Nat) (t:TGs):TG:=λv σ H Q=>∃ a xs,v = .ref a /\ SqT K H a xs /\ xs.length = n /\ t xs σ H Q
theorem pg_tup {es:List Expr} {k:Nat} {t:TGs} {n:Nat} (hc:X.calm = true) (h:PGs X es t)
 (hn:(assignEach es X.env).length = n:=by rfl) (hst:(assignEach es X.env).findIdx? (·.1) = none:=by rfl):PG X (.Tuple es k pos) (gTup X.K n t):=by
  intro pins s σ H v u Q I r hw;obtain ⟨a,xs,e1,hq,hl,hw⟩:=hw;subst e1;cases r;obtain ⟨its,rv,ht,hz⟩:=I.tuple hq;refine assign_Tuple_tuple (I.ok.hd hc) ht (by simp [hn,<- hl,rv.length]) hst λh' hx=>?_
  have I1:Inv X pins σ H { s with heap:=h' }:=I.kept (t':=s.toks) λb o e=>hx b o (Nat.ne_of_lt (Heap.lt_size e)) e
  exact h pins _ σ H xs _ Q I1 (by simpa using rv) hw
def tAsg (te:TE) (g:TG):TS:=λD σ H=>te σ H λx H1=>g x σ H1 D.nx
theorem ps_asg {tg e:Expr} {te:TE} {g:TG} (he:PE X e te) (hg:PG X tg g) (hs:swapsWithSole [tg] e pos.line X.env = pure false:=by rfl) (hw:swappedStores [tg] e X.env = pure none:=by rfl)
 (h1:(assignEach [tg] X.env).map (·.2) = [assign tg X.env]:=by rfl):PS X (.Assign [tg] e pos) (tAsg te g):=by
  intro pins s σ H D I h;refine wpAny_Assign_stores (thn (he pins s σ H _ I h) λv s1 ⟨x,H1,I1,r1,q1⟩=>?_) hs hw;rw [h1];exact thn (hg pins s1 σ H1 x v _ I1 r1 q1) λ_ s2 q=>q
theorem ps_set {i:Nat} {x:Str} {e:Expr} {te:TE} {pos':Pos} (hN:X.N.Nodup) (hi:X.N[i]? = some x) (hx:Loc X.env.scope x) (he:PE X e te) (hs:swapsWith e (some (.Name x pos')) pos.line X.env = pure false:=by rfl) (hf:X.fn x = true \/ X.env.scope.names.lookup x = some .local:=by first | exact .inl rfl | exact .inr rfl | assumption) :
 PS X (.Assign [.Name x pos'] e pos) (tAsg te (gName i)):=by
  intro pins s σ H D I h;refine wpAny_Assign_Name (thn (he pins s σ H _ I h) λv s1 ⟨y,H1,I1,r1,q1⟩=>?_) hs;exact store_ok I1 hN hi hx r1 (λs2 I2=>⟨_,H1,I2,q1⟩) hf
def tAug (i:Nat) (te:TE) (ti:TIp):TS:=λD σ H=>∃ x,σ[i]? = some (some x) /\ te σ H λy H1=>ti x y H1 λz H2=>D.nx (σ.set i (some z)) H2
theorem ps_aug {i:Nat} {x:Str} {e:Expr} {te:TE} {op:Operator} {ti:TIp} {pos':Pos} (hN:X.N.Nodup) (hi:X.N[i]? = some x) (hx:Loc X.env.scope x) (he:PE X e te) (ho:PIp X op ti) (hf:X.fn x = true \/ X.env.scope.names.lookup x = some .local:=by first | exact .inl rfl | exact .inr rfl | assumption) :
 PS X (.AugAssign (.Name x pos') op e pos) (tAug i te ti):=by
  intro pins s σ H D I h;obtain ⟨v,e1,h⟩:=h;obtain ⟨m,hn,hl⟩:=I.loc
  have vis:Vis X.env.scope x:=by rcases hx with k | k;exact .inl k;exact .inr (.inl k)
  obtain ⟨u,r,l⟩:=hl i x v hi e1 vis;refine wpAny_AugAssign_Name ?_;have go:wpAny (model X.prog X.w) X.A (eval e X.env) (λw s₂=>wpAny (model X.prog X.w) X.A (inplaceOp op u w) (λr s₃=>wpAny (model X.prog X.w) X.A (storeName X.env x r) (λ_=>SP X pins D .next) X.xe s₃) X.xe s₂) X.xe s:=by
    refine thn (he pins s σ H _ I h) λw s1 ⟨y,H1,I1,r1,q1⟩=>?_
    refine thn (ho pins s1 σ H1 v y u w _ I1 r r1 q1) λz s2 ⟨zv,H2,I2,r2,q2⟩=>?_
    exact store_ok I2 hN hi hx r2 (λs3 I3=>⟨_,H2,I3,q2⟩) hf
  rcases l with ⟨hk,hm⟩ | ⟨hk,c,hc,hcell⟩
  · exact wpAny_loadName_local I.ok.kind hk hn hm go
  · rcases hk with hk | hk
    · exact wpAny_loadName_cell I.ok.kind hk hc hcell go
    · rcases hx with k | k
      · have : X.env.scope.names.lookup x = some .free:=hk
        rw [k] at this;cases this
      · have : X.env.scope.names.lookup x = some .free:=hk
        rw [k] at this;cases this
def ipI (f:Int -> Int -> Int):TIp:=λx y H Q=>∃ i j,x = .int i /\ y = .int j /\ Q (.int (f i j)) H
theorem ip_add:PIp X .Add (ipI λi j=>i + j):=by
  intro pins s σ H x y v u Q I r1 r2 h;obtain ⟨i,j,e1,e2,q⟩:=h;subst e1;subst e2;obtain ⟨t,rfl⟩:=r1;obtain ⟨t',rfl⟩:=r2;exact iadd_int ⟨.int _,H,I.tok _,⟨_,rfl⟩,q⟩
end
section
variable {X:Cx} {pos:Pos}
def tWhile (c:TT) (tb:TS):TS:=λD σ H=>∃ W:Nat -> St -> Hp -> Prop,(∃ m,W m σ H) /\ ∀ m σ H,W m σ H ->
  c σ H λb H1=>if b = true then ∃ N:St -> Hp -> Prop,(∀ σ' H',N σ' H' -> ∃ m',m' < m /\ W m' σ' H') /\ tb { D with nx:=N,ct:=N,bk:=D.nx } σ H1 else D.nx σ H1
theorem ps_while {c:Expr} {body:List Stmt} {tc:TT} {tb:TS} (hp:PassesOwn (model X.prog X.w) X.A X.env X.xe) (hc:PT X c tc) (hb:PSs X body tb):PS X (.While c body [] pos) (tWhile tc tb):=by
  intro pins s σ H D I h;obtain ⟨W,⟨m0,w0⟩,turn⟩:=h;refine wpAny_While (codeAny_whileLoop (λn s'=>∃ σ' H',Inv X pins σ' H' s' /\ W n σ' H') ?_ m0 ⟨σ,H,I,w0⟩);rintro n s1 ⟨σ1,H1,I1,w1⟩;refine wpAny_passesOwn hp (thn (hc pins s1 σ1 H1 _ I1 (turn n σ1 H1 w1)) λb s2 ⟨H2,I2,q2⟩=>?_)
  cases b with
  | true =>
    obtain ⟨N,hN,q2⟩:=q2;rw [if_pos rfl];refine wpAny_passesOwn hp (thn (hb pins s2 σ1 H2 _ I2 q2) λf s3 q3=>?_)
    cases f with
    | next =>
      obtain ⟨σ3,H3,I3,n3⟩:=q3;obtain ⟨m',hm,w3⟩:=hN σ3 H3 n3;exact ⟨m',hm,σ3,H3,I3,w3⟩
    | cont =>
      obtain ⟨σ3,H3,I3,n3⟩:=q3;obtain ⟨m',hm,w3⟩:=hN σ3 H3 n3;exact ⟨m',hm,σ3,H3,I3,w3⟩
    | brk=>exact q3
    | ret v=>exact q3
  | false =>
    rw [if_neg Bool.false_ne_true];exact wpAny_execs_nil ⟨σ1,H2,I2,q2⟩
end
structure It where
  go:Nat -> Hp -> Prop
  yld:Nat -> Hp -> V -> Hp -> Prop
  stop:Nat -> Hp -> Prop
def FpOk (X:Cx) (pins:List (Addr × Obj)) (H:Hp) (b:Addr):Prop :=
  H b = none /\ b ≠ X.env.locals /\ b ∉ X.fs /\ (b ∈ X.ex \/ X.s₀.heap.objs.size <= b) /\ (∀ x c,X.env.cells.lookup x = some c -> c ≠ b) /\ ∀ p ∈ X.pn ++ pins,p.1 ≠ b
theorem Inv.fpOk {X:Cx} {pins:List (Addr × Obj)} {σ:St} {H H':Hp} {s:Shared} {b:Addr} (I:Inv X pins σ H s) (hb:s.heap.objs.size <= b) (hn:H' b = none):FpOk X pins H' b:=by
  refine ⟨hn,Nat.ne_of_gt (Nat.lt_of_lt_of_le I.lt hb),I.nofs hb,.inr (Nat.le_trans I.sz hb),λx c e z=>?_,λp hp z=>?_⟩
  · obtain ⟨v,q⟩:=I.cell x c e
    exact absurd (Nat.lt_of_lt_of_le q.lt (by rw [z];exact hb)) (Nat.lt_irrefl _)
  · exact absurd (Nat.lt_of_lt_of_le (Heap.lt_size (I.pin p hp).1) (by rw [z];exact hb)) (Nat.lt_irrefl _)
structure Turn (P:Program) (w:World) (K:PySem.W.Frag) (tg:Expr) (J:It) (fp:List Addr) (it:Addr) (tn:Nat -> Heap -> Prop):Prop where
  mem:it ∈ fp
  obj:∀ i h,tn i h -> ∀ b ∈ fp,∃ o,h.get? b = some o /\ ∀ v,o.data ≠ .cell v
  keep:∀ i h h',tn i h -> (∀ b ∈ fp,∀ o,h.get? b = some o -> h'.get? b = some o) -> tn i h'
  item:∀ (X:Cx),X.prog = P -> X.w = w -> X.K = K -> X.calm = true -> ∀ (i:Nat) (pins:List (Addr × Obj)) (s:Shared) (σ:St) (H:Hp) (E:Value -> Shared -> Prop),Inv X pins σ H s -> (∀ b ∈ fp,FpOk X pins H b) -> tn i s.heap -> J.go i H ->
    wpAny (model P w) X.A (pyNext (.ref it)) (λr s1=>∃ u,r = some u /\
      wpAny (model P w) X.A (letOwnedTupleGo tg (.ref it) u) (λ_ s2=>∃ x H',Inv X pins σ H' s2 /\ RelV x u /\ J.yld i H x H' /\ tn (i + 1) s2.heap /\ ∀ b ∈ fp,H' b = none) E s1) E s
  done:∀ (X:Cx),X.prog = P -> X.w = w -> X.K = K -> X.calm = true -> ∀ (i:Nat) (pins:List (Addr × Obj)) (s:Shared) (σ:St) (H:Hp) (E:Value -> Shared -> Prop),Inv X pins σ H s -> (∀ b ∈ fp,FpOk X pins H b) -> tn i s.heap -> J.stop i H ->
    wpAny (model P w) X.A (pyNext (.ref it)) (λr s1=>r = none /\ Inv X pins σ H s1) E s
  self:∀ (A:Around) (i:Nat) (s:Shared) (Q:Value -> Shared -> Prop) (E:Value -> Shared -> Prop),tn i s.heap -> Q (.ref it) s -> wpAny (model P w) A (pyIter (.ref it)) Q E s
abbrev TI:=St -> Hp -> (It -> Hp -> Prop) -> Prop
def PIE (X:Cx) (pins:List (Addr × Obj)) (σ:St) (tg:Expr) (R:It -> Hp -> Prop) (itv:Value) (s2:Shared):Prop :=
  ∃ (it:Addr) (fp:List Addr) (tn:Nat -> Heap -> Prop) (J:It) (H':Hp),itv = .ref it /\ Inv X pins σ H' s2 /\ Turn X.prog X.w X.K tg J fp it tn /\ tn 0 s2.heap /\ (∀ b ∈ fp,FpOk X pins H' b) /\ R J H'
def PI (X:Cx) (tg iter:Expr) (wi:TI):Prop :=
  ∀ (pins:List (Addr × Obj)) (s:Shared) (σ:St) (H:Hp) (R:It -> Hp -> Prop),Inv X pins σ H s -> wi σ H R ->
    wpAny (model X.prog X.w) X.A (eval iter X.env) (λv s1=>wpAny (model X.prog X.w) X.A (pyIter v) (PIE X pins σ tg R) X.xe s1) X.xe s
theorem go_of {M:Model} {A:Around} {E:Value -> Shared -> Prop} {s:Shared} {tg:Expr} {it:Addr} {u:Value} {o:Obj} {n:String} {vs:Array Value} {Q:Unit -> Shared -> Prop} (ho:s.heap.get? it = some o) (hc:o.cls = .type n) (hd:o.data = .fields vs)
 (hn:["enumerate", "zip", "dict_itemiterator", "dict_reverseitemiterator", "odict_iterator", "itertools.zip_longest", "itertools.pairwise"].contains n = false) (hQ:Q () s):wpAny M A (letOwnedTupleGo tg (.ref it) u) Q E s:=by
  unfold letOwnedTupleGo
  cases tg <;> first
    | exact wpAny_pure hQ
    | (cases u <;> first
        | exact wpAny_pure hQ
        | (refine wpAny_bind (wpAny_load ho ?_)
           rw [hc,hd]
           show wpAny M A (if (["enumerate", "zip", "dict_itemiterator", "dict_reverseitemiterator", "odict_iterator", "itertools.zip_longest", "itertools.pairwise"].contains n && vs[0]? == some (rawInt _)) = true then _ else _) Q E s
           rw [if_neg (by intro h;rw [hn,Bool.false_and] at h;cases h)]
           exact wpAny_pure hQ))
def Itl (K:PySem.W.Frag) (a:Addr):It :=
  ⟨λi H=>∃ xs x,SqL K H a xs /\ xs[i]? = some x,λi H x H'=>H' = H /\ ∀ xs,SqL K H a xs -> xs[i]? = some x,λi H=>∃ xs,SqL K H a xs /\ xs.length <= i⟩
def Itr (lo:Int) (n:Nat):It:=⟨λi _=>i < n,λi H x H'=>H' = H /\ x = .int (lo + i),λi _=>n <= i⟩
theorem turn_list {P:Program} {w:World} {K:PySem.W.Frag} {tg:Expr} (a it:Addr):Turn P w K tg (Itl K a) [it] it (λi h=>h.IsListIter it a i) where
  mem:=by simp
  obj:=λi h st b hb=>by
    have e:b = it:=by simpa using hb
    subst e;obtain ⟨o,e,c,d⟩:=st;exact ⟨o,e,λv z=>by rw [d] at z;cases z⟩
  keep:=λi h h' st k=>st.at λo e=>k it (by simp) o e
  item:=by
    intro X hP hw hK hc i pins s σ H E I hf st hg;subst hP hw hK;obtain ⟨xs,x,hq,hx⟩:=hg;obtain ⟨its,rv,p,hz⟩:=I.list hq;obtain ⟨u,hu,ru⟩:=rv.get hx;obtain ⟨f0,f1,f2,f3,f4,f5⟩:=hf it (by simp);refine wpAny_pyNext_list_item st p.isList (x:=u) (by simpa using hu) λh' st' sb=>?_
    have I1:Inv X pins σ H { s with heap:=h' }:=I.turned (t':=s.toks) (λb o hb e=>(sb.2 b hb).trans e) f0 f1 f3 f4 f5;obtain ⟨o,e,c,d⟩:=id st'
    exact ⟨u,rfl,go_of (s:={ s with heap:=h' }) e c d (by decide) ⟨x,H,I1,ru,⟨rfl,λys hy=>by rw [I.list_inj hy hq];exact hx⟩,st',λb hb=>(hf b hb).1⟩⟩
  done:=by
    intro X hP hw hK hc i pins s σ H E I hf st hg;subst hP hw hK;obtain ⟨xs,hq,hx⟩:=hg;obtain ⟨its,rv,p,hz⟩:=I.list hq;obtain ⟨f0,f1,f2,f3,f4,f5⟩:=hf it (by simp);have hl:=rv.length;exact wpAny_pyNext_list_end (I.ok.hd hc) st p.isList (by simp;omega) λh' eb=>⟨rfl,I.turned (t':=s.toks) (λb o hb e=>eb b o hb e) f0 f1 f3 f4 f5⟩
  self:=λ_ _ _ _ _ st h=>wpAny_pyIter_listiter st h
theorem turn_range {P:Program} {w:World} {K:PySem.W.Frag} {tg:Expr} (it:Addr) (lo:Int) (n:Nat):Turn P w K tg (Itr lo n) [it] it (λi h=>IsRangeIter h it (lo + (i:Nat) * 1) ((n:Int) - (i:Nat)) 1) where
  mem:=by simp
  obj:=λi h st b hb=>by
    have e:b = it:=by simpa using hb
    subst e
    exact ⟨_,st,λv z=>by
      have z':Data.fields _ = Data.cell v:=z
      cases z'⟩
  keep:=λi h h' st k=>k it (by simp) _ st
  item:=by
    intro X hP hw hK hc i pins s σ H E I hf st hg;subst hP hw hK;obtain ⟨f0,f1,f2,f3,f4,f5⟩:=hf it (by simp);have W:=Walks.range (prog:=X.prog) (w:=X.w) (I.ok.hd hc) it lo 1 n;refine W.item i s _ _ hg st λv h' tk hv st' kk=>?_
    obtain ⟨t,rfl⟩:=hv
    have I1:Inv X pins σ H { s with heap:=h',toks:=tk }:=I.turned (λb o hb e=>kk b o (by simpa using hb) e) f0 f1 f3 f4 f5
    refine ⟨_,rfl,go_of (s:={ s with heap:=h',toks:=tk }) (n := "range_iterator") st' rfl rfl (by decide) ⟨.int (lo + i),H,I1,⟨t,?_⟩,⟨rfl,rfl⟩,st',λb hb=>(hf b hb).1⟩⟩;rw [Int.mul_one]
  done:=by
    intro X hP hw hK hc i pins s σ H E I hf st hg;subst hP hw hK;obtain ⟨f0,f1,f2,f3,f4,f5⟩:=hf it (by simp);exact wpAny_pyNext_range_end (I.ok.hd hc) st (by have : n <= i:=hg;omega) λh' eb=>⟨rfl,I.turned (t':=s.toks) (λb o hb e=>eb b o hb e) f0 f1 f3 f4 f5⟩
  self:=λ_ _ _ _ _ st h=>wpAny_pyIter_rangeiter st h
section
variable {X:Cx} {tg:Expr}
def iList (K:PySem.W.Frag) (tl:TE):TI:=λσ H R=>tl σ H λx H1=>∃ a,x = .ref a /\ (∃ xs,SqL K H1 a xs) /\ R (Itl K a) H1
theorem pi_list {l:Expr} {tl:TE} (hl:PE X l tl):PI X tg l (iList X.K tl):=by
  intro pins s σ H R I h;refine thn (hl pins s σ H _ I h) λv s1 ⟨x,H1,I1,r1,q1⟩=>?_
  obtain ⟨a,e,⟨xs,hq⟩,q⟩:=q1;subst e;cases r1;obtain ⟨its,rv,p,hz⟩:=I1.list hq;refine wpAny_pyIter_list p.isList ?_;refine ⟨s1.heap.objs.size,[s1.heap.objs.size],_,_,H1,rfl,I1.kept (t':=s1.toks) λb o e=>Heap.get?_push_of_some _ e,turn_list a _,⟨_,Heap.get?_push_size _ rfl,rfl,rfl⟩,λb hb=>?_,q⟩;have e:b = s1.heap.objs.size:=by simpa using hb
  subst e;exact I1.fpOk (Nat.le_refl _) (I1.hok.fresh (Nat.le_refl _))
theorem range_it {pins:List (Addr × Obj)} {σ:St} {H:Hp} {s:Shared} {R:It -> Hp -> Prop} {E:Value -> Shared -> Prop} {lo hi:Int} {t u v:Tok} {tk:Nat} (I:Inv X pins σ H s) (h1 : -(2 ^ 62) <= lo) (h2:lo < 2 ^ 62) (h3 : -(2 ^ 62) <= hi) (h4:hi < 2 ^ 62)
 (q:R (Itr lo (hi - lo).toNat) H):wpAny (model X.prog X.w) X.A (pyIter (.ref s.heap.objs.size)) (PIE X pins σ tg R) E { s with heap:=s.heap.push { cls:=.type "range", data:=.fields #[.int lo t,.int hi u,.int 1 v] },toks:=tk }:=by
  refine wpAny_pyIter_range (IsRange.new ..) (small_one h1 h2 h3 h4) ?_
  have I1:Inv X pins σ H { s with heap:=s.heap.push { cls:=.type "range", data:=.fields #[.int lo t,.int hi u,.int 1 v] },toks:=tk }:=I.kept λb o e=>Heap.get?_push_of_some _ e
  refine ⟨(s.heap.push { cls:=.type "range", data:=.fields #[.int lo t,.int hi u,.int 1 v] }).objs.size,[(s.heap.push { cls:=.type "range", data:=.fields #[.int lo t,.int hi u,.int 1 v] }).objs.size],_,_,H,rfl,
    I1.kept (t':=tk) λb o e=>Heap.get?_push_of_some _ e,turn_range _ lo (hi - lo).toNat,?_,λb hb=>?_,q⟩
  · have e1:lo + ((0:Nat):Int) * 1 = lo:=by simp
    have e2:(((hi - lo).toNat:Nat):Int) - ((0:Nat):Int) = Builtin.Range.rangeSize lo hi 1:=by rw [rangeSize_one];split <;> omega
    show IsRangeIter _ _ (lo + ((0:Nat):Int) * 1) ((((hi - lo).toNat:Nat):Int) - ((0:Nat):Int)) 1
    rw [e1,e2];exact Heap.get?_push_size _ rfl
  · have e:b = (s.heap.push { cls:=.type "range", data:=.fields #[.int lo t,.int hi u,.int 1 v] }).objs.size:=by simpa using hb
    subst e;exact I1.fpOk (Nat.le_refl _) (I1.hok.fresh (Nat.le_refl _))
def iRng1 (ta:TA):TI:=λσ H R=>ta σ H λvs H1=>∃ j:Int,vs = [.int j] /\ -(2 ^ 62) <= j /\ j < 2 ^ 62 /\ R (Itr 0 j.toNat) H1
theorem pi_range1 {a:Expr} {ta:TA} {p pos:Pos} (hg:Gl X "range") (hm:X.mg "range" = none) (ha:PA X [a] ta) (hs:starEach [a] X.env = [(false,eval a X.env)]:=by rfl):PI X tg (.Call (.Name "range" p) [a] [] pos) (iRng1 ta):=by
  intro pins s σ H R I h;refine Call_ (ld_blt I hg hm boot_range (PyProof.Rows.callWith_type1 (thn (ha pos pins s σ H _ I h) λus s1 ⟨vs,H1,I1,r1,q1⟩=>?_) hs rfl));obtain ⟨j,e,q1,q2,q⟩:=q1;subst e
  cases r1 with
  | cons r rr =>
    cases rr;obtain ⟨t,rfl⟩:=r;exact call_range_1 (range_it I1 (by omega) (by omega) q1 q2 (by simpa using q))
def tFor (wi:TI) (g:TG) (tb:TS):TS:=λD σ H=>wi σ H λJ H1=>∃ W:Nat -> Nat -> St -> Hp -> Prop,(∃ m,W 0 m σ H1) /\ ∀ i m σ H,W i m σ H ->
  (J.stop i H /\ D.nx σ H) \/ (J.go i H /\ ∃ N:St -> Hp -> Prop,(∀ σ' H',N σ' H' -> ∃ m',m' < m /\ W (i + 1) m' σ' H') /\ ∀ x H',J.yld i H x H' -> g x σ H' λσ2 H2=>tb { D with nx:=N,ct:=N,bk:=D.nx } σ2 H2)
def pinsAt (fp:List Addr) (h:Heap):List (Addr × Obj):=fp.filterMap λb=>(h.get? b).map λo=>(b,o)
theorem mem_pinsAt {fp:List Addr} {h:Heap} {b:Addr} {o:Obj} (hb:b ∈ fp) (e:h.get? b = some o):(b,o) ∈ pinsAt fp h:=List.mem_filterMap.mpr ⟨b,hb,by rw [e];rfl⟩
theorem of_pinsAt {fp:List Addr} {h:Heap} {p:Addr × Obj} (hp:p ∈ pinsAt fp h):p.1 ∈ fp /\ h.get? p.1 = some p.2:=by
  obtain ⟨b,hb,e⟩:=List.mem_filterMap.mp hp
  cases q:h.get? b with
  | none=>rw [q] at e;cases e
  | some o =>
    rw [q] at e;have e':(b,o) = p:=Option.some.inj e;subst e';exact ⟨hb,q⟩
theorem Inv.pinned {pins:List (Addr × Obj)} {σ:St} {H:Hp} {s:Shared} {fp:List Addr} (I:Inv X pins σ H s) (hf:∀ b ∈ fp,FpOk X pins H b) (ho:∀ b ∈ fp,∃ o,s.heap.get? b = some o /\ ∀ v,o.data ≠ .cell v):Inv X (pins ++ pinsAt fp s.heap) σ H s :=
  I.pins_of λp hp=>(List.mem_append.mp hp).elim (λz=>I.pin p (List.mem_append_right _ z)) λz=>by
    obtain ⟨hb,e⟩:=of_pinsAt z;obtain ⟨f0,f1,f2,_⟩:=hf p.1 hb;obtain ⟨o,e',d⟩:=ho p.1 hb;rw [e] at e';cases e';exact ⟨e,f0,f1,f2,d⟩
theorem Inv.unpinned {pins pl:List (Addr × Obj)} {σ:St} {H:Hp} {s:Shared} (I:Inv X (pins ++ pl) σ H s):Inv X pins σ H s:=I.pins_of λp hp=>I.pin p (List.mem_append_right _ (List.mem_append_left _ hp))
theorem ps_for {iter:Expr} {body:List Stmt} {wi:TI} {g:TG} {tb:TS} {pos:Pos} (hp:PassesOwn (model X.prog X.w) X.A X.env X.xe) (hc:X.calm = true) (hi:PI X tg iter wi) (hg:PG X tg g) (hb:PSs X body tb)
 (hs:∀ x,foldedSetIterable iter X.env x = pure x:=by intro _;rfl):PS X (.For tg iter body [] pos) (tFor wi g tb):=by
  intro pins s σ H D I h;refine wpAny_For (thn (hi pins s σ H _ I h) λv s1 h1=>thn h1 λitv s2 h2=>?_) hs;obtain ⟨it,fp,tn,J,H2,e,I2,T,st2,f2,W,⟨m0,w0⟩,turn⟩:=h2;subst e;have stat:∀ {H':Hp},(∀ b ∈ fp,H' b = none) -> ∀ b ∈ fp,FpOk X pins H' b:=λhn b hb=>⟨hn b hb,(f2 b hb).2⟩
  refine codeAny_forLoop_any (λn s'=>∃ i σ' H',Inv X pins σ' H' s' /\ tn i s'.heap /\ (∀ b ∈ fp,H' b = none) /\ W i n σ' H') ?_ m0 ⟨0,σ,H2,I2,st2,λb hb=>(f2 b hb).1,w0⟩;rintro n s3 ⟨i,σ3,H3,I3,st3,fr3,w3⟩
  rcases turn i n σ3 H3 w3 with ⟨stop,qn⟩ | ⟨go,N,hN,step⟩
  · refine wpAny_passesOwn hp (thn (T.done X rfl rfl rfl hc i pins s3 σ3 H3 X.xe I3 (stat fr3) st3 stop) λr s4 ⟨hr,I4⟩=>?_)
    subst hr;exact wpAny_execs_nil ⟨σ3,H3,I4,qn⟩
  · refine wpAny_passesOwn hp (thn (T.item X rfl rfl rfl hc i pins s3 σ3 H3 X.xe I3 (stat fr3) st3 go) λr s4 ⟨u,hr,h4⟩=>?_)
    subst hr;refine wpAny_passesOwn hp (thn h4 λ_ s5 ⟨x,H5,I5,r5,y5,st5,fr5⟩=>?_);have I5':=I5.pinned (stat fr5) (T.obj _ _ st5);refine wpAny_passesOwn hp (thn (hg _ s5 σ3 H5 x u _ I5' r5 (step x H5 y5)) λ_ s6 ⟨σ6,H6,I6,q6⟩=>?_);refine wpAny_passesOwn hp (thn (hb _ s6 σ6 H6 _ I6 q6) λf s7 q7=>?_);have again:∀ {σ7:St} {H7:Hp},Inv X (pins ++ pinsAt fp s5.heap) σ7 H7 s7 -> N σ7 H7 -> ∃ m,m < n /\ ∃ i σ' H',Inv X pins σ' H' s7 /\ tn i s7.heap /\ (∀ b ∈ fp,H' b = none) /\ W i m σ' H':=λ{σ7 H7} I7 n7=>by
      obtain ⟨m',hm,w7⟩:=hN σ7 H7 n7;refine ⟨m',hm,i + 1,σ7,H7,I7.unpinned,T.keep _ _ _ st5 λb hb o e=>(I7.pin (b,o) (List.mem_append_right _ (List.mem_append_right _ (mem_pinsAt hb e)))).1,λb hb=>?_,w7⟩;obtain ⟨o,e,d⟩:=T.obj _ _ st5 b hb;exact (I7.pin (b,o) (List.mem_append_right _ (List.mem_append_right _ (mem_pinsAt hb e)))).2.1
    cases f with
    | next=>obtain ⟨σ7,H7,I7,n7⟩:=q7;exact again I7 n7
    | cont=>obtain ⟨σ7,H7,I7,n7⟩:=q7;exact again I7 n7
    | brk=>obtain ⟨σ7,H7,I7,q7⟩:=q7;exact ⟨σ7,H7,I7.unpinned,q7⟩
    | ret v=>obtain ⟨x7,σ7,H7,I7,r7,q7⟩:=q7;exact ⟨x7,σ7,H7,I7.unpinned,r7,q7⟩
end
theorem for_list {K:PySem.W.Frag} {a:Addr} {xs:List V} {g:TG} {tb:TS} {D:Ends} {σ:St} {H:Hp} (Pv:Nat -> St -> Hp -> Prop) (h0:Pv 0 σ H) (hl:∀ i σ H,i <= xs.length -> Pv i σ H -> SqL K H a xs)
 (hs:∀ i x σ H,xs[i]? = some x -> Pv i σ H -> g x σ H λσ2 H2=>tb { D with nx:=Pv (i + 1),ct:=Pv (i + 1),bk:=D.nx } σ2 H2) (hd:∀ σ H,Pv xs.length σ H -> D.nx σ H) :
 ∃ W:Nat -> Nat -> St -> Hp -> Prop,(∃ m,W 0 m σ H) /\ ∀ i m σ H,W i m σ H ->
 ((Itl K a).stop i H /\ D.nx σ H) \/ ((Itl K a).go i H /\ ∃ N:St -> Hp -> Prop,(∀ σ' H',N σ' H' -> ∃ m',m' < m /\ W (i + 1) m' σ' H') /\ ∀ x H',(Itl K a).yld i H x H' -> g x σ H' λσ2 H2=>tb { D with nx:=N,ct:=N,bk:=D.nx } σ2 H2):=by
  refine ⟨λi m σ H=>m = xs.length - i /\ i <= xs.length /\ Pv i σ H,⟨xs.length,by simp,Nat.zero_le _,h0⟩,?_⟩;rintro i m σ H ⟨rfl,hi,p⟩;have q:=hl i σ H hi p
  by_cases hlt:i < xs.length
  · refine .inr ⟨⟨xs,xs[i],q,by simp [hlt]⟩,Pv (i + 1),λσ' H' p'=>⟨xs.length - (i + 1),by omega,rfl,hlt,p'⟩,λx H' y=>?_⟩
    obtain ⟨e,y⟩:=y;subst e;exact hs i x σ _ (y xs q) p
  · have e:i = xs.length:=by omega
    subst e;exact .inl ⟨⟨xs,q,Nat.le_refl _⟩,hd σ H p⟩
theorem for_range {lo:Int} {n:Nat} {g:TG} {tb:TS} {D:Ends} {σ:St} {H:Hp} (Pv:Nat -> St -> Hp -> Prop) (h0:Pv 0 σ H)
 (hs:∀ i σ H,i < n -> Pv i σ H -> g (.int (lo + i)) σ H λσ2 H2=>tb { D with nx:=Pv (i + 1),ct:=Pv (i + 1),bk:=D.nx } σ2 H2) (hd:∀ σ H,Pv n σ H -> D.nx σ H) :
 ∃ W:Nat -> Nat -> St -> Hp -> Prop,(∃ m,W 0 m σ H) /\ ∀ i m σ H,W i m σ H ->
 ((Itr lo n).stop i H /\ D.nx σ H) \/ ((Itr lo n).go i H /\ ∃ N:St -> Hp -> Prop,(∀ σ' H',N σ' H' -> ∃ m',m' < m /\ W (i + 1) m' σ' H') /\ ∀ x H',(Itr lo n).yld i H x H' -> g x σ H' λσ2 H2=>tb { D with nx:=N,ct:=N,bk:=D.nx } σ2 H2):=by
  refine ⟨λi m σ H=>m = n - i /\ i <= n /\ Pv i σ H,⟨n,by simp,Nat.zero_le _,h0⟩,?_⟩;rintro i m σ H ⟨rfl,hi,p⟩
  by_cases hlt:i < n
  · refine .inr ⟨hlt,Pv (i + 1),λσ' H' p'=>⟨n - (i + 1),by omega,rfl,hlt,p'⟩,λx H' y=>?_⟩
    obtain ⟨e,y⟩:=y;subst e y;exact hs i σ _ hlt p
  · have e:i = n:=by omega
    subst e;exact .inl ⟨Nat.le_refl _,hd σ H p⟩
abbrev R2:=V -> V -> Hp -> VK -> Prop
def OpR (X:Cx) (f:Value -> Value -> Sem Value) (r:R2):Prop :=
  ∀ (pins:List (Addr × Obj)) (s:Shared) (σ:St) (H:Hp) (x y:V) (v u:Value) (Q:VK),Inv X pins σ H s -> RelV x v -> RelV y u -> r x y H Q ->
    wpAny (model X.prog X.w) X.A (f v u) (EP X pins σ Q) X.xe s
def UnR (X:Cx) (f:Value -> Sem Value) (r:V -> Hp -> VK -> Prop):Prop :=
  ∀ (pins:List (Addr × Obj)) (s:Shared) (σ:St) (H:Hp) (x:V) (v:Value) (Q:VK),Inv X pins σ H s -> RelV x v -> r x H Q ->
    wpAny (model X.prog X.w) X.A (f v) (EP X pins σ Q) X.xe s
def CallR (X:Cx) (f:Value) (r:List V -> Hp -> VK -> Prop):Prop :=
  ∀ (pins:List (Addr × Obj)) (s:Shared) (σ:St) (H:Hp) (xs:List V) (us:List Value) (Q:VK),Inv X pins σ H s -> Vals xs us -> r xs H Q ->
    wpAny (model X.prog X.w) X.A (call f us) (EP X pins σ Q) X.xe s
def TruR (X:Cx) (r:V -> Hp -> (Bool -> Hp -> Prop) -> Prop):Prop :=
  ∀ (pins:List (Addr × Obj)) (s:Shared) (σ:St) (H:Hp) (x:V) (v:Value) (Q:Bool -> Hp -> Prop),Inv X pins σ H s -> RelV x v -> r x H Q ->
    wpAny (model X.prog X.w) X.A (truthy v) (TP X pins σ Q) X.xe s
def tOp (r:R2) (ta tb:TE):TE:=λσ H Q=>ta σ H λx H1=>tb σ H1 λy H2=>r x y H2 Q
def tUn (r:V -> Hp -> VK -> Prop) (ta:TE):TE:=λσ H Q=>ta σ H λx H1=>r x H1 Q
def rI (C:Int -> Int -> Prop) (g:Int -> Int -> V):R2:=λx y H Q=>∃ i j,x = .int i /\ y = .int j /\ C i j /\ Q (g i j) H
def rI0 (g:Int -> Int -> V):R2:=λx y H Q=>∃ i j,x = .int i /\ y = .int j /\ Q (g i j) H
def rU (g:Int -> V):V -> Hp -> VK -> Prop:=λx H Q=>∃ i,x = .int i /\ Q (g i) H
section
variable {X:Cx} {a b c:Expr} {ta tb tc:TE} {pos:Pos}
theorem binT (ha:PE X a ta) (hb:PE X b tb) {pins:List (Addr × Obj)} {s:Shared} {σ:St} {H:Hp} {R:V -> V -> Hp -> Prop} (I:Inv X pins σ H s)
 (h:ta σ H λx H1=>tb σ H1 λy H2=>R x y H2) {Q:Value -> Shared -> Prop} {f:Value -> Value -> Sem Value}
 (hf:∀ v u s2 x y H2,Inv X pins σ H2 s2 -> RelV x v -> RelV y u -> R x y H2 -> wpAny (model X.prog X.w) X.A (f v u) Q X.xe s2) :
 wpAny (model X.prog X.w) X.A (eval a X.env) (λv s₁=>wpAny (model X.prog X.w) X.A (eval b X.env) (λu s₂=>wpAny (model X.prog X.w) X.A (f v u) Q X.xe s₂) X.xe s₁) X.xe s:=by
  refine thn (ha pins s σ H _ I h) λv s1 ⟨x,H1,I1,r1,q1⟩=>?_
  refine thn (hb pins s1 σ H1 _ I1 q1) λu s2 ⟨y,H2,I2,r2,q2⟩=>?_
  exact hf v u s2 x y H2 I2 r1 r2 q2
theorem pe_op {op:Operator} {r:R2} (ho:OpR X (binaryOp op) r) (ha:PE X a ta) (hb:PE X b tb):PE X (.BinOp a op b pos) (tOp r ta tb):=by
  intro pins s σ H Q I h;exact wpAny_BinOp (binT ha hb I h λv u s2 x y H2 I2 rx ry q=>ho pins s2 σ H2 x y v u Q I2 rx ry q)
theorem pe_un {op:UnaryOp} {r:V -> Hp -> VK -> Prop} (ho:UnR X (unaryOp op) r) (ha:PE X a ta):PE X (.UnaryOp op a pos) (tUn r ta):=by
  intro pins s σ H Q I h;exact UnaryOp_ (thn (ha pins s σ H _ I h) λv s1 ⟨x,H1,I1,r1,q1⟩=>ho pins s1 σ H1 x v Q I1 r1 q1)
theorem opI {f:Value -> Value -> Sem Value} {C:Int -> Int -> Prop} {g:Int -> Int -> Int}
 (rule:∀ (i j:Int) (t u:Tok) (s:Shared) (Q:Value -> Shared -> Prop) (E:Value -> Shared -> Prop),C i j -> Q (.int (g i j) s.toks) { s with toks:=s.toks + 1 } -> wpAny (model X.prog X.w) X.A (f (.int i t) (.int j u)) Q E s) :
 OpR X f (rI C λi j=>.int (g i j)):=by
  intro pins s σ H x y v u Q I rx ry h;obtain ⟨i,j,rfl,rfl,hc,q⟩:=h;obtain ⟨t,rfl⟩:=rx;obtain ⟨t',rfl⟩:=ry;exact rule i j t t' s _ _ hc ⟨.int (g i j),H,I.tok _,⟨_,rfl⟩,q⟩
theorem opI0 {f:Value -> Value -> Sem Value} {g:Int -> Int -> Int}
 (rule:∀ (i j:Int) (t u:Tok) (s:Shared) (Q:Value -> Shared -> Prop) (E:Value -> Shared -> Prop),Q (.int (g i j) s.toks) { s with toks:=s.toks + 1 } -> wpAny (model X.prog X.w) X.A (f (.int i t) (.int j u)) Q E s) :
 OpR X f (rI0 λi j=>.int (g i j)):=by
  intro pins s σ H x y v u Q I rx ry h;obtain ⟨i,j,rfl,rfl,q⟩:=h;obtain ⟨t,rfl⟩:=rx;obtain ⟨t',rfl⟩:=ry;exact rule i j t t' s _ _ ⟨.int (g i j),H,I.tok _,⟨_,rfl⟩,q⟩
theorem opB0 {f:Value -> Value -> Sem Value} {g:Int -> Int -> Bool}
 (rule:∀ (i j:Int) (t u:Tok) (s:Shared) (Q:Value -> Shared -> Prop) (E:Value -> Shared -> Prop),Q (.bool (g i j)) s -> wpAny (model X.prog X.w) X.A (f (.int i t) (.int j u)) Q E s) :
 OpR X f (rI0 λi j=>.bl (g i j)):=by
  intro pins s σ H x y v u Q I rx ry h;obtain ⟨i,j,rfl,rfl,q⟩:=h;obtain ⟨t,rfl⟩:=rx;obtain ⟨t',rfl⟩:=ry;exact rule i j t t' s _ _ ⟨.bl (g i j),H,I,rfl,q⟩
def CPow (i j:Int):Prop:=0 <= j /\ j <= 1000000 /\ i.natAbs < 2 ^ 64
def CMul (i j:Int):Prop:=(-(2 ^ 64) < i /\ i < 2 ^ 64) \/ (-(2 ^ 64) < j /\ j < 2 ^ 64)
theorem CMul.ok {i j:Int} (h:CMul i j):IntMulOk i j:=by
  rcases h with ⟨h1,h2⟩ | ⟨h1,h2⟩
  · exact .of_left (intBits_le_64 h1 h2)
  · exact .of_right (intBits_le_64 h1 h2)
theorem op_add:OpR X (binaryOp .Add) (rI0 λi j=>.int (i + j)):=opI0 λ_ _ _ _ _ _ _ q=>add_int q
theorem op_sub:OpR X (binaryOp .Sub) (rI0 λi j=>.int (i - j)):=opI0 λ_ _ _ _ _ _ _ q=>sub_int q
theorem op_mul:OpR X (binaryOp .Mult) (rI CMul λi j=>.int (i * j)):=opI λ_ _ _ _ _ _ _ hc q=>mul_int q hc.ok
theorem op_mod:OpR X (binaryOp .Mod) (rI (λ_ j=>0 < j) λi j=>.int (i % j)):=opI λi j _ _ _ _ _ hc q=>by
  have h1:(0:Int) < j:=hc;exact mod_int' (by omega) (by rw [Int.fmod_eq_emod_of_nonneg i (by omega)];exact q)
theorem op_pow:OpR X (binaryOp .Pow) (rI CPow λi j=>.int (i ^ j.toNat)):=opI λ_ _ _ _ _ _ _ hc q=>pow_int_small hc.1 hc.2.1 hc.2.2 q
theorem unI {f:Value -> Sem Value} {g:Int -> Int}
 (rule:∀ (i:Int) (t:Tok) (s:Shared) (Q:Value -> Shared -> Prop) (E:Value -> Shared -> Prop),Q (.int (g i) s.toks) { s with toks:=s.toks + 1 } -> wpAny (model X.prog X.w) X.A (f (.int i t)) Q E s) :
 UnR X f (rU λi=>.int (g i)):=by
  intro pins s σ H x v Q I rx h;obtain ⟨i,rfl,q⟩:=h;obtain ⟨t,rfl⟩:=rx;exact rule i t s _ _ ⟨.int (g i),H,I.tok _,⟨_,rfl⟩,q⟩
theorem un_neg:UnR X (unaryOp .USub) (rU λi=>.int (-i)):=unI λ_ _ _ _ _ q=>neg_int q
end
def scal:V -> V -> Bool
  | .non,.non=>true | .non,.int _=>true | .int _,.non=>true | .non,.bl _=>true | .bl _,.non=>true | .non,.str _=>true | .str _,.non=>true
  | .int _,.int _=>true | .bl _,.bl _=>true | .str _,.str _=>true | .byt _,.byt _=>true
  | .int _,.str _=>true | .str _,.int _=>true | .bl _,.str _=>true | .str _,.bl _=>true
  | _,_=>false
def rEq:R2:=λx y H Q=>scal x y = true /\ Q (.bl (decide (x = y))) H
def rNe:R2:=λx y H Q=>scal x y = true /\ Q (.bl (!decide (x = y))) H
theorem dec_int {i j:Int}:decide (V.int i = V.int j) = (i == j):=by
  rw [Bool.eq_iff_iff];simp
theorem dec_bl {i j:Bool}:decide (V.bl i = V.bl j) = (i == j):=by
  rw [Bool.eq_iff_iff];simp
theorem dec_str {i j:Str}:decide (V.str i = V.str j) = (i == j):=by
  rw [Bool.eq_iff_iff];simp
theorem dec_byt {i j:Array UInt8}:decide (V.byt i = V.byt j) = (i.toList == j.toList):=by
  rw [Bool.eq_iff_iff];cases i;cases j;simp
section
variable {X:Cx} {a b c:Expr} {ta tb tc:TE} {pos:Pos}
theorem fin_bl {pins:List (Addr × Obj)} {σ:St} {H:Hp} {s:Shared} {Q:VK} {k k':Bool} (I:Inv X pins σ H s) (q:Q (.bl k) H) (e:k = k'):EP X pins σ Q (.bool k') s:=by
  subst e;exact ⟨.bl k,H,I,rfl,q⟩
theorem op_eq:OpR X (compareOp .Eq) rEq:=by
  intro pins s σ H x y v u Q I rx ry h;obtain ⟨hs,q⟩:=h
  cases x with
  | non =>
    cases rx
    cases y with
    | non=>cases ry;exact PySem.EqNone.eq_none_none (fin_bl I q (by simp))
    | bl j=>cases ry;exact PySem.EqNone.eq_none_bool (fin_bl I q (by simp))
    | int j=>obtain ⟨t',rfl⟩:=ry;exact PySem.EqNone.eq_none_int (fin_bl I q (by simp))
    | str j=>obtain ⟨t',rfl⟩:=ry;exact PySem.EqNone.eq_none_str (fin_bl I q (by simp))
    | _=>exact absurd (show false = true from hs) Bool.false_ne_true
  | bl i =>
    cases rx
    cases y with
    | non=>cases ry;exact PySem.EqNone.eq_bool_none (fin_bl I q (by simp))
    | bl j=>cases ry;exact eq_bool (fin_bl I q dec_bl)
    | str j=>obtain ⟨t',rfl⟩:=ry;exact PySem.EqMixed.eq_bool_str (fin_bl I q (by simp))
    | _=>exact absurd (show false = true from hs) Bool.false_ne_true
  | int i =>
    obtain ⟨t,rfl⟩:=rx
    cases y with
    | non=>cases ry;exact PySem.EqNone.eq_int_none (fin_bl I q (by simp))
    | int j=>obtain ⟨t',rfl⟩:=ry;exact eq_int (fin_bl I q dec_int)
    | str j=>obtain ⟨t',rfl⟩:=ry;exact PySem.EqMixed.eq_int_str (fin_bl I q (by simp))
    | _=>exact absurd (show false = true from hs) Bool.false_ne_true
  | str i =>
    obtain ⟨t,rfl⟩:=rx
    cases y with
    | non=>cases ry;exact PySem.EqNone.eq_str_none (fin_bl I q (by simp))
    | bl j=>cases ry;exact PySem.EqMixed.eq_str_bool (fin_bl I q (by simp))
    | int j=>obtain ⟨t',rfl⟩:=ry;exact PySem.EqMixed.eq_str_int (fin_bl I q (by simp))
    | str j=>obtain ⟨t',rfl⟩:=ry;exact eq_str (fin_bl I q dec_str)
    | _=>exact absurd (show false = true from hs) Bool.false_ne_true
  | byt i =>
    obtain ⟨t,rfl⟩:=rx
    cases y with
    | byt j=>obtain ⟨t',rfl⟩:=ry;exact PySem.W.eq_bytes (fin_bl I q dec_byt)
    | _=>exact absurd (show false = true from hs) Bool.false_ne_true
  | _=>cases y <;> exact absurd (show false = true from hs) Bool.false_ne_true
theorem op_ne:OpR X (compareOp .NotEq) rNe:=by
  intro pins s σ H x y v u Q I rx ry h;obtain ⟨hs,q⟩:=h
  cases x with
  | non =>
    cases rx
    cases y with
    | non=>cases ry;exact PySem.EqNone.ne_none_none (fin_bl I q (by simp))
    | bl j=>cases ry;exact PySem.EqNone.ne_none_bool (fin_bl I q (by simp))
    | int j=>obtain ⟨t',rfl⟩:=ry;exact PySem.EqNone.ne_none_int (fin_bl I q (by simp))
    | str j=>obtain ⟨t',rfl⟩:=ry;exact PySem.EqNone.ne_none_str (fin_bl I q (by simp))
    | _=>exact absurd (show false = true from hs) Bool.false_ne_true
  | bl i =>
    cases rx
    cases y with
    | non=>cases ry;exact PySem.EqNone.ne_bool_none (fin_bl I q (by simp))
    | bl j=>cases ry;exact ne_bool (fin_bl I q (congrArg not dec_bl))
    | str j=>obtain ⟨t',rfl⟩:=ry;exact PySem.EqMixed.ne_bool_str (fin_bl I q (by simp))
    | _=>exact absurd (show false = true from hs) Bool.false_ne_true
  | int i =>
    obtain ⟨t,rfl⟩:=rx
    cases y with
    | non=>cases ry;exact PySem.EqNone.ne_int_none (fin_bl I q (by simp))
    | int j=>obtain ⟨t',rfl⟩:=ry;exact ne_int (fin_bl I q (congrArg not dec_int))
    | str j=>obtain ⟨t',rfl⟩:=ry;exact PySem.EqMixed.ne_int_str (fin_bl I q (by simp))
    | _=>exact absurd (show false = true from hs) Bool.false_ne_true
  | str i =>
    obtain ⟨t,rfl⟩:=rx
    cases y with
    | non=>cases ry;exact PySem.EqNone.ne_str_none (fin_bl I q (by simp))
    | bl j=>cases ry;exact PySem.EqMixed.ne_str_bool (fin_bl I q (by simp))
    | int j=>obtain ⟨t',rfl⟩:=ry;exact PySem.EqMixed.ne_str_int (fin_bl I q (by simp))
    | str j=>obtain ⟨t',rfl⟩:=ry;exact ne_str (fin_bl I q (congrArg not dec_str))
    | _=>exact absurd (show false = true from hs) Bool.false_ne_true
  | byt i =>
    obtain ⟨t,rfl⟩:=rx
    cases y with
    | byt j=>obtain ⟨t',rfl⟩:=ry;exact PySem.W.ne_bytes (fin_bl I q (congrArg not dec_byt))
    | _=>exact absurd (show false = true from hs) Bool.false_ne_true
  | _=>cases y <;> exact absurd (show false = true from hs) Bool.false_ne_true
theorem op_lt:OpR X (compareOp .Lt) (rI0 λi j=>.bl (decide (i < j))):=opB0 λ_ _ _ _ _ _ _ q=>lt_int q
theorem op_le:OpR X (compareOp .LtE) (rI0 λi j=>.bl (decide (i <= j))):=opB0 λ_ _ _ _ _ _ _ q=>le_int q
theorem op_ge:OpR X (compareOp .GtE) (rI0 λi j=>.bl (decide (j <= i))):=opB0 λ_ _ _ _ _ _ _ q=>ge_int q
theorem nomark (b:Expr) {op:CmpOp} (h:op ≠ .In:=by decide) (h2:op ≠ .NotIn:=by decide):behindInMarks op b = false:=by
  have e1:(op == CmpOp.In) = false:=by cases op <;> first | rfl | exact absurd rfl h
  have e2:(op == CmpOp.NotIn) = false:=by cases op <;> first | rfl | exact absurd rfl h2
  cases b <;> simp [behindInMarks,e1,e2]
theorem pe_cmpR {op:CmpOp} {r:R2} (ho:OpR X (compareOp op) r) (ha:PE X a ta) (hb:PE X b tb) (hm:behindInMarks op b = false):PE X (.Compare a [op] [b] pos) (tOp r ta tb):=by
  intro pins s σ H Q I h;exact wpAny_Compare1 (binT ha hb I h λv u s2 x y H2 I2 rx ry q=>ho pins s2 σ H2 x y v u Q I2 rx ry q) hm
def tTest (t:TE):TT:=λσ H Q=>t σ H λx H'=>∃ k,x = .bl k /\ Q k H'
theorem pt_cmpR {op:CmpOp} {r:R2} (ho:OpR X (compareOp op) r) (ha:PE X a ta) (hb:PE X b tb) (hm:behindInMarks op b = false):PT X (.Compare a [op] [b] pos) (tTest (tOp r ta tb)):=by
  intro pins s σ H Q I h
  refine wpAny_isTrue_Compare1 (thn (ha pins s σ H _ I h) λv s1 ⟨x,H1,I1,r1,q1⟩=>thn (hb pins s1 σ H1 _ I1 q1) λu s2 ⟨y,H2,I2,r2,q2⟩ =>
    thn (ho pins s2 σ H2 x y v u _ I2 r1 r2 q2) λc s3 ⟨z,H3,I3,r3,k,e,q3⟩=>?_) hm
  subst e;cases r3;exact wpAny_truthy_bool ⟨H3,I3,q3⟩
def tChain (r r':R2) (ta tb tc:TE):TE:=λσ H Q=>ta σ H λx H1=>tb σ H1 λy H2=>r x y H2 λz H3=>∃ k,z = .bl k /\
  (if k = true then tc σ H3 λw' H4=>r' y w' H4 Q else Q (.bl false) H3)
theorem pt_chain {op op':CmpOp} {r r':R2} (ho:OpR X (compareOp op) r) (ho':OpR X (compareOp op') r') (ha:PE X a ta) (hb:PE X b tb) (hc:PE X c tc)
 (hm:lastMarks [op,op'] [b,c] = false:=by with_unfolding_all rfl):PT X (.Compare a [op,op'] [b,c] pos) (tTest (tChain r r' ta tb tc)):=by
  intro pins s σ H Q I h
  refine isTrue_chain (thn (ha pins s σ H _ I h) λv s1 ⟨x,H1,I1,r1,q1⟩=>test_link (thn (hb pins s1 σ H1 _ I1 q1) λu s2 ⟨y,H2,I2,r2,q2⟩ =>
    thn (ho pins s2 σ H2 x y v u _ I2 r1 r2 q2) λd s3 ⟨z,H3,I3,r3,k,e,q3⟩=>?_)) hm
  subst e;cases r3;refine wpAny_truthy_bool ?_
  cases k with
  | false =>
    obtain ⟨k',e',q'⟩:=q3;cases e';exact ite_ff ⟨H3,I3,q'⟩
  | true =>
    refine ite_tt (test_last (thn (hc pins s3 σ H3 _ I3 q3) λw' s4 ⟨z',H4,I4,r4,q4⟩=>thn (ho' pins s4 σ H4 y z' u w' _ I4 r2 r4 q4) λd' s5 ⟨z2,H5,I5,r5,k2,e2,q5⟩=>?_));subst e2;cases r5;exact wpAny_truthy_bool ⟨H5,I5,q5⟩
def TruV (K:PySem.W.Frag) (x:V) (H:Hp) (k:Bool):Prop :=
  match x with
  | .non=>k = false
  | .bl b=>k = b
  | .int i=>k = (i != 0)
  | .str y=>y.length <= sizeLine /\ k = ((y.length:Int) != 0)
  | .byt y=>y.size <= sizeLine /\ k = ((y.size:Int) != 0)
  | .ref p=>(∃ xs,SqL K H p xs /\ k = !xs.isEmpty) \/ (∃ xs,SqT K H p xs /\ k = !xs.isEmpty) \/ ∃ kvs,H p = some (.dK kvs) /\ k = !kvs.isEmpty
  | _=>False
theorem isEmpty_kv {κ:Type} {kvs:List (κ × V)} {vs:List (κ × Value)} (r:KV kvs vs):(!vs.isEmpty) = !kvs.isEmpty:=by
  cases r <;> rfl
theorem isEmpty_of {xs:List V} {its:List Value} (r:Vals xs its):(!its.toArray.isEmpty) = !xs.isEmpty:=by
  cases r <;> simp
theorem line63:(sizeLine:Nat) < 2 ^ 63:=by rw [sizeLine_eq];decide
theorem tru_ok:TruR X (λx H Q=>∃ k,TruV X.K x H k /\ Q k H):=by
  intro pins s σ H x v Q I rx h;obtain ⟨k,e,q⟩:=h;have hl:=line63;have hs:sizeLine = 16777216:=sizeLine_eq
  cases x with
  | non =>
    cases rx;have e':k = false:=e;subst e';exact truthy_none ⟨H,I,q⟩
  | bl b =>
    cases rx;have e':k = b:=e;subst e';exact wpAny_truthy_bool ⟨H,I,q⟩
  | int i =>
    obtain ⟨t,rfl⟩:=rx;have e':k = (i != 0):=e;subst e';exact PySem.P.truthy_int ⟨H,I,q⟩
  | str y =>
    obtain ⟨t,rfl⟩:=rx;obtain ⟨hy,e'⟩:y.length <= sizeLine /\ k = ((y.length:Int) != 0):=e;subst e';exact PySem.P.truthy_str (by omega) ⟨H,I.tok _,q⟩
  | byt y =>
    obtain ⟨t,rfl⟩:=rx;obtain ⟨hy,e'⟩:y.size <= sizeLine /\ k = ((y.size:Int) != 0):=e;subst e';exact PySem.W.truthy_bytes (by omega) ⟨H,I.tok _,q⟩
  | ref p =>
    cases rx;have e':(∃ xs,SqL X.K H p xs /\ k = !xs.isEmpty) \/ (∃ xs,SqT X.K H p xs /\ k = !xs.isEmpty) \/ ∃ kvs,H p = some (.dK kvs) /\ k = !kvs.isEmpty:=e
    rcases e' with ⟨xs,hx,e'⟩ | ⟨xs,hx,e'⟩ | ⟨kvs,hx,e'⟩
    · subst e'
      obtain ⟨its,r,pl,hz⟩:=I.list hx;have hlen:=r.length;exact wpAny_truthy_list pl.isList (by simp only [List.size_toArray];omega) ⟨H,I.tok _,by rw [isEmpty_of r];exact q⟩
    · subst e'
      obtain ⟨its,r,pl,hz⟩:=I.tuple hx;have hlen:=r.length;exact truthy_tuple pl (by simp only [List.size_toArray];omega) ⟨H,I.tok _,by rw [isEmpty_of r];exact q⟩
    · subst e'
      obtain ⟨hz,hS,vs,r,m⟩:kvs.length <= sizeLine /\ (p == sysModules) = false /\ ∃ vs,KV kvs vs /\ s.heap.DictOf (mixKind X.prog X.w) p vs:=I.hok p _ hx;have hlen:kvs.length = vs.length:=Paired.length r;exact wpAny_truthy_dict hS m (by omega) ⟨H,I.tok _,by rw [isEmpty_kv r];exact q⟩
  | _=>exact (show False from e).elim
theorem pt_truth (ha:PE X a ta) (he:∀ whole,isTrue a X.env whole = (do let v <- whole;standAt a.pos;holding [v] (truthy v))) :
 PT X a (λσ H Q=>ta σ H λx H'=>∃ k,TruV X.K x H' k /\ Q k H'):=by
  intro pins s σ H Q I h;exact isTrue_plain (thn (ha pins s σ H _ I h) λv s1 ⟨x,H1,I1,r1,q1⟩=>tru_ok pins s1 σ H1 x v Q I1 r1 q1) (he _)
theorem vals1 {x:V} {us:List Value} (r:Vals [x] us):∃ u,us = [u] /\ RelV x u:=by
  cases r with
  | cons r1 r2=>cases r2;exact ⟨_,rfl,r1⟩
theorem vals2 {x y:V} {us:List Value} (r:Vals [x,y] us):∃ u w',us = [u,w'] /\ RelV x u /\ RelV y w':=by
  cases r with
  | cons r1 r2 =>
    cases r2 with
    | cons r3 r4=>cases r4;exact ⟨_,_,rfl,r1,r3⟩
theorem call_max2 (hc:X.calm = true):CallR X (.builtin "max") (λxs H Q=>∃ i j,xs = [.int i,.int j] /\ Q (.int (if j > i then j else i)) H):=by
  intro pins s σ H xs us Q I r h;obtain ⟨i,j,rfl,q⟩:=h;obtain ⟨u,w',rfl,⟨t,rfl⟩,⟨t',rfl⟩⟩:=vals2 r;refine max_two_ints (I.ok.hd hc) λh' tk k=>⟨_,H,I.kept k,?_,q⟩
  by_cases hj:j > i
  · rw [if_pos hj,if_pos hj];exact ⟨_,rfl⟩
  · rw [if_neg hj,if_neg hj];exact ⟨_,rfl⟩
theorem call_min2 (hc:X.calm = true):CallR X (.builtin "min") (λxs H Q=>∃ i j,xs = [.int i,.int j] /\ Q (.int (if j < i then j else i)) H):=by
  intro pins s σ H xs us Q I r h;obtain ⟨i,j,rfl,q⟩:=h;obtain ⟨u,w',rfl,⟨t,rfl⟩,⟨t',rfl⟩⟩:=vals2 r;refine min_two_ints (I.ok.hd hc) λh' tk k=>⟨_,H,I.kept k,?_,q⟩
  by_cases hj:j < i
  · rw [if_pos hj,if_pos hj];exact ⟨_,rfl⟩
  · rw [if_neg hj,if_neg hj];exact ⟨_,rfl⟩
end
structure ObjM (h:Heap) (x dx C:Addr) (mA:Str -> Option Value):Prop where
  obj:h.get? x = some (PySem.W.instObj C dx)
  ns:h.Ns1 dx mA
  ne:dx ≠ x
section
variable {prog:Program} {w:World} {A:Around} {E:Value -> Shared -> Prop} {s:Shared} {K:PySem.W.Frag} {x dx C f:Addr} {mA:Str -> Option Value} {name:Str} {v:Value}
end
theorem RelO.some_of {v:V} {o:Option Value} (r:RelO (some v) o):∃ u,o = some u /\ RelV v u:=by
  cases o with
  | none=>exact (show False from r).elim
  | some u=>exact ⟨u,rfl,r⟩
section
variable {P:Program} {w:World} {H H':Hp} {h h':Heap} {a C dx:Addr} {fs fs':List (Str × V)}
end
structure Cls (K:PySem.W.Frag) (C:Addr):Prop where
  pg:PySem.W.plainGet K C Str.empty = true
  hd:PySem.W.hasDictIn K C = true
  po:PySem.W.plainOver K C = true
  sa:PySem.W.findIn K (.ref C) "__setattr__" = some (some (.builtin "object.__setattr__"))
structure Con (K:PySem.W.Frag) (C:Addr) (f:Str) (v:V) (u:Value):Prop where
  at_:PySem.W.findIn K (.ref C) f = some (some u)
  rel:RelV v u
  get:PySem.W.specialIn K u "__get__" = some none
  cp:PySem.W.copiedNames.contains f = false
structure Meth (K:PySem.W.Frag) (C:Addr) (m:Str) (f:Addr):Prop where
  at_:PySem.W.findIn K (.ref C) m = some (some (.ref f))
  fn:PySem.W.isFn K (.ref f) = true
  kp:PySem.W.keepIn K (.ref f) = true
section
variable {X:Cx} {pins:List (Addr × Obj)} {σ:St} {H:Hp} {s:Shared} {a C dx:Addr} {fs:List (Str × V)} {f:Str} {v:V} {A:Around} {E:Value -> Shared -> Prop}
end
section
variable {X:Cx} {o e value:Expr} {f:Str} {pos pos' tpos:Pos} {ta tv:TE}
end
section
variable {X:Cx} {pins:List (Addr × Obj)} {σ:St} {H:Hp} {s:Shared} {A:Around} {E:Value -> Shared -> Prop} {Q:Value -> Shared -> Prop} {c:Value} {b:Bool}
inductive TyOf (K:PySem.W.Frag) (H:Hp):V -> Value -> Prop where
  | non:TyOf K H .non (.type "NoneType")
  | bl (x:Bool):TyOf K H (.bl x) (.type "bool")
  | int (i:Int):TyOf K H (.int i) (.type "int")
  | str (x:Str):TyOf K H (.str x) (.type "str")
  | flt (x:UInt64):TyOf K H (.flt x) (.type "float")
  | lst {a:Addr} {xs:List V} (e:H a = some (.lst xs)):TyOf K H (.ref a) (.type "list")
  | frz {a:Addr} {o:Obj} {xs:List V} (e:H a = some (.frz o (.lst xs))):TyOf K H (.ref a) (.type "list")
  | tup {a:Addr} {xs:List V} (e:H a = some (.tup xs)):TyOf K H (.ref a) (.type "tuple")
  | dK {a:Addr} {kvs:List (Key × V)} (e:H a = some (.dK kvs)):TyOf K H (.ref a) (.type "dict")
  | dT {a:Addr} {kvs:List (List Key × V)} (e:H a = some (.dT kvs)):TyOf K H (.ref a) (.type "dict")
  | ins {a C dx:Addr} {fs:List (Str × V)} (e:H a = some (.ins C dx fs)) (cl:Cls K C) (ha:PySem.W.findIn K (.ref C) "__class__" = some (some (.builtin "object.__class__")))
      (hn:PySem.W.specialIn K (.builtin "object.__class__") "__get__" = some (some (.builtin "getset_descriptor.__get__"))) (htk:PySem.W.takesIn K (.builtin "object.__class__") = some true)
      (hm:PySem.W.mroIn K C (.type "object") = some true):TyOf K H (.ref a) (.ref C)
end
structure Room (k:Nat) (A:Around):Prop where
  hd:A.handled = none
  dp:A.depth + 3 * k + 5 < recursionLimit
  un:A.units + 16 * k + 200 < cLine
theorem Room.mono {j k:Nat} {A:Around} (r:Room k A) (h:j <= k):Room j A:=⟨r.hd,by have:=r.dp;omega,by have:=r.un;omega⟩
theorem Room.deeper {k:Nat} {A:Around} (r:Room (k + 1) A) (env:Env):Room k (A.deeper env) :=
  ⟨r.hd,by have:=r.dp;show A.depth + 1 + 3 * k + 5 < _;omega,by have:=r.un;show A.units + 3 + 16 * k + 200 < _;omega⟩
theorem Room.in1 {k:Nat} {A:Around} (r:Room (k + 1) A):Room k A.in1 :=
  ⟨r.hd,by have:=r.dp;show A.depth + 3 * k + 5 < _;omega,by have:=r.un;show A.units + 1 + 16 * k + 200 < _;omega⟩
theorem Room.depth {k:Nat} {A:Around} (r:Room k A):A.depth < recursionLimit:=by have:=r.dp;omega
theorem Room.units {k:Nat} {A:Around} (r:Room k A):A.units + 64 < cLine:=by have:=r.un;omega
def tNil:TA:=λ_ H Q=>Q [] H
def tCons (ta:TE) (tr:TA):TA:=λσ H Q=>ta σ H λx H1=>tr σ H1 λxs H2=>Q (x :: xs) H2
section
variable {X:Cx} {e:Expr} {es:List Expr} {te:TE} {t:TA} {pos:Pos}
theorem pa_nil:PA X [] tNil:=λ_ _ _ _ H Q I h=>Calls.spliced_nil ⟨[],H,I,.nil,h⟩
theorem pa_cons (ha:PE X e te) (hr:PA X es t) (hs:starEach (e :: es) X.env = (false,eval e X.env) :: starEach es X.env:=by rfl):PA X (e :: es) (tCons te t):=by
  intro pos pins s σ H Q I h;rw [hs]
  show wpAny _ _ (spliced ((false,eval e X.env) :: backTo pos (starEach es X.env))) _ _ s
  refine Calls.spliced_cons (thn (ha pins s σ H _ I h) λu s1 ⟨x,H1,I1,r1,q1⟩=>?_);exact thn (hr pos pins s1 σ H1 _ I1 q1) λus s2 ⟨xs,H2,I2,r2,q2⟩=>⟨x :: xs,H2,I2,.cons r1 r2,q2⟩
def tTup (t:TA):TE:=λσ H Q=>t σ H λxs H1=>xs.length <= sizeLine /\ ∀ p,H1 p = none -> Q (.ref p) (upd H1 p (.tup xs))
def tLst (t:TA):TE:=λσ H Q=>t σ H λxs H1=>xs.length <= sizeLine /\ ∀ p,H1 p = none -> Q (.ref p) (upd H1 p (.lst xs))
theorem pe_tup {x1} (h:PA X es t):PE X (.Tuple es x1 pos) (tTup t):=by
  intro pins s σ H Q I hq;refine wpAny_Tuple_spliced (thn (h pos pins s σ H _ I hq) λus s1 ⟨xs,H1,I1,r,z,q⟩=>⟨by rw [<- r.length];exact z,?_⟩);have hf:H1 s1.heap.objs.size = none:=I1.hok.fresh (Nat.le_refl _);refine ⟨.ref s1.heap.objs.size,upd H1 s1.heap.objs.size (.tup xs),I1.laid (t':=s1.toks) (λb u e=>Heap.get?_push_of_some _ e) (Nat.le_refl _) ?_,rfl,q _ hf⟩;exact ⟨z,us,r,⟨_,Heap.get?_push_size _ rfl,rfl,_,rfl⟩⟩
theorem pe_lst (h:PA X es t):PE X (.List es pos) (tLst t):=by
  intro pins s σ H Q I hq;refine wpAny_List_spliced (thn (h pos pins s σ H _ I hq) λus s1 ⟨xs,H1,I1,r,z,q⟩=>⟨by rw [<- r.length];exact z,?_⟩);have hf:H1 s1.heap.objs.size = none:=I1.hok.fresh (Nat.le_refl _);refine ⟨.ref s1.heap.objs.size,upd H1 s1.heap.objs.size (.lst xs),I1.laid (t':=s1.toks) (λb u e=>Heap.get?_push_of_some _ e) (Nat.le_refl _) ?_,rfl,q _ hf⟩;exact ⟨z,us,0,r,Heap.get?_push_size _ rfl⟩
end
abbrev Sp:=List V -> Hp -> VK -> XK -> Prop
abbrev CXT:=List Env -> Hp -> Shared -> XK -> Value -> Shared -> Prop
structure Env0 (P:Program) (w:World) (K:PySem.W.Frag) (mg:Str -> Option Value) (base:Heap) (A:Around) (outer:List Env) (s:Shared) (H:Hp):Prop where
  frames:A.frames = some outer
  mod:Mod K mg base
  bs:∀ b o,base.get? b = some o -> s.heap.get? b = some o /\ H b = none
  bsz:base.objs.size <= s.heap.objs.size
  funs:s.heap.FunFrames base outer
  frf:∀ b ∈ frs outer,H b = none
  hok:HOk P w H s.heap
  bare:AllBare s.gens
def CE (outer:List Env) (P:Program) (w:World) (H:Hp) (s:Shared) (Q:VK) (u:Value) (s':Shared):Prop :=
  ∃ v H',s'.os = s.os /\ AllBare s'.gens /\ Un (frs outer) [] H H' s.heap s'.heap /\ HOk P w H' s'.heap /\ RelV v u /\ Q v H'
def CR (CX:CXT) (outer:List Env) (P:Program) (w:World) (H:Hp) (s:Shared) (Q:VK) (E:XK) (r:Result) (s':Shared):Prop :=
  match r with
  | .ok (.ret u)=>CE outer P w H s Q u s'
  | .ok _=>False
  | .error e=>CX outer H s E e s'
structure FnOk (P:Program) (w:World) (K:PySem.W.Frag) (mg:Str -> Option Value) (base:Heap) (CX:CXT) (k:Nat) (f:Addr) (fd:FuncData) (ps:List Str) (sp:Sp):Prop where
  len:∀ vs H Q E,sp vs H Q E -> vs.length = ps.length
  run:∀ (A:Around) (outer:List Env) (s:Shared) (H:Hp) (args:Args) (us:List Value) (vs:List V) (Q:VK) (E:XK),Room k A -> Env0 P w K mg base A outer s H -> BindsTo s fd args (ps.zip us) -> Vals vs us -> sp vs H Q E ->
    codeAny (model P w) A (.call (.ref f) args) (CR CX outer P w H s Q E) s
theorem FnOk.mono {P:Program} {w:World} {K:PySem.W.Frag} {mg:Str -> Option Value} {base:Heap} {CX:CXT} {j k:Nat} {f:Addr} {fd:FuncData} {ps:List Str} {sp:Sp} (F:FnOk P w K mg base CX j f fd ps sp) (h:j <= k) :
 FnOk P w K mg base CX k f fd ps sp:=⟨F.len,λA outer s H args us vs Q E hr=>F.run A outer s H args us vs Q E (hr.mono h)⟩
theorem Env0.in1 {P:Program} {w:World} {K:PySem.W.Frag} {mg:Str -> Option Value} {base:Heap} {A:Around} {outer:List Env} {s:Shared} {H:Hp} (e:Env0 P w K mg base A outer s H) :
 Env0 P w K mg base A.in1 outer s H:=⟨e.frames,e.mod,e.bs,e.bsz,e.funs,e.frf,e.hok,e.bare⟩
section
variable {X:Cx} {pins:List (Addr × Obj)} {σ:St} {H:Hp} {s s':Shared}
theorem Inv.env0 (I:Inv X pins σ H s):Env0 X.prog X.w X.K X.mg X.base X.A X.stack s H :=
  ⟨I.ok.frames,I.ok.mod,I.bs,Nat.le_trans I.ok.bsz I.sz,I.stack,I.stkFree,I.hok,I.bare⟩
theorem Inv.after {Q:VK} {u:Value} (I:Inv X pins σ H s) (h:CE X.stack X.prog X.w H s Q u s'):EP X pins σ Q u s':=by
  obtain ⟨v,H',os,bare,un,hok,r,q⟩:=h;obtain ⟨hh,g,d,t,os'⟩:=s';obtain rfl:os' = s.os:=os;exact ⟨v,H',I.call (h':=hh) (g':=g) (d':=d) (t':=t) (ch:=[]) un hok bare (λb z=>absurd z (by simp)),r,q⟩
end
def Binds (K:PySem.W.Frag) (fd:FuncData) (ps:List Str) (ds:List Value):Prop :=
  ∀ (s:Shared) (us:List Value),K.In s.heap -> (us ++ ds).length = ps.length -> BindsTo s fd ⟨us,[]⟩ (ps.zip (us ++ ds))
theorem Binds.all {K:PySem.W.Frag} {fd:FuncData} {ps:List Str} (h:∀ us:List Value,us.length = ps.length -> bindArgs fd ⟨us,[]⟩ = pure (ps.zip us)):Binds K fd ps []:=λs us _ hl=>by
  rw [List.append_nil] at hl ⊢;exact .of_eq (h us hl)
section
variable {X:Cx} {CX:CXT} {k:Nat} {f C:Addr} {fd:FuncData} {ps:List Str} {sp:Sp} {dvs:List V} {ds:List Value} {E:XK} {x m:Str} {p pos apos:Pos} {e o:Expr} {es:List Expr} {ta:TE} {t:TA}
structure Mk (K:PySem.W.Frag) (C f:Addr):Prop where
  makes:PySem.W.makesIn K C = true
  init:PySem.W.findIn K (.ref C) "__init__" = some (some (.ref f))
  fn:PySem.W.isFn K (.ref f) = true
  kp:PySem.W.keepIn K (.ref C) = true
end
section
variable {X:Cx} {CX:CXT} {k:Nat} {f C:Addr} {fd:FuncData} {ps ks:List Str} {sp:Sp} {E:XK} {x m:Str} {p pos apos kpos:Pos} {e o:Expr} {es:List Expr} {kws:List Keyword} {te ta:TE} {t tk:TA} {nm:Option Str}
structure KBinds (K:PySem.W.Frag) (fd:FuncData) (ps ks:List Str) (g:List Value -> List Value -> List Value) (gV:List V -> List V -> List V):Prop where
  to:∀ (s:Shared) (us ws:List Value),K.In s.heap -> (g us ws).length = ps.length -> BindsTo s fd ⟨us,ks.zip ws⟩ (ps.zip (g us ws))
  rel:∀ {vs:List V} {us:List Value} {zs:List V} {ws:List Value},Vals vs us -> Vals zs ws -> Vals (gV vs zs) (g us ws)
variable {g:List Value -> List Value -> List Value} {gV:List V -> List V -> List V}
end
structure FnScope (N P:List Str) (sc:Scope):Prop where
  kind:sc.kind = .function
  co:sc.isCoroutine = false
  gen:sc.isGenerator = false
  nd:N.Nodup
  pre:N.take P.length = P
  par:∀ x ∈ P,sc.names.lookup x = some .local \/ sc.names.lookup x = some .cell
  nofree:∀ y ∈ sc.names,y.2 ≠ .free
theorem bindL_out {kindOf:Str -> Option NameKind} {x:Str}:∀ {binds:List (Str × Value)} {m:Str -> Option Value},(∀ v,(x,v) ∉ binds) -> bindL kindOf binds m x = m x
  | [],_,_=>rfl
  | (n,v) :: r,m,h=>by
    unfold bindL;rw [bindL_out λw hw=>h w (List.mem_cons_of_mem _ hw)]
    split
    · have : x ≠ n:=by rintro rfl;exact h v List.mem_cons_self
      simp [this]
    · rfl
theorem bindC_out {kindOf:Str -> Option NameKind} {x:Str}:∀ {binds:List (Str × Value)} {m:Str -> Option Value},(∀ v,(x,v) ∉ binds) -> bindC kindOf binds m x = m x
  | [],_,_=>rfl
  | (n,v) :: r,m,h=>by
    unfold bindC;rw [bindC_out λw hw=>h w (List.mem_cons_of_mem _ hw)]
    split
    · rfl
    · have : x ≠ n:=by rintro rfl;exact h v List.mem_cons_self
      simp [this]
theorem bindL_get {kindOf:Str -> Option NameKind} {x:Str} {v:Value}:∀ {P:List Str} {vs:List Value} {i:Nat} {m:Str -> Option Value},P.Nodup -> P[i]? = some x -> vs[i]? = some v -> kindOf x = some .local ->
 bindL kindOf (P.zip vs) m x = some v
  | [],_,_,_,_,h,_,_=>by simp at h
  | _ :: _,[],_,_,_,_,h,_=>by simp at h
  | p :: P,w :: vs,0,m,nd,h1,h2,hk=>by
    simp at h1 h2;subst h1;subst h2
    show bindL kindOf ((p,w) :: P.zip vs) m p = _
    unfold bindL;rw [bindL_out λv hv=>(List.nodup_cons.mp nd).1 (List.of_mem_zip hv).1,if_pos hk];simp
  | p :: P,w :: vs,i + 1,m,nd,h1,h2,hk=>by
    show bindL kindOf ((p,w) :: P.zip vs) m x = _
    unfold bindL;exact bindL_get (i:=i) (List.nodup_cons.mp nd).2 (by simpa using h1) (by simpa using h2) hk
theorem bindC_get {kindOf:Str -> Option NameKind} {x:Str} {v:Value}:∀ {P:List Str} {vs:List Value} {i:Nat} {m:Str -> Option Value},P.Nodup -> P[i]? = some x -> vs[i]? = some v -> kindOf x ≠ some .local ->
 bindC kindOf (P.zip vs) m x = some v
  | [],_,_,_,_,h,_,_=>by simp at h
  | _ :: _,[],_,_,_,_,h,_=>by simp at h
  | p :: P,w :: vs,0,m,nd,h1,h2,hk=>by
    simp at h1 h2;subst h1;subst h2
    show bindC kindOf ((p,w) :: P.zip vs) m p = _
    unfold bindC;rw [bindC_out λv hv=>(List.nodup_cons.mp nd).1 (List.of_mem_zip hv).1,if_neg hk];simp
  | p :: P,w :: vs,i + 1,m,nd,h1,h2,hk=>by
    show bindC kindOf ((p,w) :: P.zip vs) m x = _
    unfold bindC;exact bindC_get (i:=i) (List.nodup_cons.mp nd).2 (by simpa using h1) (by simpa using h2) hk
def start (N:List Str) (vs:List V):St:=vs.map some ++ List.replicate (N.length - vs.length) none
def cxOf (CX:CXT) (P:Program) (w:World) (K:PySem.W.Frag) (mg:Str -> Option Value) (base:Heap) (N:List Str) (qual:Str) (scope:Scope) (f:Addr) (cd:Value) (A:Around) (outer:List Env) (s:Shared) (H:Hp) (E:XK):Cx where
  prog:=P
  w:=w
  K:=K
  mg:=mg
  base:=base
  A:=A.deeper (envOfC qual scope s.heap.objs.size f cd)
  N:=N
  s₀:=s
  H₀:=H
  env:=envOfC qual scope s.heap.objs.size f cd
  outer:=outer
  stack:=envOfC qual scope s.heap.objs.size f cd :: outer
  ex:=[]
  calm:=true
  fn:=λ_=>true
  pn:=[]
  xe:=λe s'=>wpAny (model P w) (A.deeper (envOfC qual scope s.heap.objs.size f cd)) (leaving (envOfC qual scope s.heap.objs.size f cd) e) (λ_ s''=>CX outer H s E e s'') (λe' s''=>CX outer H s E e' s'') s'
theorem cell_has {sc:Scope} {n:Nat} {x:Str} (h:sc.names.lookup x = some .cell):∃ c,(cellsFrom n sc.names []).lookup x = some c:=by
  have q:=PySem.W.cellsFrom_some sc.names n [] (.inl h);exact Option.isSome_iff_exists.mp q
theorem inv_start {CX:CXT} {P:Program} {w:World} {K:PySem.W.Frag} {mg:Str -> Option Value} {base:Heap} {N ps:List Str} {qual:Str} {scope:Scope} {f:Addr} {cd:Value} {A:Around} {outer:List Env} {s s1:Shared} {H:Hp} {E:XK} {us:List Value} {vs:List V}
 (S:FnScope N ps scope) (hd:A.handled = none) (e0:Env0 P w K mg base A outer s H) (hl:vs.length = ps.length) (r:Vals vs us)
 (x:InCallC s s.heap.objs.size (bindL (envOfC qual scope s.heap.objs.size f cd).kindOf (ps.zip us) λ_=>none) (cellsFrom (s.heap.objs.size + 1) scope.names []) (bindC (envOfC qual scope s.heap.objs.size f cd).kindOf (ps.zip us) λ_=>none) s1) :
 Inv (cxOf CX P w K mg base N qual scope f cd A outer s H E) [] (start N vs) H s1:=by
  have hpl:ps.length <= N.length:=by have:=congrArg List.length S.pre;rw [List.length_take] at this;omega
  obtain ⟨h1,tk,rfl,hk⟩:=x.done;have noA:∀ b:Addr,b ∉ (cxOf CX P w K mg base N qual scope f cd A outer s H E).ex:=λb z=>absurd (show b ∈ ([]:List Addr) from z) (by simp)
  refine ⟨⟨e0.mod,S.kind,rfl,rfl,Nat.le_refl _,λy z c h1 h2=>?_,λy hy=>?_,λy c _ h=>?_,λ_=>hd,Around.frames_deeper e0.frames,.inr ⟨rfl,rfl⟩,λb z=>absurd z (noA b),e0.bs,e0.bsz,λb _ _=>noA b,λb z=>absurd z (noA b),e0.funs,e0.frf⟩,
    rfl,e0.bare,Un.kept hk,⟨_,x.toInCall.ns,λi y v h1 h2 h3=>?_⟩,λy c h=>⟨_,x.cell y c h⟩,e0.hok.fresh (Nat.le_refl _),λy c h=>?_,λp hp=>absurd (show p ∈ ([]:List (Addr × Obj)) from hp) (by simp),e0.hok.kept hk,?_⟩
  · exact name_of_addr x.apart (PySem.mem_of_lookup h1) (PySem.mem_of_lookup h2)
  · have hy:scope.names.lookup y = some .cell \/ scope.names.lookup y = some .free:=hy
    rcases hy with hy | hy
    · exact cell_has hy
    · exact absurd rfl (S.nofree _ (PySem.mem_of_lookup hy))
  · exact Nat.le_of_lt (x.above y c (PySem.mem_of_lookup h))
  · have hi:i < vs.length:=by
      unfold start at h2
      by_cases hi:i < vs.length
      · exact hi
      · rw [List.getElem?_append_right (by simpa using hi)] at h2
        rw [List.getElem?_replicate] at h2
        split at h2 <;> cases h2
    have ha:vs[i]? = some v:=by
      unfold start at h2;rw [List.getElem?_append_left (by simpa using hi),List.getElem?_map] at h2
      cases e:vs[i]? with
      | none=>rw [e] at h2;cases h2
      | some a=>rw [e] at h2;cases h2;rfl
    obtain ⟨u,hu,rv⟩:=r.get ha;have hp:ps[i]? = some y:=by
      rw [<- S.pre,List.getElem?_take_of_lt (by omega)];exact h1
    have ndP:ps.Nodup:=by rw [<- S.pre];exact S.nd.sublist (List.take_sublist _ _)
    refine ⟨u,rv,?_⟩
    rcases S.par y (List.mem_of_getElem? hp) with k | k
    · exact .inl ⟨k,bindL_get ndP hp hu k⟩
    · obtain ⟨c,e⟩:=cell_has (n:=s.heap.objs.size + 1) k
      refine .inr ⟨.inl k,c,e,?_⟩;have q:=x.cell y c e;rw [bindC_get ndP hp hu (by show scope.names.lookup y ≠ _;rw [k];decide)] at q;exact q
  · exact e0.hok.fresh (Nat.le_of_lt (x.above y c (PySem.mem_of_lookup h)))
  · unfold start
    show _ = N.length
    rw [List.length_append,List.length_map,List.length_replicate];omega
theorem fn_of {CX:CXT} {P:Program} {w:World} {K:PySem.W.Frag} {mg:Str -> Option Value} {base:Heap} {k:Nat} {f:Addr} {name qual:Str} {params:Arguments} {body:List Stmt} {scope:Scope} {dV kV doc pm cdv ct oc:Value} {an od:Option Addr}
 {osl:Array (Option Value)} {N ps:List Str} {sp:Sp} (lk:K.lookup f = some ⟨oc,od,.func (PySem.W.fnOf name qual params body scope dV kV doc pm an cdv ct),osl⟩) (hcd:PySem.W.codeIn K cdv qual = true) (S:FnScope N ps scope)
 (len:∀ vs H Q E,sp vs H Q E -> vs.length = ps.length)
 (hbody:∀ (A:Around) (outer:List Env) (s:Shared) (H:Hp) (vs:List V) (Q:VK) (E:XK),Room k (A.deeper (envOfC qual scope s.heap.objs.size f cdv)) -> sp vs H Q E ->
 ∃ t,PSs (cxOf CX P w K mg base N qual scope f cdv A outer s H E) body t /\ t { nx:=λ_ H'=>Q .non H',rt:=Q } (start N vs) H) :
 FnOk P w K mg base CX (k + 1) f (PySem.W.fnOf name qual params body scope dV kV doc pm an cdv ct) ps sp:=by
  refine ⟨len,λA outer s H args us vs Q E hr e0 hb r hsp=>?_⟩;have hl:=len _ _ _ _ hsp;have KX:K.In s.heap:=e0.mod.kin.keeps λb o e=>(e0.bs b o e).1
  have lim:s.heap.NoLimit:=e0.mod.nolimit.keeps λb o e=>(e0.bs b o e).1
  have hkind:∀ y ∈ ps.zip us,scope.names.lookup y.1 = some .local \/ (scope.names.lookup y.1 = some .cell /\ ((cellsFrom (s.heap.objs.size + 1) scope.names []).lookup y.1).isSome = true):=λ⟨n,v⟩ hy=>by
    rcases S.par n (List.of_mem_zip hy).1 with q | q
    · exact .inl q
    · exact .inr ⟨q,PySem.W.cellsFrom_some _ _ _ (.inl q)⟩
  refine codeAny_call_function hr.depth (KX _ _ lk) rfl S.co S.gen rfl (PySem.W.codeRec_of KX hcd) (hb _ _ _ _ ?_);refine wpAny_newFunctionEnv_cells S.kind hkind λenv he s1 x=>?_
  subst he;refine ⟨lim.keeps x.toInCall.keep,codeAny_func ?_⟩;obtain ⟨t,ht,hq⟩:=hbody A outer s H vs Q E (hr.deeper _) hsp;have I:Inv (cxOf CX P w K mg base N qual scope f cdv A outer s H E) [] (start N vs) H s1:=inv_start S hr.hd e0 hl r x;refine wpAny_mono (ht [] s1 (start N vs) H _ I hq) (λfl s' hs=>?_) λe s' hs=>hs
  have fin:∀ {σ':St} {H':Hp} {v:V} {u:Value},Inv (cxOf CX P w K mg base N qual scope f cdv A outer s H E) [] σ' H' s' -> RelV v u -> Q v H' -> CE outer P w H s Q u s' :=
    λ{σ' H' v u} J rv q=>⟨v,H',J.os,J.bare,J.base,J.hok,rv,q⟩
  cases fl with
  | ret u =>
    obtain ⟨v,σ',H',J,rv,q⟩:=hs;exact fin J rv q
  | next =>
    obtain ⟨σ',H',J,q⟩:=hs;exact fin (v:=V.non) (u:=Value.none) J rfl q
  | brk =>
    obtain ⟨_,_,_,q⟩:=hs;exact False.elim q
  | cont =>
    obtain ⟨_,_,_,q⟩:=hs;exact False.elim q
section
variable {X:Cx} {x:Str} {p pos:Pos} {e:Expr} {es:List Expr} {t:TA} {id T:String} {r:List V -> Hp -> VK -> Prop}
def tCB (r:List V -> Hp -> VK -> Prop) (t:TA):TE:=λσ H Q=>t σ H λvs H1=>r vs H1 Q
theorem pe_callB (hc:CallR X (.builtin id) r) (hg:Gl X x) (hm:X.mg x = none) (hv:bootBuiltins x = some (.builtin id)) (ha:PA X (e :: es) t) (hn:x ≠ "__name__" := by decide) (hdb:(x == ("__debug__" : Str)) = false:=by decide)
 (he:starEach (e :: es) X.env = (false,eval e X.env) :: starEach es X.env:=by rfl) (hpl:(backTo pos (starEach es X.env)).any (·.1) = false:=by rfl):PE X (.Call (.Name x p) (e :: es) [] pos) (tCB r t):=by
  intro pins s σ H Q I h;refine wpAny_Call_Name_kw (ld_blt I hg hm hv ?_ hn hdb);exact PyProof.Rows.callWith_builtin1 (thn (ha pos pins s σ H _ I h) λus s1 ⟨vs,H1,I1,r1,q1⟩=>hc pins s1 σ H1 vs us Q I1 r1 q1) he hpl
theorem pe_callTy (hc:CallR X (.type T) r) (hg:Gl X x) (hm:X.mg x = none) (hv:bootBuiltins x = some (.type T)) (ha:PA X (e :: es) t) (hn:x ≠ "__name__" := by decide) (hdb:(x == ("__debug__" : Str)) = false:=by decide)
 (he:starEach (e :: es) X.env = (false,eval e X.env) :: starEach es X.env:=by rfl) (hpl:(backTo pos (starEach es X.env)).any (·.1) = false:=by rfl):PE X (.Call (.Name x p) (e :: es) [] pos) (tCB r t):=by
  intro pins s σ H Q I h;refine wpAny_Call_Name_kw (ld_blt I hg hm hv ?_ hn hdb);exact PyProof.Rows.callWith_type1 (thn (ha pos pins s σ H _ I h) λus s1 ⟨vs,H1,I1,r1,q1⟩=>hc pins s1 σ H1 vs us Q I1 r1 q1) he hpl
end
end L2
namespace HT
open PySem PyProof.Rows
def lexLt:List Int -> List Int -> Bool
  | [],[]=>false
  | [],_ :: _=>true
  | _ :: _,[]=>false
  | x :: xs,y :: ys=>if x = y then lexLt xs ys else decide (x < y)
theorem lexLt_cons (x y:Int) (xs ys:List Int):lexLt (x :: xs) (y :: ys) = if x = y then lexLt xs ys else decide (x < y):=rfl
section
open PySem.SeqAt
open PySem.AutoSeq1 (wpAny_loadPart')
open PySem.MeetsSeq PySem.MeetsSeq2 PySem.MeetsSeq3
end
section
variable {prog:Program} {w:World} {A:Around} {E:Value -> Shared -> Prop} {s:Shared}
def sIx (n d:Nat):Option Int -> Nat
  | none=>d
  | some v=>if v < 0 then (v + (n:Int)).toNat else min v.toNat n
theorem sIx_le (n d:Nat) (hd:d <= n) (o:Option Int):sIx n d o <= n:=by
  cases o with
  | none=>exact hd
  | some v =>
    show (if v < 0 then (v + (n:Int)).toNat else min v.toNat n) <= n
    by_cases hv:v < 0
    · rw [if_pos hv];omega
    · rw [if_neg hv];exact Nat.min_le_right _ _
theorem clip_eq (v:Int) (n d:Nat):(if v < 0 then max (v + (n:Int)) 0 else min v (n:Int)) = ((sIx n d (some v):Nat):Int):=by
  show (if v < 0 then max (v + (n:Int)) 0 else min v (n:Int)) = (((if v < 0 then (v + (n:Int)).toNat else min v.toNat n):Nat):Int)
  by_cases hv:v < 0
  · simp only [if_pos hv];omega
  · simp only [if_neg hv];omega
theorem adjust_gen (lo hi:Option Int) (n:Nat):Builtin.Slice.sliceAdjust lo hi 1 (n:Int) = (((sIx n 0 lo:Nat):Int),((sIx n n hi:Nat):Int)):=by
  have h1:¬ ((1:Int) < 0):=by omega
  unfold Builtin.Slice.sliceAdjust;simp only [h1,if_false];refine Prod.ext ?_ ?_
  · cases lo with
    | none=>rfl
    | some v=>exact clip_eq v n 0
  · cases hi with
    | none=>rfl
    | some v=>exact clip_eq v n n
theorem places_gen (i j:Nat):Builtin.Slice.slicePlaces (i:Int) (j:Int) 1 = j - i:=by
  unfold Builtin.Slice.slicePlaces;have h1:(1:Int) > 0:=by omega
  simp only [h1,if_true,Int.ediv_one]
  split <;> omega
theorem slicePart_ {v:Value} {o:Option Int} {Q:Option Int -> Shared -> Prop} (p:IsPart v o) (h:Q o s):wpAny (model prog w) A (Builtin.Slice.slicePartIndex v) Q E s:=by
  cases p with
  | none=>exact slicePart_none h
  | int i t=>exact slicePart_int h
theorem sliceApplied_gen {sl:Addr} {vl vu:Value} {lo hi:Option Int} {n:Nat} {Q:Int × Int × Nat -> Shared -> Prop} (hs:s.heap.IsSliceOf sl vl vu .none) (pl:IsPart vl lo) (pu:IsPart vu hi)
 (h:Q (((sIx n 0 lo:Nat):Int),1,sIx n n hi - sIx n 0 lo) s):wpAny (model prog w) A (Builtin.Slice.sliceApplied (.ref sl) (pure (n:Int))) Q E s:=by
  obtain ⟨os,hos,hcs,hds⟩:=id hs;unfold Builtin.Slice.sliceApplied Builtin.Slice.sliceFields;refine wpAny_bind (wpAny_bind (wpAny_field hos hds (x:=vl) rfl (wpAny_bind (wpAny_field hos hds (x:=vu) rfl (wpAny_bind (wpAny_field hos hds (x:=.none) rfl (wpAny_pure ?_)))))));refine wpAny_bind (slicePart_none ?_)
  show wpAny _ _ (if ((1:Int) == 0) = true then _ else _) _ _ s
  rw [if_neg (by decide)];refine wpAny_bind (slicePart_ pl (wpAny_bind (slicePart_ pu (wpAny_bind (wpAny_pure ?_)))))
  show wpAny _ _ (match Builtin.Slice.sliceAdjust lo hi 1 (n:Int) with | (lo,hi)=>pure (lo,(1:Int),Builtin.Slice.slicePlaces lo hi 1)) _ _ s
  rw [adjust_gen lo hi n]
  show wpAny _ _ (pure (((sIx n 0 lo:Nat):Int),(1:Int),Builtin.Slice.slicePlaces ((sIx n 0 lo:Nat):Int) ((sIx n n hi:Nat):Int) 1)) _ _ s
  rw [places_gen];exact wpAny_pure h
theorem pick_gen (xs:Array Value) (i k:Nat):((List.range k).filterMap λ(m:Nat)=>xs[((i:Int) + (m:Int) * 1).toNat]?).toArray = ((xs.toList.drop i).take k).toArray:=by
  have e:(λ(m:Nat)=>xs[((i:Int) + (m:Int) * 1).toNat]?) = λm=>xs[i + m]? := by
    funext m
    have : ((i:Int) + (m:Int) * 1).toNat = i + m:=by omega
    rw [this]
  rw [e];have:=pick_run xs i k;rw [List.filterMap_map] at this;have e2:((λx=>xs[x]?) ∘ λx=>i + x) = λm=>xs[i + m]? := rfl
  rw [e2] at this;rw [this]
theorem getItem_tuple_cut {t sl:Addr} {items:Array Value} {vl vu:Value} {lo hi:Option Int} {Q:Value -> Shared -> Prop} (ht:IsTup s.heap t items) (hs:s.heap.IsSliceOf sl vl vu .none) (pl:IsPart vl lo) (pu:IsPart vu hi)
 (hw:¬ (sIx items.size 0 lo = 0 /\ sIx items.size items.size hi = items.size))
 (h:Q (.ref s.heap.objs.size) { s with heap:=s.heap.push { cls:=.type "tuple", data:=.seq ((items.toList.drop (sIx items.size 0 lo)).take (sIx items.size items.size hi - sIx items.size 0 lo)).toArray } })
 (hsz:items.size <= sizeLine):wpAny (model prog w) A (getItem (.ref t) (.ref sl)) Q E s:=by
  have htake:sizeOk (.seq ((items.toList.drop (sIx items.size 0 lo)).take (sIx items.size items.size hi - sIx items.size 0 lo)).toArray):=by
    show ((items.toList.drop (sIx items.size 0 lo)).take (sIx items.size items.size hi - sIx items.size 0 lo)).toArray.size <= sizeLine
    rw [List.size_toArray,List.length_take,List.length_drop,Array.length_toList];omega
  have hj:sIx items.size items.size hi <= items.size:=sIx_le _ _ (Nat.le_refl _) hi;obtain ⟨os,hos,hcs,hds⟩:=id hs;have hTs:s.TypeIs (.ref sl) "slice" := ⟨os,hos,hcs⟩;unfold getItem
  try with_reducible refine wpAny_holding ?_
  first | refine wpAny_bind (wpAny_pure ?_) | skip
  refine wpAny_bind (wpAny_sequenceKey ht.typeIs (by decide) ?_)
  refine wpAny_bind (wpAny_callSpecial?_slot (name:=Str.ofString "__getitem__") ht.typeIs PyProof.Rows.slot_tuple_getitem
    (wpAny_call_entry PyProof.Rows.slot_tuple_getitem ht.typeIs entry_tuple_getitem ?_ (args_tuple_getitem _ _)))
  show wpAny _ _ (Builtin.Tuple.tupleItemsOf (.ref t) >>= _) _ _ s
  refine wpAny_bind (tupleItemsOf_ ht ?_);refine wpAny_bind (wpAny_typeOf hTs ?_);rw [if_pos (by decide)];refine wpAny_bind (sliceApplied_gen hs pl pu ?_);have hno:¬ ((((sIx items.size 0 lo:Nat):Int) == 0 && (1:Int) == 1 && (sIx items.size items.size hi - sIx items.size 0 lo) == items.size) = true):=by
    intro q;rw [Bool.and_eq_true,Bool.and_eq_true] at q;have q1:((sIx items.size 0 lo:Nat):Int) = 0:=eq_of_beq q.1.1;have q2:sIx items.size items.size hi - sIx items.size 0 lo = items.size:=eq_of_beq q.2;exact hw ⟨by omega,by omega⟩
  show wpAny _ _ (if (((sIx items.size 0 lo:Nat):Int) == 0 && (1:Int) == 1 && (sIx items.size items.size hi - sIx items.size 0 lo) == items.size) = true then _ else _) _ _ s
  rw [if_neg hno,pick_gen]
  first
    | exact wpAny_bind (m:=Builtin.Tuple.tupleExact _) (wpAny_newObj_type (wpAny_pure ⟨_,rfl,wpAny_pure h⟩) htake)
    | exact wpAny_bind (m:=Builtin.Tuple.tupleExact _) (wpAny_newObj_type (wpAny_bind (wpAny_pure (wpAny_pure ⟨_,rfl,wpAny_pure h⟩))) htake)
    | exact wpAny_bind (wpAny_bind (m:=Builtin.Tuple.tupleExact _) (wpAny_newObj_type (wpAny_pure (wpAny_pure ⟨_,rfl,wpAny_pure h⟩)) htake))
    | exact wpAny_bind (wpAny_bind (m:=Builtin.Tuple.tupleExact _) (wpAny_newObj_type (wpAny_pure ⟨_,rfl,wpAny_pure h⟩) htake))
end
end HT
namespace L2
open PySem PySem.Spec PyProof.Rows
abbrev TO:=St -> Hp -> (Option Int -> Hp -> Prop) -> Prop
def PO (X:Cx) (e:Option Expr) (t:TO):Prop :=
  ∀ (pins:List (Addr × Obj)) (s:Shared) (σ:St) (H:Hp) (Q:Option Int -> Hp -> Prop),Inv X pins σ H s -> t σ H Q ->
    wpAny (model X.prog X.w) X.A (evalPart e X.env) (λu s'=>∃ o H',Inv X pins σ H' s' /\ IsPart u o /\ Q o H') X.xe s
def tNoPart:TO:=λ_ H Q=>Q none H
def tPart (t:TE):TO:=λσ H Q=>t σ H λx H1=>∃ i,x = .int i /\ Q (some i) H1
section
variable {X:Cx} {e:Expr} {te:TE} {lo hi:Option Expr} {tl th:TO} {pos p2:Pos}
theorem po_none:PO X none tNoPart:=by
  intro pins s σ H Q I h;rw [evalPart_none];exact wpAny_pure ⟨none,H,I,.none,h⟩
theorem po_some (h:PE X e te):PO X (some e) (tPart te):=by
  intro pins s σ H Q I hw;rw [evalPart_some];refine thn (h pins s σ H _ I hw) λu s1 ⟨x,H1,I1,r1,q1⟩=>?_
  obtain ⟨i,rfl,q⟩:=q1;obtain ⟨t,rfl⟩:=r1;exact ⟨some i,H1,I1,.int i t,q⟩
def SlR (X:Cx) (r:V -> Option Int -> Option Int -> Hp -> VK -> Prop):Prop :=
  ∀ (pins:List (Addr × Obj)) (s:Shared) (σ:St) (H:Hp) (x:V) (v vl vu:Value) (lo hi:Option Int) (sl:Addr) (Q:VK),Inv X pins σ H s -> RelV x v -> s.heap.IsSliceOf sl vl vu .none -> IsPart vl lo -> IsPart vu hi -> r x lo hi H Q ->
    ∃ T id,typeLookup (.type T) "__getitem__" = pure (some (.builtin id)) /\ s.TypeIs v T /\ wpAny (model X.prog X.w) X.A (getItem v (.ref sl)) (EP X pins σ Q) X.xe s
def tSl (r:V -> Option Int -> Option Int -> Hp -> VK -> Prop) (te:TE) (tl th:TO):TE:=λσ H Q=>te σ H λx H1=>tl σ H1 λl H2=>th σ H2 λu H3=>r x l u H3 Q
theorem pe_slice {r:V -> Option Int -> Option Int -> Hp -> VK -> Prop} (hr:SlR X r) (he:PE X e te) (hl:PO X lo tl) (hu:PO X hi th):PE X (.Subscript e (.Slice lo hi none p2) pos) (tSl r te tl th):=by
  intro pins s σ H Q I h;refine Subscript_ (thn (he pins s σ H _ I h) λv s1 ⟨x,H1,I1,r1,q1⟩=>?_);refine wpAny_Slice (thn (hl pins s1 σ H1 _ I1 q1) λvl s2 ⟨l,H2,I2,pl,q2⟩=>thn (hu pins s2 σ H2 _ I2 q2) λvu s3 ⟨u,H3,I3,pu,q3⟩=>?_);rw [evalPart_none];refine wpAny_pure ?_
  have I4:Inv X pins σ H3 { s3 with heap:=s3.heap.push { cls:=.type "slice", data:=.fields #[vl,vu,.none] } }:=I3.kept (t':=s3.toks) λb ob q=>Heap.get?_push_of_some _ q
  obtain ⟨T,id,hT,ht,hg⟩:=hr pins { s3 with heap:=s3.heap.push { cls:=.type "slice", data:=.fields #[vl,vu,.none] } } σ H3 x v vl vu l u s3.heap.objs.size Q I4 r1 (Heap.IsSliceOf.new ..) pl pu q3
  show wpAny (model X.prog X.w) X.A (subscriptTail e (.Slice lo hi none p2) v (.ref s3.heap.objs.size)) (EP X pins σ Q) X.xe { s3 with heap:=s3.heap.push { cls:=.type "slice", data:=.fields #[vl,vu,.none] } }
  exact tail_any (ops:=[.ref s3.heap.objs.size,v]) ht hT hg (by with_unfolding_all rfl)
def cutV (xs:List V) (lo hi:Option Int):List V:=(xs.drop (HT.sIx xs.length 0 lo)).take (HT.sIx xs.length xs.length hi - HT.sIx xs.length 0 lo)
theorem cutV_length (xs:List V) (lo hi:Option Int):(cutV xs lo hi).length <= xs.length:=by
  unfold cutV;rw [List.length_take,List.length_drop];omega
def rSlT (K:PySem.W.Frag):V -> Option Int -> Option Int -> Hp -> VK -> Prop:=λx lo hi H Q=>∃ a xs,x = .ref a /\ SqT K H a xs /\
  ¬ (HT.sIx xs.length 0 lo = 0 /\ HT.sIx xs.length xs.length hi = xs.length) /\ ∀ p,H p = none -> Q (.ref p) (upd H p (.tup (cutV xs lo hi)))
theorem sl_tup:SlR X (rSlT X.K):=by
  intro pins s σ H x v vl vu lo hi sl Q I rx hs pl pu h;obtain ⟨a,xs,rfl,hx,hw,q⟩:=h;cases rx;obtain ⟨its,r,ht,hz⟩:=I.tuple hx;have hlen:its.toArray.size = xs.length:=by rw [List.size_toArray];exact r.length.symm
  refine ⟨"tuple", _,PyProof.Rows.slot_tuple_getitem.lookup,ht.typeIs,?_⟩;refine HT.getItem_tuple_cut ht hs pl pu (by rw [hlen];exact hw) ?_ (by rw [hlen];exact hz);rw [hlen];refine ⟨.ref s.heap.objs.size,_,I.laid (t':=s.toks) (o:=.tup (cutV xs lo hi)) (λb ob q=>Heap.get?_push_of_some _ q) (Nat.le_refl _) ?_,rfl,q _ (I.hok.fresh (Nat.le_refl _))⟩;exact ⟨Nat.le_trans (cutV_length xs lo hi) hz,_,(r.drop (HT.sIx xs.length 0 lo)).take (HT.sIx xs.length xs.length hi - HT.sIx xs.length 0 lo),IsTup.new _ _⟩
end
def ixN (n:Nat) (i:Int):Option Nat:=if 0 <= i then (if i < n then some i.toNat else none) else if -(n:Int) <= i then some (i + n).toNat else none
def atI {α:Type} (xs:List α) (i:Int):Option α:=(ixN xs.length i).bind λj=>xs[j]?
theorem ixN_seq {n:Nat} {i:Int} {j:Nat} (h:ixN n i = some j):seqIndex? i n = some j /\ j < n /\ -(n:Int) <= i /\ i < n:=by
  unfold ixN at h
  by_cases h0:0 <= i
  · rw [if_pos h0] at h
    by_cases h1:i < n
    · rw [if_pos h1] at h
      have e:i.toNat = j:=Option.some.inj h;exact ⟨by rw [seqIndex_of h0 h1,e],by omega,by omega,h1⟩
    · rw [if_neg h1] at h;cases h
  · rw [if_neg h0] at h
    by_cases h1 : -(n:Int) <= i
    · rw [if_pos h1] at h
      have e:(i + n).toNat = j:=Option.some.inj h;exact ⟨by rw [seqIndex_neg (by omega) h1,e],by omega,h1,by omega⟩
    · rw [if_neg h1] at h;cases h
theorem atI_get {α:Type} {xs:List α} {i:Int} {v:α} (h:atI xs i = some v):∃ j,seqIndex? i xs.length = some j /\ xs[j]? = some v /\ j < xs.length /\ -(xs.length:Int) <= i /\ i < xs.length:=by
  unfold atI at h
  cases e:ixN xs.length i with
  | none=>rw [e] at h;cases h
  | some j =>
    rw [e] at h;obtain ⟨h1,h2,h3,h4⟩:=ixN_seq e;exact ⟨j,h1,h,h2,h3,h4⟩
theorem atI_nat {α:Type} {xs:List α} {j:Nat} {v:α} (h:xs[j]? = some v):atI xs (j:Int) = some v:=by
  have hj:j < xs.length:=(List.getElem?_eq_some_iff.mp h).1;have e:ixN xs.length (j:Int) = some j:=by
    unfold ixN;rw [if_pos (by omega),if_pos (by omega)];simp
  unfold atI;rw [e];exact h
def PlainIx (b:Expr):Prop:=∀ o i,subscripted b false o i = operate [o,i] (getItem o i)
def IxR (X:Cx) (r:R2):Prop :=
  ∀ (value slice:Expr) (pins:List (Addr × Obj)) (s:Shared) (σ:St) (H:Hp) (x y:V) (v u:Value) (Q:VK),Inv X pins σ H s -> RelV x v -> RelV y u -> r x y H Q ->
    subscripted slice false v u = operate [v,u] (getItem v u) -> wpAny (model X.prog X.w) X.A (subscriptTail value slice v u) (EP X pins σ Q) X.xe s
def MtR (X:Cx) (id:String) (r:V -> List V -> Hp -> VK -> Prop):Prop :=
  ∀ (pins:List (Addr × Obj)) (s:Shared) (σ:St) (H:Hp) (x:V) (xs:List V) (v:Value) (us:List Value) (Q:VK),Inv X pins σ H s -> RelV x v -> Vals xs us -> r x xs H Q ->
    wpAny (model X.prog X.w) X.A (call (.builtin id) (v :: us)) (EP X pins σ Q) X.xe s
section
variable {X:Cx} {a b:Expr} {ta tb:TE} {pos:Pos}
theorem IxR.or {r r':R2} (h:IxR X r) (h':IxR X r'):IxR X (λx y H Q=>r x y H Q \/ r' x y H Q):=by
  intro value slice pins s σ H x y v u Q I rx ry q hs
  rcases q with q | q
  · exact h value slice pins s σ H x y v u Q I rx ry q hs
  · exact h' value slice pins s σ H x y v u Q I rx ry q hs
theorem pe_ix {r:R2} (hr:IxR X r) (ha:PE X a ta) (hb:PE X b tb) (hs:PlainIx b):PE X (.Subscript a b pos) (tOp r ta tb):=by
  intro pins s σ H Q I h;exact Subscript_ (binT ha hb I h λv u s2 x y H2 I2 rx ry q=>hr a b pins s2 σ H2 x y v u Q I2 rx ry q (hs _ _))
def rIxL (K:PySem.W.Frag):R2:=λx y H Q=>∃ p xs i v,x = .ref p /\ y = .int i /\ SqL K H p xs /\ atI xs i = some v /\ Q v H
def rIxT (K:PySem.W.Frag):R2:=λx y H Q=>∃ p xs i v,x = .ref p /\ y = .int i /\ SqT K H p xs /\ atI xs i = some v /\ Q v H
def rIxS:R2:=λx y H Q=>∃ z i c,x = .str z /\ y = .int i /\ z.length <= sizeLine /\ atI z.cps.toList i = some c /\ Q (.str ⟨#[c]⟩) H
theorem ix_list:IxR X (rIxL X.K):=by
  intro value slice pins s σ H x y v u Q I rx ry h hs;obtain ⟨p,xs,i,z,rfl,rfl,hq,he,q⟩:=h;cases rx;obtain ⟨t,rfl⟩:=ry;obtain ⟨its,r,pl,hz⟩:=I.list hq;obtain ⟨j,h1,h2,h3,h4,h5⟩:=atI_get he;obtain ⟨w,ew,rw'⟩:=r.get h2;have hl:=r.length;have hn:=line63;have fin:EP X pins σ Q w s:=⟨z,H,I,rw',q⟩
  by_cases h0:0 <= i
  · have hj:i.toNat = j:=by
      rw [seqIndex_of h0 h5] at h1;exact Option.some.inj h1
    exact item_listR pl.isList h0 (by omega) (by rw [hj];simpa using ew) fin hs
  · have hj:(i + (its.toArray.size:Int)).toNat = j:=by
      rw [seqIndex_neg (by omega) h4] at h1;rw [List.size_toArray,<- hl];exact Option.some.inj h1
    exact subscriptTail_builtinR (x:=w) pl.isList.typeIs slot_list_getitem.lookup
      (wpAny_getItem_list_neg (Q:=λr s'=>r = w /\ EP X pins σ Q r s') pl.isList (by omega) (by rw [List.size_toArray] <;> omega) (by omega) (by rw [hj];simpa using ew) ⟨rfl,fin⟩) hs
theorem ix_tup:IxR X (rIxT X.K):=by
  intro value slice pins s σ H x y v u Q I rx ry h hs;obtain ⟨p,xs,i,z,rfl,rfl,hq,he,q⟩:=h;cases rx;obtain ⟨t,rfl⟩:=ry;obtain ⟨its,r,pl,hz⟩:=I.tuple hq;obtain ⟨j,h1,h2,h3,h4,h5⟩:=atI_get he;obtain ⟨w,ew,rw'⟩:=r.get h2;have hl:=r.length;have hn:=line63;have fin:EP X pins σ Q w s:=⟨z,H,I,rw',q⟩;exact subscriptTail_builtinR (x:=w) pl.typeIs slot_tuple_getitem.lookup
    (getItem_tuple (j:=j) (Q:=λr s'=>r = w /\ EP X pins σ Q r s') pl (by omega) (by omega) (by rw [List.size_toArray,<- hl];exact h1) (by simpa using ew) ⟨rfl,fin⟩) hs
theorem ix_str:IxR X rIxS:=by
  intro value slice pins s σ H x y v u Q I rx ry h hs;obtain ⟨z,i,c,rfl,rfl,hz,he,q⟩:=h;obtain ⟨t,rfl⟩:=rx;obtain ⟨t',rfl⟩:=ry;obtain ⟨j,h1,h2,h3,h4,h5⟩:=atI_get he;have hl:z.cps.toList.length = z.length:=by simp [Str.length]
  rw [hl] at h1 h4 h5;have hn:=line63
  exact tail_any (typeIs_str s z t) slot_str_getitem.lookup (getItem_str (c:=c) (by
    have e1:decide (i < -(2 ^ 63:Int)) = false:=decide_eq_false (by omega);have e2:decide (i ≥ 2 ^ 63) = false:=decide_eq_false (by omega)
    rw [e1,e2,Bool.or_false]) (by rw [h1];simpa using h2) ⟨.str ⟨#[c]⟩,H,I.tok _,⟨_,rfl⟩,q⟩) hs
def rIx (K:PySem.W.Frag):R2:=λx y H Q=>rIxL K x y H Q \/ rIxT K x y H Q \/ rIxS x y H Q
theorem ix_seq:IxR X (rIx X.K):=ix_list.or (ix_tup.or ix_str)
theorem slice_bounds (lo hi:Option Int) (n:Nat):(sliceBounds lo hi none n).1 = ((HT.sIx n 0 lo:Nat):Int) /\ (sliceBounds lo hi none n).2.1 = ((HT.sIx n n hi:Nat):Int) /\ (sliceBounds lo hi none n).2.2 = 1:=by
  refine ⟨?_,?_,rfl⟩
  · cases lo with
    | none=>simp [sliceBounds,HT.sIx]
    | some i =>
      simp only [sliceBounds,HT.sIx,Option.getD_none,show (1:Int) > 0 by decide,if_true]
      by_cases h:i < 0
      · simp only [h,if_true] <;> omega
      · simp only [h,if_false] <;> omega
  · cases hi with
    | none=>simp [sliceBounds,HT.sIx]
    | some i =>
      simp only [sliceBounds,HT.sIx,Option.getD_none,show (1:Int) > 0 by decide,if_true]
      by_cases h:i < 0
      · simp only [h,if_true] <;> omega
      · simp only [h,if_false] <;> omega
theorem slicePick_cut (its:List Value) (lo hi:Option Int):slicePick its.toArray lo hi none = ((its.drop (HT.sIx its.length 0 lo)).take (HT.sIx its.length its.length hi - HT.sIx its.length 0 lo)).toArray:=by
  obtain ⟨h1,h2,h3⟩:=slice_bounds lo hi its.toArray.size;unfold slicePick;rw [h1,h2,h3]
  simp only [sliceRange_one,pick_run,List.size_toArray] <;> rfl
def rSlL (K:PySem.W.Frag):V -> Option Int -> Option Int -> Hp -> VK -> Prop:=λx lo hi H Q=>∃ a xs,x = .ref a /\ SqL K H a xs /\ ∀ p,H p = none -> Q (.ref p) (upd H p (.lst (cutV xs lo hi)))
theorem sl_list:SlR X (rSlL X.K):=by
  intro pins s σ H x v vl vu lo hi sl Q I rx hs pl pu h;obtain ⟨a,xs,rfl,hx,q⟩:=h;cases rx;obtain ⟨its,r,ht,hz⟩:=I.list hx;have hlen:=r.length;refine ⟨"list", _,slot_list_getitem.lookup,ht.isList.typeIs,?_⟩
  refine wpAny_getItem_list_slice ht.isList hs pl pu .none (by simp) ?_ (by rw [List.size_toArray] <;> omega);rw [slicePick_cut,<- hlen];refine ⟨.ref s.heap.objs.size,_,I.laid (t':=s.toks) (o:=.lst (cutV xs lo hi)) (λb ob q=>Heap.get?_push_of_some _ q) (Nat.le_refl _) ?_,rfl,q _ (I.hok.fresh (Nat.le_refl _))⟩;exact ⟨Nat.le_trans (cutV_length xs lo hi) hz,_,0,(r.drop (HT.sIx xs.length 0 lo)).take (HT.sIx xs.length xs.length hi - HT.sIx xs.length 0 lo),Heap.get?_push_size _ rfl⟩
theorem call_len_seq:CallR X (.builtin "len") (λxs H Q=>∃ p ys,xs = [.ref p] /\ (SqL X.K H p ys \/ SqT X.K H p ys) /\ Q (.int ys.length) H):=by
  intro pins s σ H xs us Q I r h;obtain ⟨p,ys,rfl,hq,q⟩:=h;obtain ⟨u,rfl,rx⟩:=vals1 r;cases rx;have hn:=line63
  rcases hq with hq | hq
  · obtain ⟨its,r',pl,hz⟩:=I.list hq
    have hlen:=r'.length
    exact Calls.call_len_list pl.isList (by simp only [List.size_toArray] <;> omega) ⟨.int ys.length,H,I.tok _,⟨s.toks + 1,by rw [List.size_toArray,hlen]⟩,q⟩
  · obtain ⟨its,r',pl,hz⟩:=I.tuple hq
    have hlen:=r'.length
    exact len_tuple pl (by simp only [List.size_toArray] <;> omega) ⟨.int ys.length,H,I.tok _,⟨s.toks + 1,by rw [List.size_toArray,hlen]⟩,q⟩
theorem call_list_of:CallR X (.type "list") (λxs H Q=>∃ p ys,xs = [.ref p] /\ (SqL X.K H p ys \/ SqT X.K H p ys) /\ ∀ l,H l = none -> Q (.ref l) (upd H l (.lst ys))):=by
  intro pins s σ H xs us Q I r h;obtain ⟨p,ys,rfl,hq,q⟩:=h;obtain ⟨u,rfl,rx⟩:=vals1 r;cases rx;have fin:∀ (its:List Value),Vals ys its -> ys.length <= sizeLine -> ∀ (h':Heap) (c':Nat),(∀ b o',s.heap.get? b = some o' -> h'.get? b = some o') ->
      h'.get? s.heap.objs.size = some { cls:=.type "list", dict:=none,data:=.seq its.toArray c',slots:=#[] } -> EP X pins σ Q (.ref s.heap.objs.size) { s with heap:=h' }:=λits r' hz h' c' kp e =>
    ⟨.ref s.heap.objs.size,_,I.laid (t':=s.toks) kp (Nat.le_refl _) (show ObjOk X.prog X.w _ h' _ (.lst ys) from ⟨hz,its,c',r',e⟩),rfl,q _ (I.hok.fresh (Nat.le_refl _))⟩
  rcases hq with hq | hq
  · obtain ⟨its,r',pl,hz⟩:=I.list hq
    have hlen:=r'.length;obtain ⟨o,ho,hc,n,hd⟩:=pl.isList
    exact call_list_seq p (.inl rfl) ho hc hd (λh' c' kp e=>fin its r' hz h' c' kp e) (by simp only [List.size_toArray] <;> omega)
  · obtain ⟨its,r',pl,hz⟩:=I.tuple hq
    have hlen:=r'.length;obtain ⟨o,ho,hc,n,hd⟩:=pl
    exact call_list_seq p (.inr rfl) ho hc hd (λh' c' kp e=>fin its r' hz h' c' kp e) (by simp only [List.size_toArray] <;> omega)
def tyV (K:PySem.W.Frag) (T:String) (x:V) (H:Hp):Prop:=match x with
  | .str _=>T = "str"
  | .int _=>T = "int"
  | .ref p=>(T = "list" /\ ∃ xs,SqL K H p xs) \/ (T = "tuple" /\ ∃ o,K.lookup p = some o /\ o.cls = .type "tuple" /\ o.dict = none) \/
      (T = "dict" /\ ((∃ kvs,H p = some (.dK kvs)) \/ ∃ kvs,H p = some (.dT kvs))) \/ (T = "set" /\ ∃ S n,H p = some (.set S n))
  | _=>False
theorem tyV_is {pins:List (Addr × Obj)} {σ:St} {H:Hp} {s:Shared} {T:String} {x:V} {v:Value} (I:Inv X pins σ H s) (r:RelV x v) (ty:tyV X.K T x H) :
 s.TypeIs v T /\ ∀ a,v = .ref a -> ∃ ob,s.heap.get? a = some ob /\ ob.dict = none:=by
  cases x with
  | str z =>
    obtain ⟨t,rfl⟩:=r;cases (show T = "str" from ty);exact ⟨typeIs_str s z t,λ_ e=>nomatch e⟩
  | int i =>
    obtain ⟨t,rfl⟩:=r;cases (show T = "int" from ty);exact ⟨typeIs_int s i t,λ_ e=>nomatch e⟩
  | ref p =>
    cases r
    rcases ty with ⟨rfl,xs,hq⟩ | ⟨rfl,o,hk,hc,hd⟩ | ⟨rfl,hk⟩ | ⟨rfl,S,n,hk⟩
    · obtain ⟨its,_,pl,_⟩:=I.list hq
      refine ⟨pl.isList.typeIs,λa e=>?_⟩;cases e;obtain ⟨o,n,e,c,hd,_⟩:=pl;exact ⟨o,e,hd⟩
    · refine ⟨⟨o,I.kIn p o hk,hc⟩,λa e=>?_⟩
      cases e;exact ⟨o,I.kIn _ o hk,hd⟩
    · have z:∃ o,s.heap.get? p = some o /\ o.ExactDict:=by
        rcases hk with ⟨kvs,hk⟩ | ⟨kvs,hk⟩
        · obtain ⟨_,_,_,_,o,_,_,e,ex,_⟩:=I.hok p _ hk
          exact ⟨o,e,ex⟩
        · obtain ⟨_,_,_,_,o,_,_,e,ex,_⟩:=I.hok p _ hk
          exact ⟨o,e,ex⟩
      obtain ⟨o,e,ex⟩:=z;refine ⟨⟨o,e,ex.1⟩,λa e2=>?_⟩;cases e2;exact ⟨o,e,ex.2.1⟩
    · obtain ⟨o,_,_,_,e,ex,_⟩:=I.hok p _ hk
      refine ⟨⟨o,e,ex.1⟩,λa e2=>?_⟩;cases e2;exact ⟨o,e,ex.2.1⟩
  | _=>exact False.elim ty
def tBM (K:PySem.W.Frag) (T:String) (r:V -> List V -> Hp -> VK -> Prop) (to:TE) (t:TA):TE:=λσ H Q=>to σ H λx H1=>tyV K T x H1 /\ t σ H1 λxs H2=>r x xs H2 Q
variable {o e:Expr} {es:List Expr} {to:TE} {t:TA} {name:Str} {apos cpos:Pos} {T id:String} {r:V -> List V -> Hp -> VK -> Prop}
theorem pe_bm (pa:PlainAttrs T) (slot:Slot T name id) (hty:typeOf (.builtin id) = pure (.type "method_descriptor")) (hm:MtR X id r) (ho:PE X o to) (ha:PA X (e :: es) t)
 (hbase:attributeBase o name X.env (eval o X.env) = eval o X.env:=by rfl)
 (hfew:((backTo cpos (starEach (e :: es) X.env)).all (λx=>!x.1) && (backToKw cpos (keywordEach [] X.env)).all (λx=>x.1.isSome)
 && decide ((e :: es).length + ([]:List Keyword).length + (if ([]:List Keyword).isEmpty then 0 else 1) < 30)) = true:=by rfl)
 (hline:(apos.endLine == cpos.line) = true:=by rfl) (hs:starEach (e :: es) X.env = (false,eval e X.env) :: starEach es X.env:=by rfl) (hplain:(backTo cpos (starEach es X.env)).any (·.1) = false:=by rfl) :
 PE X (.Call (.Attribute o name apos) (e :: es) [] cpos) (tBM X.K T r to t):=by
  intro pins s σ H Q I h;refine wpAny_Call_method_late hbase hfew hline rfl (thn (ho pins s σ H _ I h) λv s1 ⟨x,H1,I1,r1,ty,q1⟩=>?_);obtain ⟨h1,h2⟩:=tyV_is I1 r1 ty;refine ⟨T,id,pa,slot,hty,h1,h2,?_⟩;have hA:=ha cpos pins s1 σ H1 _ I1 q1;rw [hs] at hA ⊢
  refine Calls.callWith_builtin (by show (false || (backTo cpos (starEach es X.env)).any (·.1)) = false;rw [hplain] <;> rfl) (Calls.evalArgs_plain ?_);exact thn hA λus s2 ⟨vs,H2,I2,r2,q2⟩=>hm pins s2 σ H2 x vs v us Q I2 r1 r2 q2
end
def MtM (X:Cx) (id:String) (r:V -> List V -> Hp -> VK -> Prop):Prop :=
  ∀ (pins:List (Addr × Obj)) (s:Shared) (σ:St) (H:Hp) (x:V) (xs:List V) (v:Value) (us:List Value) (Q:VK),Inv X pins σ H s -> RelV x v -> Vals xs us -> r x xs H Q ->
    wpAny (model X.prog X.w) X.A (call (.builtin id) (v :: us)) (EP X pins σ Q) X.xe s
theorem Vals.one:∀ {x:V} {us:List Value},Vals [x] us -> ∃ u,us = [u] /\ RelV x u
  | _,_,.cons r .nil=>⟨_,rfl,r⟩
section
variable {X:Cx} {pins:List (Addr × Obj)} {σ:St} {H:Hp} {s:Shared} {l b:Addr} {xs ys zs:List V}
theorem Inv.lset {its its':List Value} {n:Nat} {f:Array Value -> Array Value} {t':Nat} (I:Inv X pins σ H s) (hH:H l = some (.lst xs))
 (e:s.heap.get? l = some { cls:=.type "list", data:=.seq its.toArray n }) (hf:f its.toArray = its'.toArray) (hv:Vals ys its') (hz:ys.length <= sizeLine) :
 Inv X pins σ (upd H l (.lst ys)) { s with heap:=s.heap.update l (Obj.mapSeq f),toks:=t' }:=by
  have q:=PySem.IsL.update e f;rw [hf] at q;refine I.write (x:=l) (e:=l) (by rw [hH];exact trivial) (.inl rfl) (λb' u hb hu=>(Heap.get?_update_other s.heap (Obj.mapSeq f) (Ne.symm hb)).trans hu) ⟨_,q⟩ ?_;exact ⟨hz,its',_,hv,q⟩
theorem Inv.lnew {its:List Value} {t':Nat} (I:Inv X pins σ H s) (hv:Vals ys its) (hz:ys.length <= sizeLine) :
 Inv X pins σ (upd H s.heap.objs.size (.lst ys)) { s with heap:=s.heap.push { cls:=.type "list", data:=.seq its.toArray },toks:=t' } :=
  I.laid (λ_ _ q=>Heap.get?_push_of_some _ q) (Nat.le_refl _) ⟨hz,its,0,hv,Heap.get?_push_size _ rfl⟩
theorem Inv.fresh (I:Inv X pins σ H s):H s.heap.objs.size = none:=I.hok.fresh (Nat.le_refl _)
theorem Inv.lstM (I:Inv X pins σ H s) (hH:H l = some (.lst xs)):xs.length <= sizeLine /\ ∃ (its:List Value) (n:Nat),Vals xs its /\ xs.length = its.length /\ s.heap.get? l = some { cls:=.type "list", data:=.seq its.toArray n }:=by
  obtain ⟨z,its,n,r,e⟩:=I.hok l _ hH;exact ⟨z,its,n,r,r.length,e⟩
end
section
variable {X:Cx}
def rAppend:V -> List V -> Hp -> VK -> Prop:=λx vs H Q=>∃ l xs y,x = .ref l /\ vs = [y] /\ H l = some (.lst xs) /\ xs.length < sizeLine /\ Q .non (upd H l (.lst (xs ++ [y])))
theorem mt_append:MtM X "list.append" rAppend:=by
  intro pins s σ H x vs v us Q I rx rv h;obtain ⟨l,xs,y,rfl,rfl,hH,hz,q⟩:=h;cases rx;obtain ⟨u,rfl,ru⟩:=rv.one;obtain ⟨z,its,n,r,hl,e⟩:=I.lstM hH;refine call_meets F.slot_list_append ⟨_,e,rfl⟩ F.entry_list_append (F.args_list_append_2 _ _) (PySem.list_append l its.toArray n u (by rw [List.size_toArray];omega)) ⟨e,?_⟩;refine ⟨.non,_,I.lset (its':=its ++ [u]) hH e (by simp) (r.append (.cons ru .nil)) ?_,rfl,q⟩;rw [List.length_append,List.length_singleton];omega
end
section
variable {prog:Program} {w:World} {A:Around} {E:Value -> Shared -> Prop} {s:Shared}
set_option maxRecDepth 100000 in
end
section
variable {X:Cx}
end
section
variable {κ:Type} [DecidableEq κ]
def valV (kvs:List (κ × V)) (k:κ):Option V:=(kvs.find? λkv=>decide (kv.1 = k)).map (·.2)
def putK (kvs:List (κ × V)) (k:κ) (v:V):List (κ × V) :=
  if (kvs.any λkv=>decide (kv.1 = k)) = true then kvs.map (λkv=>if kv.1 = k then (kv.1,v) else kv) else kvs ++ [(k,v)]
theorem valV_pos {p:κ × V} {r:List (κ × V)} {k:κ} (e:p.1 = k):valV (p :: r) k = some p.2:=by simp [valV,List.find?_cons,e]
theorem valV_neg {p:κ × V} {r:List (κ × V)} {k:κ} (e:¬ p.1 = k):valV (p :: r) k = valV r k:=by simp [valV,List.find?_cons,e]
theorem valV_any (k:κ):∀ kvs:List (κ × V),(kvs.any λkv=>decide (kv.1 = k)) = (valV kvs k).isSome
  | []=>rfl
  | p :: r=>by
    rw [List.any_cons]
    by_cases e:p.1 = k
    · simp only [valV_pos e,decide_eq_true e,Bool.true_or,Option.isSome_some]
    · rw [valV_neg e,decide_eq_false e,Bool.false_or];exact valV_any k r
theorem length_putK (kvs:List (κ × V)) (k:κ) (v:V):(putK kvs k v).length <= kvs.length + 1:=by
  unfold putK
  split
  · rw [List.length_map];omega
  · rw [List.length_append,List.length_cons,List.length_nil];omega
theorem RelO.isSome_eq {o:Option V} {u:Option Value} (r:RelO o u):o.isSome = u.isSome:=by
  cases o with
  | none=>cases u with
    | none=>rfl
    | some _=>exact (show False from r).elim
  | some _=>cases u with
    | none=>exact (show False from r).elim
    | some _=>rfl
theorem RelO.getD {o:Option V} {u:Option Value} {d:V} {d':Value} (r:RelO o u) (rd:RelV d d'):RelV (o.getD d) (u.getD d'):=by
  cases o with
  | none=>cases u with
    | none=>exact rd
    | some _=>exact (show False from r).elim
  | some _=>cases u with
    | none=>exact (show False from r).elim
    | some _=>exact r
theorem KV.val {kvs:List (κ × V)} {vs:List (κ × Value)} (r:KV kvs vs) (k:κ):RelO (valV kvs k) (valueAt vs k):=by
  unfold KV at r
  induction r with
  | nil=>exact True.intro
  | @cons p q ps qs h t ih =>
    obtain ⟨h1,h2⟩:=h
    by_cases e:p.1 = k
    · have e':q.1 = k:=h1.symm.trans e
      have b:valueAt (q :: qs) k = some q.2:=by simp [valueAt,List.find?_cons,e']
      rw [valV_pos e,b];exact h2
    · have e':¬ q.1 = k:=λz=>e (h1.trans z)
      have b:valueAt (q :: qs) k = valueAt qs k:=by simp [valueAt,List.find?_cons,e']
      rw [valV_neg e,b];exact ih
theorem KV.any {kvs:List (κ × V)} {vs:List (κ × Value)} (r:KV kvs vs) (k:κ):(kvs.any λkv=>decide (kv.1 = k)) = vs.any λkv=>decide (kv.1 = k):=by
  unfold KV at r
  induction r with
  | nil=>rfl
  | cons h t ih=>rw [List.any_cons,List.any_cons,ih,h.1]
theorem KV.repl {kvs:List (κ × V)} {vs:List (κ × Value)} (r:KV kvs vs) (k:κ) {y:V} {u:Value} (ry:RelV y u) :
 KV (kvs.map λkv=>if kv.1 = k then (kv.1,y) else kv) (vs.map λkv=>if kv.1 = k then (kv.1,u) else kv):=by
  unfold KV at r ⊢
  induction r with
  | nil=>exact .nil
  | @cons p q ps qs h t ih =>
    rw [List.map_cons,List.map_cons];refine .cons ?_ ih;obtain ⟨h1,h2⟩:=h
    by_cases e:p.1 = k
    · rw [if_pos e,if_pos (h1.symm.trans e)];exact ⟨h1,ry⟩
    · rw [if_neg e,if_neg (λz=>e (h1.trans z))];exact ⟨h1,h2⟩
theorem KV.put {kvs:List (κ × V)} {vs:List (κ × Value)} (r:KV kvs vs) (k:κ) {y:V} {u:Value} (ry:RelV y u):KV (putK kvs k y) (stored vs k u):=by
  unfold putK stored;rw [r.any k]
  by_cases e:(vs.any λkv=>decide (kv.1 = k)) = true
  · rw [if_pos e,if_pos e];exact r.repl k ry
  · rw [if_neg e,if_neg e];exact Paired.snoc r ⟨rfl,ry⟩
theorem KV.length {kvs:List (κ × V)} {vs:List (κ × Value)} (r:KV kvs vs):kvs.length = vs.length:=Paired.length r
end
theorem kV_is {P:Program} {w:World} {k:Key} {u:Value} (r:RelV (kV k) u):(mixKind P w).is k u = true:=by
  cases k with
  | inl i=>obtain ⟨t,e⟩:=(show ∃ t,u = Value.int i t from r);subst e;exact mixKind_int P w i t
  | inr x=>obtain ⟨t,e⟩:=(show ∃ t,u = Value.str x t from r);subst e;exact mixKind_str P w x t
theorem items_are {P:Program} {w:World}:∀ {ks:List Key} {us:List Value},Vals (ks.map kV) us -> ItemsAre (mixKind P w) ks us
  | [],_,r=>by rw [List.map_nil] at r;cases r;exact .nil
  | k :: ks,_,r=>by
    rw [List.map_cons] at r
    cases r with
    | cons h t=>exact .cons (kV_is h) (items_are t)
abbrev KT (H:Hp):List (List Key × V) -> List (List Key × Addr × Value) -> Prop:=Paired λp q=>p.1 = q.1 /\ H q.2.1 = some (.tup (p.1.map kV)) /\ RelV p.2 q.2.2
theorem KT.val {H:Hp} {kvs:List (List Key × V)} {xs:List (List Key × Addr × Value)} (r:KT H kvs xs) (k:List Key):RelO (valV kvs k) ((atKey xs k).map (·.2)):=by
  induction r with
  | nil=>exact True.intro
  | @cons p q ps qs h t ih =>
    obtain ⟨h1,_,h2⟩:=h
    by_cases e:p.1 = k
    · have e':q.1 = k:=h1.symm.trans e
      have b:atKey (q :: qs) k = some q.2:=by simp [atKey,List.find?_cons,e']
      rw [valV_pos e,b];exact h2
    · have e':¬ q.1 = k:=λz=>e (h1.trans z)
      have b:atKey (q :: qs) k = atKey qs k:=by simp [atKey,List.find?_cons,e']
      rw [valV_neg e,b];exact ih
theorem KT.repl {H:Hp} {kvs:List (List Key × V)} {xs:List (List Key × Addr × Value)} (r:KT H kvs xs) (k:List Key) {y:V} {u:Value} (ry:RelV y u) :
 KT H (kvs.map λkv=>if kv.1 = k then (kv.1,y) else kv) (xs.map (putAt k u)):=by
  induction r with
  | nil=>exact .nil
  | @cons p q ps qs h t ih =>
    rw [List.map_cons,List.map_cons];refine .cons ?_ ih;obtain ⟨h1,h2,h3⟩:=h;unfold putAt
    by_cases e:p.1 = k
    · rw [if_pos e,if_pos (h1.symm.trans e)];exact ⟨h1,h2,ry⟩
    · rw [if_neg e,if_neg (λz=>e (h1.trans z))];exact ⟨h1,h2,h3⟩
theorem KT.put {H:Hp} {kvs:List (List Key × V)} {xs:List (List Key × Addr × Value)} (r:KT H kvs xs) (k:List Key) {b:Addr} {y:V} {u:Value} (hb:H b = some (.tup (k.map kV))) (ry:RelV y u) :
 KT H (putK kvs k y) (storedH xs k b u):=by
  have e:(kvs.any λkv=>decide (kv.1 = k)) = (atKey xs k).isSome:=by
    rw [valV_any,(r.val k).isSome_eq,Option.isSome_map]
  unfold putK storedH;rw [e]
  by_cases q:(atKey xs k).isSome = true
  · rw [if_pos q,if_pos q];exact r.repl k ry
  · rw [if_neg q,if_neg q];exact Paired.snoc r ⟨rfl,hb,ry⟩
theorem KT.keeps {H H':Hp} {kvs:List (List Key × V)} {xs:List (List Key × Addr × Value)} (r:KT H kvs xs) (ht:∀ b ys,H b = some (.tup ys) -> H' b = some (.tup ys)):KT H' kvs xs :=
  Paired.mapP r λ_ _ z=>⟨z.1,ht _ _ z.2.1,z.2.2⟩
section
variable {P:Program} {w:World} {H:Hp} {h:Heap} {a:Addr}
theorem rd_of {u:HO} (ok:HOk P w H h) (e:Rd H a u):ObjOk P w H h a u:=e.ok ok
theorem dk_rd {kvs:List (Key × V)} (ok:HOk P w H h) (e:Rd H a (.dK kvs)):kvs.length <= sizeLine /\ (a == sysModules) = false /\ ∃ vs,KV kvs vs /\ h.DictOf (mixKind P w) a vs :=
  show ObjOk P w H h a (.dK kvs) from rd_of ok e
theorem dk_of {kvs:List (Key × V)} (ok:HOk P w H h) (e:H a = some (.dK kvs)):kvs.length <= sizeLine /\ (a == sysModules) = false /\ ∃ vs,KV kvs vs /\ h.DictOf (mixKind P w) a vs:=dk_rd ok (.inl e)
theorem key_of {ks:List Key} (ok:HOk P w H h) (e:H a = some (.tup (ks.map kV))):(tupleKind (mixKind P w)).is h ks a:=by
  obtain ⟨_,its,r,o,h1,h2,n,h3⟩:=(show ObjOk P w H h a (.tup (ks.map kV)) from ok a _ e);exact ⟨o,its.toArray,n,h1,h2,h3,by simpa using items_are r⟩
theorem dt_rd {kvs:List (List Key × V)} (ok:HOk P w H h) (e:Rd H a (.dT kvs)):kvs.length <= sizeLine /\ (a == sysModules) = false /\
 ∃ xs,KT H kvs xs /\ h.DictOfH (tupleKind (mixKind P w)) a xs:=by
  obtain ⟨z,y,xs,r,o,es,ep,h1,h2,h3,h4,h5⟩:=(show ObjOk P w H h a (.dT kvs) from rd_of ok e);refine ⟨z,y,xs,r,o,es,ep,h1,h2,h3,h4,λx hx=>?_,h5⟩;have all:∀ {l:List (List Key × V)} {m:List (List Key × Addr × Value)},KT H l m -> ∀ x ∈ m,(tupleKind (mixKind P w)).is h x.1 x.2.1:=by
    intro l m q
    induction q with
    | nil=>intro x hx;exact nomatch hx
    | @cons p q ps qs hq t ih =>
      intro x hx
      rcases List.mem_cons.mp hx with e | hx
      · subst e
        exact key_of ok (by rw [<- hq.1];exact hq.2.1)
      · exact ih x hx
  exact all r x hx
theorem dt_of {kvs:List (List Key × V)} (ok:HOk P w H h) (e:H a = some (.dT kvs)):kvs.length <= sizeLine /\ (a == sysModules) = false /\
 ∃ xs,KT H kvs xs /\ h.DictOfH (tupleKind (mixKind P w)) a xs:=dt_rd ok (.inl e)
end
def DGet (H:Hp) (a:Addr) (y:V) (r:Option V):Prop :=
  (∃ kvs k,Rd H a (.dK kvs) /\ y = kV k /\ r = valV kvs k) \/ ∃ kvs k b,Rd H a (.dT kvs) /\ y = .ref b /\ H b = some (.tup (k.map kV)) /\ r = valV kvs k
def DPut (H:Hp) (a:Addr) (y v:V) (H':Hp):Prop :=
  (∃ kvs k,H a = some (.dK kvs) /\ y = kV k /\ kvs.length < sizeLine /\ H' = upd H a (.dK (putK kvs k v))) \/
  ∃ kvs k b,H a = some (.dT kvs) /\ y = .ref b /\ H b = some (.tup (k.map kV)) /\ kvs.length < sizeLine /\ H' = upd H a (.dT (putK kvs k v))
theorem DPut.k {H:Hp} {a:Addr} {kvs:List (Key × V)} {k:Key} {v:V} (e:H a = some (.dK kvs)) (hl:kvs.length < sizeLine):DPut H a (kV k) v (upd H a (.dK (putK kvs k v))):=.inl ⟨kvs,k,e,rfl,hl,rfl⟩
theorem DPut.t {H:Hp} {a b:Addr} {kvs:List (List Key × V)} {k:List Key} {v:V} (e:H a = some (.dT kvs)) (eb:H b = some (.tup (k.map kV))) (hl:kvs.length < sizeLine) :
 DPut H a (.ref b) v (upd H a (.dT (putK kvs k v))):=.inr ⟨kvs,k,b,e,rfl,eb,hl,rfl⟩
section
variable {X:Cx} {pins:List (Addr × Obj)} {σ:St} {H:Hp} {s:Shared} {a:Addr} {y v:V} {u r:Value} {o:Option V} {A:Around} {E:Value -> Shared -> Prop}
theorem Inv.big (I:Inv X pins σ H s):sysModules < s.heap.objs.size:=by
  have h:mainGlobals < s.heap.objs.size:=(I.mod.glob.keeps I.bk).lt;exact Nat.lt_trans (by decide) h
theorem d_getItem {Q:Value -> Shared -> Prop} (hu:A.units + 1 < cLine) (I:Inv X pins σ H s) (g:DGet H a y (some v)) (ry:RelV y u) (h:∀ w' s',Inv X pins σ H s' -> RelV v w' -> Q w' s') :
 wpAny (model X.prog X.w) A (getItem (.ref a) u) Q E s:=by
  rcases g with ⟨kvs,k,e,ey,l⟩ | ⟨kvs,k,b,e,ey,eb,l⟩
  · subst ey
    obtain ⟨z,hd,vs,rel,dd⟩:=dk_rd I.hok e;obtain ⟨w',hw,rw'⟩:=RelO.some_of (v:=v) (o:=valueAt vs k) (by rw [l];exact rel.val k);exact wpAny_getItem_of (kV_is ry) dd.mapOf hw (h w' _ (I.tok _) rw')
  · subst ey
    cases (show u = Value.ref b from ry);obtain ⟨z,hd,xs,rel,dd⟩:=dt_rd I.hok e;obtain ⟨w',hw,rw'⟩:=RelO.some_of (v:=v) (o:=(atKey xs k).map (·.2)) (by rw [l];exact rel.val k);obtain ⟨p,hp,hp2⟩:=Option.map_eq_some_iff.mp hw;refine wpAny_getItem_heap (tupleKind_room_in1 hu) (key_of I.hok eb) dd hp ?_;rw [hp2];exact h w' _ (I.tok _) rw'
theorem d_in {Q:Value -> Shared -> Prop} (hu:A.units + 1 < cLine) (I:Inv X pins σ H s) (g:DGet H a y o) (ry:RelV y u) (h:∀ s',Inv X pins σ H s' -> Q (.bool o.isSome) s') :
 wpAny (model X.prog X.w) A (compareOp .In u (.ref a)) Q E s:=by
  rcases g with ⟨kvs,k,e,ey,l⟩ | ⟨kvs,k,b,e,ey,eb,l⟩
  · subst ey
    obtain ⟨z,hd,vs,rel,dd⟩:=dk_rd I.hok e;refine wpAny_in_of (kV_is ry) hd dd.mapOf ?_;rw [<- (rel.val k).isSome_eq,<- l];exact h _ (I.tok _)
  · subst ey
    cases (show u = Value.ref b from ry);obtain ⟨z,hd,xs,rel,dd⟩:=dt_rd I.hok e;refine wpAny_in_heap (tupleKind_room_in1 hu) (key_of I.hok eb) hd dd ?_;have q:=(rel.val k).isSome_eq;rw [Option.isSome_map] at q;rw [<- q,<- l];exact h _ (I.tok _)
theorem d_notIn {Q:Value -> Shared -> Prop} (hu:A.units + 1 < cLine) (I:Inv X pins σ H s) (g:DGet H a y o) (ry:RelV y u) (h:∀ s',Inv X pins σ H s' -> Q (.bool (!o.isSome)) s') :
 wpAny (model X.prog X.w) A (compareOp .NotIn u (.ref a)) Q E s:=by
  rcases g with ⟨kvs,k,e,ey,l⟩ | ⟨kvs,k,b,e,ey,eb,l⟩
  · subst ey
    obtain ⟨z,hd,vs,rel,dd⟩:=dk_rd I.hok e;refine wpAny_notIn_of (kV_is ry) hd dd.mapOf ?_;rw [<- (rel.val k).isSome_eq,<- l];exact h _ (I.tok _)
  · subst ey
    cases (show u = Value.ref b from ry);obtain ⟨z,hd,xs,rel,dd⟩:=dt_rd I.hok e;refine wpAny_notIn_heap (tupleKind_room_in1 hu) (key_of I.hok eb) hd dd ?_;have q:=(rel.val k).isSome_eq;rw [Option.isSome_map] at q;rw [<- q,<- l];exact h _ (I.tok _)
theorem d_write {h':Heap} {t':Nat} {ob:HO} (I:Inv X pins σ H s) (mu:Mut (H a)) (hs:Heap.SameBut a s.heap h') (he:∃ q,h'.get? a = some q) (new:ObjOk X.prog X.w (upd H a ob) h' a ob) :
 Inv X pins σ (upd H a ob) { s with heap:=h',toks:=t' } :=
  I.write (x:=a) (e:=a) mu (.inl rfl) (λb q hb z=>(hs.2 b hb).trans z) he new
theorem dk_new {P:Program} {w:World} {H':Hp} {h':Heap} {kvs:List (Key × V)} {vs:List (Key × Value)} (z:kvs.length <= sizeLine) (hd:(a == sysModules) = false) (rel:KV kvs vs) (dd:h'.DictOf (mixKind P w) a vs) :
 ObjOk P w H' h' a (.dK kvs):=⟨z,hd,vs,rel,dd⟩
theorem d_setItem {H':Hp} {Q:Unit -> Shared -> Prop} (hu:A.units + 1 < cLine) (I:Inv X pins σ H s) (g:DPut H a y v H') (ry:RelV y u) (rv:RelV v r) (h:∀ s',Inv X pins σ H' s' -> Q () s') :
 wpAny (model X.prog X.w) A (setItem (.ref a) u r) Q E s:=by
  rcases g with ⟨kvs,k,e,ey,l,eH⟩ | ⟨kvs,k,b,e,ey,eb,l,eH⟩
  · subst ey eH
    obtain ⟨z,hd,vs,rel,dd⟩:=dk_of I.hok e;have hz:vs.length <= sizeLine:=by rw [<- rel.length];exact z
    have hl:(putK kvs k v).length <= sizeLine:=by have:=length_putK kvs k v;omega
    refine wpAny_setItem_pairs (hsz:=hz) (kV_is ry) dd λh' dd' hs=>h _ ?_
    have he:∃ q,h'.get? a = some q:=let ⟨q,_,_,hq,_⟩:=dd';⟨q,hq⟩;exact d_write I (by rw [e];exact True.intro) hs he (dk_new hl hd (rel.put k rv) dd')
  · subst ey eH
    cases (show u = Value.ref b from ry);obtain ⟨z,hd,xs,rel,dd⟩:=dt_of I.hok e;have hz:xs.length <= sizeLine:=by rw [<- Paired.length rel];exact z
    have hl:(putK kvs k v).length <= sizeLine:=by have:=length_putK kvs k v;omega
    refine wpAny_setItem_heap (hsz:=hz) (tupleKind_room_in1 hu) (key_of I.hok eb) dd λh' dd' hs=>h _ ?_
    obtain ⟨q,es,ep,hq,h2,h3,h4,_,h5⟩:=dd';refine d_write I (by rw [e];exact True.intro) hs ⟨q,hq⟩ ⟨hl,hd,_,(rel.put k eb rv).keeps λc ys ec=>?_,q,es,ep,hq,h2,h3,h4,h5⟩;rw [upd_ne (ne_of ec e (λz=>nomatch z))];exact ec
end
section
variable {X:Cx} {pins:List (Addr × Obj)} {σ:St} {H:Hp} {s:Shared} {a:Addr} {kvs:List (Key × V)} {k:Key} {u:Value} {A:Around} {E:Value -> Shared -> Prop}
end
def NoSl (i:Expr):Prop:=∀ ov iv,subscripted i false ov iv = operate [ov,iv] (getItem ov iv)
theorem subD_of {prog:Program} {w:World} {A:Around} {E:Value -> Shared -> Prop} {s:Shared} {env:Env} {value slice:Expr} {pos:Pos} {T id:String} {Q:Value -> Shared -> Prop}
 (hl:typeLookup (.type T) "__getitem__" = pure (some (.builtin id))) (hs:NoSl slice)
 (h:wpAny (model prog w) A (eval value env) (λo s₁=>wpAny (model prog w) A (eval slice env) (λi s₂=>s₂.TypeIs o T /\ wpAny (model prog w) A (getItem o i) Q E s₂) E s₁) E s) :
 wpAny (model prog w) A (eval (.Subscript value slice pos) env) Q E s:=by
  refine Subscript_ (wpAny_mono h (λo s₁ h₁=>wpAny_mono h₁ (λi s₂ h₂=>?_) λ_ _ x=>x) λ_ _ x=>x);obtain ⟨hT,h₂⟩:=h₂;unfold subscriptTail;refine wpAny_bind ?_;rw [getitemInPython_of_ne hT.not_modules];refine wpAny_bind (wpAny_specialOf hT hl ?_);have fin:wpAny (model prog w) A (subscripted slice false o i) (λr s₃=>wpAny (model prog w) A (letTemporaryGo value o r >>= λ_=>pure r) Q E s₃) E s₂:=by
    rw [hs o i];exact wpAny_operating (wpAny_mono h₂ (λr s₃ h₃=>wpAny_bind (wpAny_letTemporaryGo (wpAny_pure h₃))) λ_ _ x=>x)
  first
    | exact wpAny_pure (wpAny_bind fin)
    | exact wpAny_bind (wpAny_pure (wpAny_bind fin))
    | exact wpAny_bind fin
theorem dict_typeIs {X:Cx} {pins:List (Addr × Obj)} {σ:St} {H:Hp} {s:Shared} {a:Addr} {y:V} {o:Option V} (I:Inv X pins σ H s) (g:DGet H a y o):s.TypeIs (.ref a) "dict" := by
  rcases g with ⟨kvs,k,e,_,_⟩ | ⟨kvs,k,b,e,_,_,_⟩
  · obtain ⟨_,_,vs,_,dd⟩:=dk_rd I.hok e
    exact dd.typeIs
  · obtain ⟨_,_,xs,_,dd⟩:=dt_rd I.hok e
    exact dd.typeIs
def tDGet (td ty:TE):TE:=λσ H Q=>td σ H λx H1=>ty σ H1 λy H2=>∃ a v,x = .ref a /\ DGet H2 a y (some v) /\ Q v H2
def tDIn (ty td:TE):TE:=λσ H Q=>ty σ H λy H1=>td σ H1 λx H2=>∃ a o,x = .ref a /\ DGet H2 a y o /\ Q (.bl o.isSome) H2
def tDNotIn (ty td:TE):TE:=λσ H Q=>ty σ H λy H1=>td σ H1 λx H2=>∃ a o,x = .ref a /\ DGet H2 a y o /\ Q (.bl (!o.isSome)) H2
def sDPut (td ty tv:TE):TS:=λD σ H=>tv σ H λv H1=>td σ H1 λx H2=>ty σ H2 λy H3=>∃ a H4,x = .ref a /\ DPut H3 a y v H4 /\ D.nx σ H4
section
variable {X:Cx} {o i e value:Expr} {pos pos' tpos:Pos} {td ty tv:TE}
theorem pe_dget (hu:X.A.units + 1 < cLine) (ho:PE X o td) (hi:PE X i ty) (hs:NoSl i):PE X (.Subscript o i pos) (tDGet td ty):=by
  intro pins s σ H Q I h;refine subD_of PySem.F.slot_dict_getitem.lookup hs (thn (ho pins s σ H _ I h) λu s1 ⟨x,H1,I1,rx,q1⟩=>thn (hi pins s1 σ H1 _ I1 q1) λiv s2 ⟨y,H2,I2,ry,a,v,ex,g,q2⟩=>?_);subst ex;obtain rfl:u = Value.ref a:=rx;exact ⟨dict_typeIs I2 g,d_getItem hu I2 g ry λw' s3 I3 rw'=>⟨v,H2,I3,rw',q2⟩⟩
theorem pc_din (hu:X.A.units + 1 < cLine) (hi:PE X i ty) (ho:PE X o td):PC X .In i o (tDIn ty td):=by
  intro pins s σ H Q I h;refine thn (hi pins s σ H _ I h) λiv s1 ⟨y,H1,I1,ry,q1⟩=>thn (ho pins s1 σ H1 _ I1 q1) λu s2 ⟨x,H2,I2,rx,a,ov,ex,g,q2⟩=>?_
  subst ex;obtain rfl:u = Value.ref a:=rx;exact d_in hu I2 g ry λs3 I3=>⟨.bl ov.isSome,H2,I3,rfl,q2⟩
theorem pc_dnotin (hu:X.A.units + 1 < cLine) (hi:PE X i ty) (ho:PE X o td):PC X .NotIn i o (tDNotIn ty td):=by
  intro pins s σ H Q I h;refine thn (hi pins s σ H _ I h) λiv s1 ⟨y,H1,I1,ry,q1⟩=>thn (ho pins s1 σ H1 _ I1 q1) λu s2 ⟨x,H2,I2,rx,a,ov,ex,g,q2⟩=>?_
  subst ex;obtain rfl:u = Value.ref a:=rx;exact d_notIn hu I2 g ry λs3 I3=>⟨.bl (!ov.isSome),H2,I3,rfl,q2⟩
theorem ps_dput (hu:X.A.units + 1 < cLine) (ho:PE X o td) (hi:PE X i ty) (hv:PE X value tv) (hs:swapsWith value (some (.Subscript o i pos')) pos.line X.env = pure false) :
 PS X (.Assign [.Subscript o i pos'] value pos) (sDPut td ty tv):=by
  intro pins s σ H D I h;refine wpAny_Assign_Subscript (thn (hv pins s σ H _ I h) λr s1 ⟨v,H1,I1,rv,q1⟩=>thn (ho pins s1 σ H1 _ I1 q1) λu s2 ⟨x,H2,I2,rx,q2⟩=>thn (hi pins s2 σ H2 _ I2 q2) λiv s3 ⟨y,H3,I3,ry,a,H4,ex,g,q3⟩=>?_) hs;subst ex;obtain rfl:u = Value.ref a:=rx;exact d_setItem hu I3 g ry rv λs4 I4=>⟨σ,H4,I4,q3⟩
end
theorem dk_empty {P:Program} {w:World} {H:Hp} (h:Heap) (hb:sysModules < h.objs.size):ObjOk P w H (h.push { cls:=.type "dict", data:=.dict #[] }) h.objs.size (.dK []) :=
  ⟨Nat.zero_le _,beq_eq_false_iff_ne.mpr (Ne.symm (Nat.ne_of_lt hb)),[],.nil,Heap.DictOf.new h⟩
theorem dt_empty {P:Program} {w:World} {H:Hp} (h:Heap) (hb:sysModules < h.objs.size):ObjOk P w H (h.push { cls:=.type "dict", data:=.dict #[] }) h.objs.size (.dT []) :=
  ⟨Nat.zero_le _,beq_eq_false_iff_ne.mpr (Ne.symm (Nat.ne_of_lt hb)),[],.nil,_,#[],0,Heap.get?_push_size _ rfl,⟨rfl,rfl,rfl⟩,rfl,rfl,List.nodup_nil⟩
def tDNewK:TE:=λ_ H Q=>∀ p,H p = none -> Q (.ref p) (upd H p (.dK []))
def tDNewT:TE:=λ_ H Q=>∀ p,H p = none -> Q (.ref p) (upd H p (.dT []))
section
variable {X:Cx} {pos:Pos}
theorem pe_dnewK:PE X (.Dict [] [] pos) tDNewK:=λpins s σ H Q I h =>
  wpAny_Dict_empty ⟨.ref s.heap.objs.size,_,I.laid (a:=s.heap.objs.size) (o:=.dK []) (t':=s.toks) (λ_ _ q=>Heap.get?_push_of_some _ q) (Nat.le_refl _) (dk_empty s.heap I.big),rfl,h _ (I.hok.fresh (Nat.le_refl _))⟩
theorem pe_dnewT:PE X (.Dict [] [] pos) tDNewT:=λpins s σ H Q I h =>
  wpAny_Dict_empty ⟨.ref s.heap.objs.size,_,I.laid (a:=s.heap.objs.size) (o:=.dT []) (t':=s.toks) (λ_ _ q=>Heap.get?_push_of_some _ q) (Nat.le_refl _) (dt_empty s.heap I.big),rfl,h _ (I.hok.fresh (Nat.le_refl _))⟩
end
structure M1 (X:Cx) (o:Expr) (m:Str) (apos:Pos) (e:Expr) (cpos:Pos):Prop where
  base:attributeBase o m X.env (eval o X.env) = eval o X.env
  few:((backTo cpos (starEach [e] X.env)).all (λx=>!x.1) && (backToKw cpos (keywordEach [] X.env)).all (λx=>x.1.isSome)
    && decide (([e]:List Expr).length + ([]:List Keyword).length + (if ([]:List Keyword).isEmpty then 0 else 1) < 30)) = true
  line:(apos.endLine == cpos.line) = true
  trees:backTo cpos (starEach [e] X.env) = [(false,eval e X.env)]
structure M2 (X:Cx) (o:Expr) (m:Str) (apos:Pos) (e f:Expr) (cpos:Pos):Prop where
  base:attributeBase o m X.env (eval o X.env) = eval o X.env
  few:((backTo cpos (starEach [e,f] X.env)).all (λx=>!x.1) && (backToKw cpos (keywordEach [] X.env)).all (λx=>x.1.isSome)
    && decide (([e,f]:List Expr).length + ([]:List Keyword).length + (if ([]:List Keyword).isEmpty then 0 else 1) < 30)) = true
  line:(apos.endLine == cpos.line) = true
  trees:backTo cpos (starEach [e,f] X.env) = [(false,eval e X.env),(false,eval f X.env)]
def IsD (H:Hp) (a:Addr):Prop:=(∃ kvs,Rd H a (.dK kvs)) \/ ∃ kvs,Rd H a (.dT kvs)
theorem isD_at {X:Cx} {pins:List (Addr × Obj)} {σ:St} {H:Hp} {s:Shared} {a:Addr} (I:Inv X pins σ H s) (d:IsD H a) :
 s.TypeIs (.ref a) "dict" /\ (∀ b,Value.ref a = .ref b -> ∃ ob,s.heap.get? b = some ob /\ ob.dict = none) /\ (a == sysModules) = false:=by
  rcases d with ⟨kvs,e⟩ | ⟨kvs,e⟩
  · obtain ⟨_,hd,vs,_,dd⟩:=dk_rd I.hok e
    refine ⟨dd.typeIs,λb q=>?_,hd⟩;cases q;obtain ⟨ob,_,_,h1,h2,_⟩:=dd;exact ⟨ob,h1,h2.2.1⟩
  · obtain ⟨_,hd,xs,_,dd⟩:=dt_rd I.hok e
    refine ⟨dd.typeIs,λb q=>?_,hd⟩;cases q;obtain ⟨ob,_,_,h1,h2,_⟩:=dd;exact ⟨ob,h1,h2.2.1⟩
section
variable {X:Cx} {pins:List (Addr × Obj)} {σ:St} {H:Hp} {s:Shared} {a:Addr} {y d:V} {u r:Value} {o:Option V} {A:Around} {E:Value -> Shared -> Prop}
theorem d_get2 {Q:Value -> Shared -> Prop} (hu:A.units + 1 < cLine) (I:Inv X pins σ H s) (g:DGet H a y o) (ry:RelV y u) (rd:RelV d r) (h:∀ w' s',Inv X pins σ H s' -> RelV (o.getD d) w' -> Q w' s') :
 wpAny (model X.prog X.w) A (call (.builtin "dict.get") [.ref a,u,r]) Q E s:=by
  rcases g with ⟨kvs,k,e,ey,l⟩ | ⟨kvs,k,b,e,ey,eb,l⟩
  · subst ey
    obtain ⟨z,hd,vs,rel,dd⟩:=dk_rd I.hok e;refine call_meetsIn PySem.F.slot_dict_get dd.typeIs PySem.F.entry_dict_get (PySem.F.args_dict_get_3 _ _ _) (meets_dict_get_default (mixKind X.prog X.w) a (kV_is ry) hd r) ⟨_,dd.mapOf,h _ _ (I.tok _) ?_⟩;rw [l];exact (rel.val k).getD rd
  · subst ey
    cases (show u = Value.ref b from ry);obtain ⟨z,hd,xs,rel,dd⟩:=dt_rd I.hok e;refine call_meetsIn PySem.F.slot_dict_get dd.typeIs PySem.F.entry_dict_get (PySem.F.args_dict_get_3 _ _ _) (meetsH_dict_get_default (tupleKind (mixKind X.prog X.w)) a b hd r) ⟨tupleKind_room_in1 hu,k,xs,key_of I.hok eb,dd,h _ _ (I.tok _) ?_⟩;rw [l];exact (rel.val k).getD rd
end
def tDGet2 (td ty tx:TE):TE:=λσ H Q=>td σ H λx H1=>∃ a,x = .ref a /\ IsD H1 a /\ ty σ H1 λy H2=>tx σ H2 λz H3=>∃ o,DGet H3 a y o /\ Q (o.getD z) H3
section
variable {X:Cx} {o e f:Expr} {apos cpos:Pos} {td ty tx:TE}
theorem pe_dget2 (hu:X.A.units + 1 < cLine) (ho:PE X o td) (he:PE X e ty) (hf:PE X f tx) (m:M2 X o "get" apos e f cpos):PE X (.Call (.Attribute o "get" apos) [e,f] [] cpos) (tDGet2 td ty tx):=by
  intro pins s σ H Q I h;refine wpAny_Call_method m.base m.few m.line PySem.F.plainAttrs_dict PySem.F.slot_dict_get PySem.F.type_dict_get (thn (ho pins s σ H _ I h) λu s1 ⟨x,H1,I1,rx,a,ex,d,q1⟩=>?_);subst ex;obtain rfl:u = Value.ref a:=rx;obtain ⟨t1,t2,_⟩:=isD_at I1 d;refine ⟨t1,t2,?_⟩;rw [m.trees]
  refine Calls.callWith_builtin rfl (Calls.evalArgs_plain (Calls.spliced_cons (thn (he pins s1 σ H1 _ I1 q1) λiv s2 ⟨y,H2,I2,ry,q2⟩ =>
    Calls.spliced_cons (thn (hf pins s2 σ H2 _ I2 q2) λfv s3 ⟨z,H3,I3,rz,ov,g,q3⟩=>Calls.spliced_nil ?_))))
  exact d_get2 hu I3 g ry rz λw' s4 I4 rw'=>⟨_,H3,I4,rw',q3⟩
end
section
variable {X:Cx} {pins:List (Addr × Obj)} {σ:St} {H:Hp} {s:Shared} {a:Addr} {kvs:List (Key × V)} {A:Around} {E:Value -> Shared -> Prop}
theorem d_copyOf {Q:Value -> Shared -> Prop} (I:Inv X pins σ H s) (e:Rd H a (.dK kvs)) (h:∀ p s',H p = none -> Inv X pins σ (upd H p (.dK kvs)) s' -> Q (.ref p) s'):wpAny (model X.prog X.w) A (call (.type "dict") [.ref a]) Q E s:=by
  obtain ⟨z,hd,vs,rel,dd⟩:=dk_rd I.hok e;refine kt_call_dict hd dd (by rw [<- rel.length];exact z) λh' dd' hs=>?_
  refine h _ _ (I.hok.fresh (Nat.le_refl _)) (I.laid (a:=s.heap.objs.size) (o:=.dK kvs) (t':=s.toks) (λb q hq=>?_) (Nat.le_refl _) (dk_new z (beq_eq_false_iff_ne.mpr (Ne.symm (Nat.ne_of_lt I.big))) rel dd'));exact (hs.2 b (Nat.ne_of_lt (Heap.lt_size hq))).trans (Heap.get?_push_of_some _ hq)
end
section
variable {X:Cx} {pins:List (Addr × Obj)} {σ:St} {H:Hp} {s:Shared} {a:Addr} {y:V} {u:Value} {A:Around} {E:Value -> Shared -> Prop}
end
end L2
namespace Att
open PySem PySem.W PySem.Calls PyProof.Rows
theorem ints_of_wellAll {P:Params} {h:Heap}:∀ (ns:List Int) (vs:List Value),WellAll P h vs (ns.map WData.int) -> IntsAre vs ns:=by
  intro ns
  induction ns with
  | nil =>
    intro vs w;rw [List.map_nil] at w;cases w;exact .nil
  | cons n ns ih =>
    intro vs w;rw [List.map_cons] at w
    cases w with
    | cons a b =>
      cases a;exact .cons _ _ (ih _ b)
theorem script_of {l:OpenLaw} {n:Nat} (hn:l.most = some n) {P:Params} {h:Heap} {args:List WData} {vals:List Value}
 (hpre:l.row.toRowW.claim.pre args = true) (hwl:WellAll P h vals args) :
 ∃ a vs ns,vals = [Value.ref a] /\ args = [WData.list (ns.map WData.int)] /\ h.get? a = some { cls:=.type "list", data:=.seq vs.toArray } /\ IntsAre vs ns /\ ns.length <= n:=by
  have hsh:WShape.hasAll [] args [.list .int] = true:=(pre_splitW hpre).1;have hc:l.pre.holds [] { args:=args } = true:=(pre_splitW hpre).2;obtain ⟨d,r,rfl,h1,h2⟩:=hasAllW_cons hsh;obtain rfl:=hasAllW_nil h2;obtain ⟨xs,rfl,h3⟩:=hasW_list h1;obtain ⟨ns,rfl⟩:=items_int h3;have hlen:ns.length <= n:=by
    unfold OpenLaw.pre at hc;have h4:(WTm.not (.lt (.lit (.int (n:Int))) (.len (.arg 0)))).holds [] { args:=[.list (ns.map .int)] } = true:=by
      have h4:=(holds_andW hc).1;rw [hn] at h4;exact h4
    have h5:=condW_of h4 (w_not (w_lt w_lit (w_len_list (w_arg rfl))));rw [List.length_map] at h5;refine Nat.le_of_not_lt λq=>?_
    have q':(n:Int) < ((ns.length:Nat):Int):=by omega
    first
      | (rw [decide_eq_true q'] at h5;exact absurd h5 (by decide))
      | (simp at h5;omega)
  cases hwl with
  | cons w1 w2 =>
    cases w2
    cases w1 with
    | list ho hall=>exact ⟨_,_,ns,rfl,rfl,ho,ints_of_wellAll ns _ hall,hlen⟩
theorem post_true (l:OpenLaw) (args:List WData):l.row.toRowW.claim.post args (.bool true) args = true :=
  postW_of (r:=l.row.toRowW) (X:=(true == true))
    (show WShape.has [] (.bool true) .bool = true by first | rfl | decide | simp [WShape.has,WShape.arms,WShape.armsAll])
    (show (WTm.eq .res (.lit (.bool true))).value [] { args:=args,res:=some (.bool true),after:=args } = some (.bool (true == true)) from w_eq_bool (w_res rfl) w_lit) rfl
theorem attach_call {l:OpenLaw} {n:Nat} {q:Program} {loose:List Str} {XP:(Str -> Option Value) -> Heap -> Prop} {YP:World -> Heap -> Prop} {d:DefRec}
 (hn:l.most = some n) (hdf:d.params.defaults = [])
 (call:∀ (w:World) (s₀ s₁:Shared) (mg mb:Str -> Option Value) (fa:Addr) (o:Obj) (pm cd doc:Value) (a:Addr) (vs:List Value) (ns:List Int),
 Ground q loose [] XP w s₀ mg mb s₁.heap -> YP w s₁.heap ->
 s₁.heap.get? fa = some o -> o.data = .func (docDef d.name d.params d.body d.scope pm cd doc) -> s₁.heap.CodeRec cd d.name -> mg d.name = some (.ref fa) ->
 s₁.heap.get? a = some { cls:=.type "list", data:=.seq vs.toArray } -> IntsAre vs ns -> ns.length <= n -> s₁.gens = #[] ->
 codeAny (model l.prog w) callerA (.call (.ref fa) ⟨[.ref a],[]⟩) (λr s'=>r = .ok (.ret (.bool true)) /\ OldK s₁.heap s'.heap /\ s'.os = s₁.os /\ AllBare s'.gens) s₁) :
 WalkO q loose XP YP l.row.toRowW d [] (λf vs=>PySem.call f vs):=by
  intro w s₀ s₁ mg mb G Y fa o pm cd doc dV kV ho hd hcd hD hmg hg args vals as hpre hlay hrd hwl hlo;obtain rfl:dV = .none:=Dflts.none hD hdf;obtain rfl:kV = .none:=Dflts.noKw hD;obtain ⟨a,vs,ns,rfl,rfl,hobj,hints,hlen⟩:=script_of hn hpre hwl;refine enter_call (codeAny_mono (call w s₀ s₁ mg mb fa o pm cd doc a vs ns G Y ho (fd_plain hd) hcd hmg hobj hints hlen hg) λr s' hq=>?_);obtain ⟨rfl,h2,h3,h4⟩:=hq;exact ⟨.inl ⟨.bool true,.bool true,[],rfl,λ_=>rfl,.bool true,post_true l _,λ_=>⟨List.Pairwise.nil,λ_ hm=>(nomatch hm)⟩⟩,h2,h3,h4⟩
section
variable {prog:Program} {w:World} {A:Around} {E:Value -> Shared -> Prop} {s:Shared} {K:Frag}
def ledger (h:Heap) (L d:Addr):List (Addr × Obj):=(List.range h.objs.size).filterMap λa=>if a = L \/ a = d then none else (h.get? a).map λo=>(a,o)
end
end Att
namespace L2
open PySem PySem.Spec PyProof.Rows
theorem vals_ints:∀ {vs:List Value} {ns:List Int},IntsAre vs ns -> Vals (ns.map V.int) vs
  | _,_,.nil=>.nil
  | _,_,.cons n t h=>.cons ⟨t,rfl⟩ (vals_ints h)
def Only (H:Hp):Prop:=∀ b,H b = none \/ ∃ o xs,H b = some (.frz o (.lst xs))
theorem law_call {P:Program} {w:World} {K:PySem.W.Frag} {mg mb:Str -> Option Value} {CX:CXT} {k:Nat} {fa a:Addr} {fd:FuncData} {x:Str} {sp:Sp} {s₁:Shared} {vs:List Value} {ns:List Int}
 (KX:K.In s₁.heap) (hns:s₁.heap.Ns mainGlobals mg) (hb:s₁.heap.Ns builtinsNs mb) (hbb:∀ x:Str,x ≠ "__name__" -> mb x = bootBuiltins x) (hlim:s₁.heap.NoLimit) (hg:s₁.gens = #[])
 (ha:s₁.heap.get? a = some { cls:=.type "list", data:=.seq vs.toArray }) (hi:IntsAre vs ns) (hl:ns.length <= sizeLine) (hr:Room k callerA)
 (F:∀ base:Heap,K.In base -> base.Ns mainGlobals mg -> FnOk P w K mg base CX k fa fd [x] sp) (hbind:∀ (s:Shared) (u:Value),BindsTo s fd ⟨[u],[]⟩ [(x,u)])
 (hsp:∀ H:Hp,Only H -> SqL K H a (ns.map V.int) -> sp [.ref a] H (λv _=>v = .bl true) λ_ _ _=>False)
 (hCX:∀ H e s',CX [] H s₁ (λ_ _ _=>False) e s' -> False) :
 codeAny (model P w) callerA (.call (.ref fa) ⟨[.ref a],[]⟩) (λr s'=>r = .ok (.ret (.bool true)) /\ OldK s₁.heap s'.heap /\ s'.os = s₁.os /\ AllBare s'.gens) s₁:=by
  have rv:=vals_ints hi;have lenV:=hi.length;have core:∀ H:Hp,Only H -> SqL K H a (ns.map V.int) -> HOk P w H s₁.heap -> (∀ b,H b ≠ none -> b = a) -> (H a ≠ none -> K.lookup a = none) ->
      codeAny (model P w) callerA (.call (.ref fa) ⟨[.ref a],[]⟩) (λr s'=>r = .ok (.ret (.bool true)) /\ OldK s₁.heap s'.heap /\ s'.os = s₁.os /\ AllBare s'.gens) s₁:=by
    intro H hO hS hok hA hK;have base_of:∀ {b:Addr} {o:Obj},s₁.heap.get? b = some o -> H b = none -> (hidT s₁.heap H).get? b = some o:=λe n=>hidT_get e n
    have noA:∀ {b:Addr} {o:Obj} {es:Array DictEntry} {ep:Nat},s₁.heap.get? b = some o -> o.data = .dict es ep -> H b = none:=λ{b o es ep} e d=>by
      cases q:H b with
      | none=>rfl
      | some u =>
        have e':b = a:=hA b (by rw [q];simp);subst e';rw [ha] at e;cases e;have d':Data.seq vs.toArray _ = Data.dict es ep:=d;cases d'
    have nsK:∀ {b:Addr} {m:Str -> Option Value},s₁.heap.Ns b m -> (hidT s₁.heap H).Ns b m:=λ{b m} ⟨o,es,ep,e,d,r⟩=>⟨o,es,ep,base_of e (noA e d),d,r⟩
    have hKb:K.In (hidT s₁.heap H):=λb o e=>base_of (KX b o e) (by
      cases q:H b with
      | none=>rfl
      | some u =>
        have e':b = a:=hA b (by rw [q];simp);subst e'
        rw [hK (by rw [q];simp)] at e;cases e)
    have hM:Mod K mg (hidT s₁.heap H):=⟨hKb,nsK hns,⟨mb,nsK hb,hbb⟩,let ⟨mc,h1,h2⟩:=hlim;⟨mc,nsK h1,h2⟩⟩;have e0:Env0 P w K mg (hidT s₁.heap H) callerA [] s₁ H:=⟨rfl,hM,λb o e=>of_hidT e,Nat.le_of_eq (hidT_size _ _),trivial,λb hb=>absurd (show b ∈ ([]:List Addr) from hb) (by simp),hok,.of_eq hg⟩;refine codeAny_mono ((F _ hKb (nsK hns)).run callerA [] s₁ H ⟨[.ref a],[]⟩ [.ref a] [.ref a] _ _ hr e0 (hbind s₁ (.ref a)) (.cons rfl .nil) (hsp H hO hS)) λr s' h=>?_
    cases r with
    | error e=>exact (hCX H e s' h).elim
    | ok fl =>
      cases fl with
      | next=>exact False.elim h
      | brk=>exact False.elim h
      | cont=>exact False.elim h
      | ret u =>
        obtain ⟨v,H',os,bare,un,hok',r',q⟩:=h;have q':v = .bl true:=q;subst q';obtain rfl:u = Value.bool true:=r';refine ⟨rfl,OldK.of_keep λb o e=>?_,os,bare⟩
        cases q:H b with
        | none=>exact un.keep b o e q (by intro z;exact absurd (show b ∈ ([]:List Addr) from z) (by simp)) (by simp)
        | some u =>
          rcases hO b with z | ⟨ob,xs,z⟩
          · rw [q] at z;cases z
          · have z2:=un.frzs b ob _ z
            obtain ⟨e1,_⟩:=hok b _ z;obtain ⟨e2,_⟩:=hok' b _ z2;rw [e] at e1;cases e1;exact e2
  cases hk:K.lookup a with
  | some o =>
    have e:=KX a o hk;rw [ha] at e;cases e;refine core (λ_=>none) (λ_=>.inl rfl) (.inr ⟨_,vs.toArray,_,hk,rfl,rfl,rfl,by rw [List.size_toArray,lenV];exact hl,by simpa using rv⟩) (λb u z=>by have z':(none:Option HO) = some u:=z;cases z') (λb z=>absurd rfl z) λz=>absurd rfl z
  | none =>
    refine core (λb=>if b = a then some (.frz { cls:=.type "list", data:=.seq vs.toArray } (.lst (ns.map V.int))) else none) (λb=>?_) (.inl (.inr ⟨{ cls:=.type "list", data:=.seq vs.toArray },if_pos rfl⟩)) (λb u z=>?_) (λb z=>?_) λ_=>hk
    · by_cases hb:b = a
      · exact .inr ⟨_,_,if_pos hb⟩
      · exact .inl (if_neg hb)
    · by_cases hb:b = a
      · have z':=(if_pos hb).symm.trans z
        cases z';subst hb;exact ⟨ha,by rw [List.length_map];exact hl,vs,_,rv,ha⟩
      · have z':=(if_neg hb).symm.trans z
        cases z'
    · by_cases hb:b = a
      · exact hb
      · exact absurd (if_neg hb) z
theorem walk_of {l:PySem.W.OpenLaw} {n k:Nat} {q:Program} {loose:List Str} {XP:(Str -> Option Value) -> Heap -> Prop} {YP:World -> Heap -> Prop} {d:DefRec} {K:Params -> PySem.W.Frag} {CX:World -> CXT} {sp:World -> Sp} {x:Str}
 (hn:l.most = some n) (hn2:n <= sizeLine) (hdf:d.params.defaults = []) (hr:Room k callerA)
 (hY:∀ (w:World) (h:Heap),YP w h -> (K w.params).In h)
 (F:∀ (w:World) (mg:Str -> Option Value) (fa:Addr) (h:Heap),(K w.params).In h -> h.Ns mainGlobals mg -> mg d.name = some (.ref fa) ->
 ∃ fd:FuncData,(∀ (s:Shared) (u:Value),BindsTo s fd ⟨[u],[]⟩ [(x,u)]) /\
 ∀ base:Heap,(K w.params).In base -> base.Ns mainGlobals mg -> FnOk l.prog w (K w.params) mg base (CX w) k fa fd [x] (sp w))
 (hsp:∀ (w:World) (H:Hp) (a:Addr) (ns:List Int),ns.length <= n -> Only H -> SqL (K w.params) H a (ns.map V.int) -> sp w [.ref a] H (λv _=>v = .bl true) λ_ _ _=>False)
 (hCX:∀ (w:World) (H:Hp) (s:Shared) (e:Value) (s':Shared),CX w [] H s (λ_ _ _=>False) e s' -> False) :
 PySem.W.WalkO q loose XP YP l.row.toRowW d [] (λf vs=>PySem.call f vs):=by
  refine Att.attach_call hn hdf λw s₀ s₁ mg mb fa o pm cd doc a vs ns G Y ho hd hcd hmg hobj hints hlen hg=>?_
  have KX:=hY w _ Y;obtain ⟨fd,hb,hF⟩:=F w mg fa _ KX G.T.g hmg;exact law_call KX G.T.g G.T.b G.T.builtins G.T.nolimit hg hobj hints (Nat.le_trans hlen hn2) hr hF hb (λH hO hS=>hsp w H a ns hlen hO hS) λH e s'=>hCX w H s₁ e s'
def defArgs (s:Stmt):Arguments:=match s with
  | .FunctionDef _ a _ _ _ _ _ _ _ _=>a
  | _=>{ posonlyargs:=[],args:=[],vararg:=none,kwonlyargs:=[],kw_defaults:=[],kwarg:=none,defaults:=[] }
def defBody (s:Stmt):List Stmt:=match s with
  | .FunctionDef _ _ b _ _ _ _ _ _ _=>b
  | _=>[]
def defScope (s:Stmt):Scope:=match s with
  | .FunctionDef _ _ _ _ _ _ sc _ _ _=>sc
  | _=>{ kind:=.function,names:=[],isGenerator:=false,isCoroutine:=false }
abbrev CX0:CXT:=λ_ _ _ _ _ _=>False
abbrev E0:XK:=λ_ _ _=>False
structure Fun (K:PySem.W.Frag) (x qual:Str) (st:Stmt) (f:Addr) (fd:FuncData):Prop where
  ex:∃ (oc:Value) (od:Option Addr) (kV doc pm:Value) (an:Option Addr) (cdv ct:Value) (osl:Array (Option Value)),
    fd = PySem.W.fnOf x qual (defArgs st) (defBody st) (defScope st) .none kV doc pm an cdv ct /\ K.lookup f = some ⟨oc,od,.func fd,osl⟩ /\ PySem.W.codeIn K cdv qual = true
  kp:PySem.W.keepIn K (.ref f) = true
section
variable {P:Program} {w:World} {K:PySem.W.Frag} {mg:Str -> Option Value} {base:Heap}
theorem Fun.ok {x qual:Str} {st:Stmt} {f:Addr} {fd:FuncData} {N ps:List Str} {k:Nat} {sp:Sp} (F:Fun K x qual st f fd) (S:FnScope N ps (defScope st)) (len:∀ vs H Q E,sp vs H Q E -> vs.length = ps.length)
 (hbody:∀ (cdv:Value) (A:Around) (outer:List Env) (s:Shared) (H:Hp) (vs:List V) (Q:VK) (E:XK),Room k (A.deeper (envOfC qual (defScope st) s.heap.objs.size f cdv)) -> sp vs H Q E ->
 ∃ t,PSs (cxOf CX0 P w K mg base N qual (defScope st) f cdv A outer s H E).nox (defBody st) t /\ t { nx:=λ_ H'=>Q .non H',rt:=Q } (start N vs) H):FnOk P w K mg base CX0 (k + 1) f fd ps sp:=by
  obtain ⟨oc,od,kV,doc,pm,an,cdv,ct,osl,rfl,lk,hcd⟩:=F.ex;refine fn_of lk hcd S len λA outer s H vs Q E hr hsp=>?_
  obtain ⟨t,h,q⟩:=hbody cdv A outer s H vs Q E hr hsp;exact ⟨t,h.nox,q⟩
theorem Fun.binds {x qual:Str} {st:Stmt} {f:Addr} {fd:FuncData} {ps:List Str} (F:Fun K x qual st f fd)
 (h:∀ (kV doc pm:Value) (an:Option Addr) (cdv ct:Value) (us:List Value),us.length = ps.length -> bindArgs (PySem.W.fnOf x qual (defArgs st) (defBody st) (defScope st) .none kV doc pm an cdv ct) ⟨us,[]⟩ = pure (ps.zip us)):Binds K fd ps []:=by
  obtain ⟨oc,od,kV,doc,pm,an,cdv,ct,osl,rfl,lk,hcd⟩:=F.ex;exact .all (h kV doc pm an cdv ct)
theorem fun_mk {x qual:Str} {st:Stmt} {f:Addr} {oc:Value} {od an:Option Addr} {osl:Array (Option Value)} {kV doc pm cdv ct:Value} (l:K.lookup f = some ⟨oc,od,.func (PySem.W.fnOf x qual (defArgs st) (defBody st) (defScope st) .none kV doc pm an cdv ct),osl⟩)
 (c:PySem.W.codeIn K cdv qual = true) (k:PySem.W.keepIn K (.ref f) = true):Fun K x qual st f (PySem.W.fnOf x qual (defArgs st) (defBody st) (defScope st) .none kV doc pm an cdv ct):=⟨⟨oc,od,kV,doc,pm,an,cdv,ct,osl,rfl,l,c⟩,k⟩
end
theorem hu_of {A:Around} {k:Nat} (hr:Room k A):A.units + 1 < cLine:=Nat.lt_of_le_of_lt (Nat.add_le_add_left (by decide:1 <= 64) _) hr.units
theorem small1000 {n:Nat} (h:n <= 1000):n < sizeLine:=Nat.lt_of_le_of_lt h (by decide)
section
variable {X:Cx}
end
def Same (H H':Hp):Prop:=∀ b o,H b = some o -> H' b = some o
theorem Same.refl (H:Hp):Same H H:=λ_ _ h=>h
theorem Same.trans {H H1 H2:Hp} (a:Same H H1) (b:Same H1 H2):Same H H2:=λc o h=>b c o (a c o h)
theorem Same.seq {K:PySem.W.Frag} {H H':Hp} {a:Addr} {xs:List V} (e:Same H H') (h:SqL K H a xs):SqL K H' a xs:=by
  rcases h with (h | ⟨o,h⟩) | h
  · exact .inl (.inl (e _ _ h))
  · exact .inl (.inr ⟨o,e _ _ h⟩)
  · exact .inr h
end L2
set_option maxHeartbeats 4000000
namespace T
open PySem PyProof.Rows
def gallop':Bool -> Keyed -> Array Keyed -> Nat -> Nat -> Nat -> StateT SortSt Sem (Option Nat):=sortPriv% PySem.Builtin.gallop
structure Ord (prog:Program) (w:World) (A:Around) (s:Shared) (κ:SortKind) (S:Keyed -> Prop) (lt:Keyed -> Keyed -> Bool):Prop where
  run:∀ x y,S x -> S y -> ∀ (E:Value -> Shared -> Prop) (Q:Bool -> Shared -> Prop),Q (lt x y) s -> wpAny (model prog w) A (keyLt' κ x.1 y.1) Q E s
  asym:∀ x y,S x -> S y -> lt x y = true -> lt y x = false
  le:∀ x y z,S x -> S y -> S z -> lt y x = false -> lt z y = false -> lt z x = false
section
variable {prog:Program} {w:World} {A:Around} {E:Value -> Shared -> Prop} {s:Shared} {κ:SortKind} {S:Keyed -> Prop} {lt:Keyed -> Keyed -> Bool}
theorem wpS_lt (O:Ord prog w A s κ S lt) {st:SortSt} {x y:Keyed} {Q:Option Bool -> SortSt -> Prop} (hk:kindOf st = κ) (hx:S x) (hy:S y) (h:Q (some (lt x y)) st):wpS (model prog w) A E s (lt' x y) Q st:=by
  rw [lt'_eq];refine wpS_bind (wpS_get ?_);refine wpS_bind (wpS_lift (wpAny_attempt ?_));rw [hk];exact O.run x y hx hy _ _ ⟨rfl,wpS_pure h⟩
theorem wpS_elem {st:SortSt} {xs:Array Keyed} {i:Nat} {Q:Keyed -> SortSt -> Prop} (hi:i < xs.size) (h:Q xs[i] st):wpS (model prog w) A E s (elem' xs i) Q st:=by
  rw [elem'_eq,Array.getElem?_eq_getElem hi];exact wpS_pure h
def bey (lt:Keyed -> Keyed -> Bool) (left:Bool) (key x:Keyed):Bool:=if left = true then lt x key else !lt key x
theorem wpS_beyond (O:Ord prog w A s κ S lt) {st:SortSt} {left:Bool} {key:Keyed} {arr:Array Keyed} {i:Nat} {Q:Option Bool -> SortSt -> Prop} (hk:kindOf st = κ) (hkey:S key) (hi:i < arr.size) (hS:S arr[i]) (h:Q (some (bey lt left key arr[i])) st) :
 wpS (model prog w) A E s (elem' arr i >>= λx=>if left = true then lt' x key else (lt' key x >>= λr=>pure (r.map (!·)))) Q st:=by
  refine wpS_bind (wpS_elem hi ?_);unfold bey at h
  cases left with
  | true=>rw [if_pos rfl] at h ⊢;exact wpS_lt O hk hS hkey h
  | false =>
    rw [if_neg Bool.false_ne_true] at h ⊢;exact wpS_bind (wpS_lt O hk hkey hS (wpS_pure h))
def bs (byd:Nat -> StateT SortSt Sem (Option Bool)) (n lo₀ hi₀:Nat):StateT SortSt Sem (Option Nat):=do
  let mut lo:=lo₀
  let mut hi:=hi₀
  for _ in [0:n] do
    if lo ≥ hi then break
    let m:=lo + (hi - lo) / 2
    let some up <- byd m | return none
    if up then lo:=m + 1 else hi:=m
  return some hi
theorem wpS_bs {st:SortSt} {byd:Nat -> StateT SortSt Sem (Option Bool)} {n lo hi:Nat} {Q:Option Nat -> SortSt -> Prop} (B:Nat -> Bool) (mono:∀ i j,i <= j -> j < n -> B j = true -> B i = true) (monoF:∀ i j,i <= j -> j < n -> B i = false -> B j = false)
 (hbyd:∀ (i:Nat) (Q':Option Bool -> SortSt -> Prop),i < n -> Q' (some (B i)) st -> wpS (model prog w) A E s (byd i) Q' st) (hl:lo <= hi) (hn:hi <= n) (h1:∀ i,i < lo -> B i = true) (h2:∀ i,hi <= i -> i < n -> B i = false)
 (h:∀ r,r <= n -> (∀ i,i < r -> B i = true) -> (∀ i,r <= i -> i < n -> B i = false) -> Q (some r) st):wpS (model prog w) A E s (bs byd n lo hi) Q st:=by
  unfold bs;dsimp only
  refine wpS_bind (wpS_forRange (I:=λt c st'=>st' = st /\ ∃ a b,c = (none,a,b) /\ a <= b /\ b <= n /\ b - a + t <= n /\ (∀ i,i < a -> B i = true) /\ ∀ i,b <= i -> i < n -> B i = false)
    (Q:=λc st'=>wpS (model prog w) A E s _ Q st') ?step ?fin ⟨rfl,lo,hi,rfl,hl,hn,by omega,h1,h2⟩)
  case fin =>
    rintro c st' ⟨rfl,a,b,rfl,a1,a2,a3,a4,a5⟩;have e:a = b:=by omega
    subst e;exact wpS_pure (h a a2 a4 a5)
  case step =>
    rintro t c st' t0 t1 ⟨rfl,a,b,rfl,a1,a2,a3,a4,a5⟩;dsimp only
    by_cases hc:a ≥ b
    · rw [if_pos hc]
      have e:a = b:=by omega
      subst e;exact wpS_pure (wpS_pure (h a a2 a4 a5))
    · rw [if_neg hc]
      have hm:a + (b - a) / 2 < b:=by omega
      refine wpS_bind (hbyd _ _ (by omega) ?_);dsimp only
      cases hb:B (a + (b - a) / 2) with
      | true =>
        rw [if_pos rfl];refine wpS_pure ⟨rfl,a + (b - a) / 2 + 1,b,rfl,by omega,a2,by omega,λi hi=>mono i _ (by omega) (by omega) hb,a5⟩
      | false =>
        rw [if_neg Bool.false_ne_true];refine wpS_pure ⟨rfl,a,a + (b - a) / 2,rfl,by omega,by omega,by omega,a4,λi hi hn'=>monoF _ i hi hn' hb⟩
theorem wpS_gallop (O:Ord prog w A s κ S lt) {st:SortSt} {left:Bool} {key:Keyed} {arr:Array Keyed} {base n hint:Nat} {Q:Option Nat -> SortSt -> Prop} (hk:kindOf st = κ) (hkey:S key) (hS:∀ i (h:i < arr.size),S arr[i]) (hsz:base + n <= arr.size) (hh:hint < n)
 (B:Nat -> Bool) (hB:∀ i (h:base + i < arr.size),i < n -> B i = bey lt left key arr[base + i]) (mono:∀ i j,i <= j -> j < n -> B j = true -> B i = true)
 (h:∀ r,r <= n -> (∀ i,i < r -> B i = true) -> (∀ i,r <= i -> i < n -> B i = false) -> Q (some r) st):wpS (model prog w) A E s (gallop' left key arr base n hint) Q st:=by
  have byd:∀ (i:Nat) (Q':Option Bool -> SortSt -> Prop),i < n -> Q' (some (B i)) st -> wpS (model prog w) A E s (elem' arr (base + i) >>= λx=>if left = true then lt' x key else (lt' key x >>= λr=>pure (r.map (!·)))) Q' st:=λi Q' hi hq =>
    wpS_beyond O hk hkey (by omega) (hS _ _) (by rw [<- hB i (by omega) hi];exact hq)
  have monoF:∀ i j,i <= j -> j < n -> B i = false -> B j = false:=λi j hij hj hb=>by
    cases q:B j with
    | false=>rfl
    | true=>rw [mono i j hij hj q] at hb;cases hb
  have fin:∀ lo hi,lo <= hi -> hi <= n -> (∀ i,i < lo -> B i = true) -> (∀ i,hi <= i -> i < n -> B i = false) -> wpS (model prog w) A E s (bs (λi=>elem' arr (base + i) >>= λx=>if left = true then lt' x key else (lt' key x >>= λr=>pure (r.map (!·)))) n lo hi) Q st :=
    λlo hi a1 a2 a3 a4=>wpS_bs B mono monoF byd a1 a2 a3 a4 h
  unfold gallop';refine wpS_bind (byd hint _ hh ?_);dsimp only
  cases hb:B hint with
  | true =>
    simp only [if_true];have last:∀ lastofs ofs,lastofs < ofs -> hint + lastofs < n -> B (hint + lastofs) = true -> (n - hint <= ofs \/ (hint + ofs < n /\ B (hint + ofs) = false)) -> wpS (model prog w) A E s (bs (λi=>elem' arr (base + i) >>= λx=>if left = true then lt' x key else (lt' key x >>= λr=>pure (r.map (!·)))) n (hint + lastofs + 1) (hint + min ofs (n - hint))) Q st:=λlastofs ofs a1 a2 a3 a4 =>
      fin _ _ (by omega) (by omega) (λi hi=>mono i _ (by omega) a2 a3) (λi h1 h2=>by
        rcases a4 with z | ⟨z1,z2⟩
        · omega
        · exact monoF _ i (by omega) h2 z2)
    refine wpS_bind (wpS_forRange (I:=λt c st'=>st' = st /\ ∃ lastofs ofs,c = (none,lastofs,ofs) /\ lastofs < ofs /\ t + 1 <= ofs /\ hint + lastofs < n /\ B (hint + lastofs) = true)
      (Q:=λc st'=>wpS (model prog w) A E s _ Q st') ?step ?fin ⟨rfl,0,1,rfl,by omega,by omega,by omega,hb⟩)
    case fin =>
      rintro c st' ⟨rfl,lastofs,ofs,rfl,h1,h2,h3,h4⟩;exact last lastofs ofs h1 h3 h4 (.inl (by omega))
    case step =>
      rintro t c st' h0 h1 ⟨rfl,lastofs,ofs,rfl,h2,h3,h4,h5⟩;dsimp only
      by_cases hm:ofs ≥ n - hint
      · rw [if_pos hm]
        exact wpS_pure (last lastofs ofs h2 h4 h5 (.inl hm))
      · rw [if_neg hm]
        refine wpS_bind (byd (hint + ofs) _ (by omega) ?_);dsimp only
        cases hb2:B (hint + ofs) with
        | false =>
          simp only [Bool.not_false,if_true];exact wpS_pure (last lastofs ofs h2 h4 h5 (.inr ⟨by omega,hb2⟩))
        | true =>
          simp only [Bool.not_true,Bool.false_eq_true,if_false];exact wpS_pure ⟨rfl,ofs,2 * ofs + 1,rfl,by omega,by omega,by omega,hb2⟩
  | false =>
    simp only [Bool.false_eq_true,if_false];have last:∀ lastofs ofs,lastofs < ofs -> lastofs <= hint -> B (hint - lastofs) = false -> (hint + 1 <= ofs \/ (ofs <= hint /\ B (hint - ofs) = true)) -> wpS (model prog w) A E s (bs (λi=>elem' arr (base + i) >>= λx=>if left = true then lt' x key else (lt' key x >>= λr=>pure (r.map (!·)))) n (hint + 1 - min ofs (hint + 1)) (hint - lastofs)) Q st:=λlastofs ofs a1 a2 a3 a4 =>
      fin _ _ (by omega) (by omega) (λi hi=>by
        rcases a4 with z | ⟨z1,z2⟩
        · omega
        · exact mono i _ (by omega) (by omega) z2) (λi h1 h2=>monoF _ i h1 h2 a3)
    refine wpS_bind (wpS_forRange (I:=λt c st'=>st' = st /\ ∃ lastofs ofs,c = (none,lastofs,ofs) /\ lastofs < ofs /\ t + 1 <= ofs /\ lastofs <= hint /\ B (hint - lastofs) = false)
      (Q:=λc st'=>wpS (model prog w) A E s _ Q st') ?step2 ?fin2 ⟨rfl,0,1,rfl,by omega,by omega,by omega,hb⟩)
    case fin2 =>
      rintro c st' ⟨rfl,lastofs,ofs,rfl,h1,h2,h3,h4⟩;exact last lastofs ofs h1 h3 h4 (.inl (by omega))
    case step2 =>
      rintro t c st' h0 h1 ⟨rfl,lastofs,ofs,rfl,h2,h3,h4,h5⟩;dsimp only
      by_cases hm:ofs ≥ hint + 1
      · rw [if_pos hm]
        exact wpS_pure (last lastofs ofs h2 h4 h5 (.inl hm))
      · rw [if_neg hm]
        refine wpS_bind (byd (hint - ofs) _ (by omega) ?_);dsimp only
        cases hb2:B (hint - ofs) with
        | true =>
          rw [if_pos rfl];exact wpS_pure (last lastofs ofs h2 h4 h5 (.inr ⟨by omega,hb2⟩))
        | false =>
          rw [if_neg Bool.false_ne_true];exact wpS_pure ⟨rfl,ofs,2 * ofs + 1,rfl,by omega,by omega,by omega,hb2⟩
end
structure Mc (lt:Keyed -> Keyed -> Bool) (a b out:List Keyed) (ia ib:Nat):Prop where
  perm:(out ++ (a.drop ia ++ b.drop ib)).Perm (a ++ b)
  srt:out.Pairwise λx y=>lt y x = false
  low:∀ x ∈ out,∀ y ∈ a.drop ia ++ b.drop ib,lt y x = false
structure Ends (lt:Keyed -> Keyed -> Bool) (a b r:List Keyed):Prop where
  perm:r.Perm (a ++ b)
  srt:r.Pairwise λx y=>lt y x = false
section
variable {lt:Keyed -> Keyed -> Bool} {a b out:List Keyed} {ia ib:Nat}
theorem drop_take (l:List Keyed) (i k:Nat):l.drop i = (l.drop i).take k ++ l.drop (i + k):=by
  rw [<- List.drop_drop];exact (List.take_append_drop k _).symm
theorem Mc.moveA (h:Mc lt a b out ia ib) (sa:a.Pairwise λx y=>lt y x = false) (k:Nat) (hk:∀ x ∈ (a.drop ia).take k,∀ y ∈ b.drop ib,lt y x = false):Mc lt a b (out ++ (a.drop ia).take k) (ia + k) ib:=by
  have e:=drop_take a ia k;have sd:(a.drop ia).Pairwise λx y=>lt y x = false:=sa.sublist (List.drop_sublist _ _)
  rw [e,List.pairwise_append] at sd;refine ⟨?_,?_,?_⟩
  · refine List.Perm.trans ?_ h.perm
    conv=>rhs;rw [e]
    rw [List.append_assoc,List.append_assoc]
  · rw [List.pairwise_append]
    exact ⟨h.srt,sd.1,λx hx y hy=>h.low x hx y (List.mem_append_left _ (by rw [e];exact List.mem_append_left _ hy))⟩
  · intro x hx y hy
    rcases List.mem_append.mp hx with hx | hx
    · refine h.low x hx y ?_
      rcases List.mem_append.mp hy with hy | hy
      · exact List.mem_append_left _ (by rw [e];exact List.mem_append_right _ hy)
      · exact List.mem_append_right _ hy
    · rcases List.mem_append.mp hy with hy | hy
      · exact sd.2.2 x hx y hy
      · exact hk x hx y hy
theorem Mc.moveB (h:Mc lt a b out ia ib) (sb:b.Pairwise λx y=>lt y x = false) (k:Nat) (hk:∀ x ∈ (b.drop ib).take k,∀ y ∈ a.drop ia,lt y x = false):Mc lt a b (out ++ (b.drop ib).take k) ia (ib + k):=by
  have e:=drop_take b ib k;have sd:(b.drop ib).Pairwise λx y=>lt y x = false:=sb.sublist (List.drop_sublist _ _)
  rw [e,List.pairwise_append] at sd;refine ⟨?_,?_,?_⟩
  · refine List.Perm.trans ?_ h.perm
    conv=>rhs;rw [e]
    rw [List.append_assoc];refine List.Perm.append_left out ?_;rw [<- List.append_assoc,<- List.append_assoc];exact List.Perm.append_right _ List.perm_append_comm
  · rw [List.pairwise_append]
    exact ⟨h.srt,sd.1,λx hx y hy=>h.low x hx y (List.mem_append_right _ (by rw [e];exact List.mem_append_left _ hy))⟩
  · intro x hx y hy
    rcases List.mem_append.mp hx with hx | hx
    · refine h.low x hx y ?_
      rcases List.mem_append.mp hy with hy | hy
      · exact List.mem_append_left _ hy
      · exact List.mem_append_right _ (by rw [e];exact List.mem_append_right _ hy)
    · rcases List.mem_append.mp hy with hy | hy
      · exact hk x hx y hy
      · exact sd.2.2 x hx y hy
theorem Mc.endB (h:Mc lt a b out ia ib) (sa:a.Pairwise λx y=>lt y x = false) (e:b.length <= ib):Ends lt a b (out ++ a.drop ia ++ b.drop ib):=by
  have e0:b.drop ib = []:=List.drop_of_length_le e;have p:=h.perm;have lo:=h.low;rw [e0,List.append_nil] at p lo;rw [e0,List.append_nil];refine ⟨p,?_⟩;rw [List.pairwise_append];exact ⟨h.srt,sa.sublist (List.drop_sublist _ _),lo⟩
theorem Mc.endA (h:Mc lt a b out ia ib) (sa:a.Pairwise λx y=>lt y x = false) (sb:b.Pairwise λx y=>lt y x = false) (hl:∀ x ∈ b.drop ib,∀ y ∈ a.drop ia,lt y x = false):Ends lt a b (out ++ b.drop ib ++ a.drop ia):=by
  refine ⟨?_,?_⟩
  · refine List.Perm.trans ?_ h.perm
    rw [List.append_assoc];exact List.Perm.append_left out List.perm_append_comm
  · rw [List.append_assoc,List.pairwise_append]
    refine ⟨h.srt,?_,λx hx y hy=>h.low x hx y ?_⟩
    · rw [List.pairwise_append]
      exact ⟨sb.sublist (List.drop_sublist _ _),sa.sublist (List.drop_sublist _ _),hl⟩
    · rcases List.mem_append.mp hy with hy | hy
      · exact List.mem_append_right _ hy
      · exact List.mem_append_left _ hy
theorem Mc.start:Mc lt a b [] 0 0:=⟨by simp,.nil,λ_ z=>nomatch z⟩
end
def mergeLo':Array Keyed -> Array Keyed -> StateT SortSt Sem (Array Keyed):=sortPriv% PySem.Builtin.mergeLo
def mergeHi':Array Keyed -> Array Keyed -> StateT SortSt Sem (Array Keyed):=sortPriv% PySem.Builtin.mergeHi
structure KeepSt (st st':SortSt):Prop where
  k:kindOf st' = kindOf st
  a:arrOf st' = arrOf st
  p:pendingOf st' = pendingOf st
  f:failedOf st' = failedOf st
theorem KeepSt.refl (st:SortSt):KeepSt st st:=⟨rfl,rfl,rfl,rfl⟩
section
variable {prog:Program} {w:World} {A:Around} {E:Value -> Shared -> Prop} {s:Shared} {κ:SortKind} {S:Keyed -> Prop} {lt:Keyed -> Keyed -> Bool}
theorem wpS_rule {st:SortSt} {r:String} {Q:Unit -> SortSt -> Prop} (h:Q () st):wpS (model prog w) A E s (liftM (rule r):StateT SortSt Sem Unit) Q st:=wpS_lift (wpAny_rule ⟨rfl,h⟩)
theorem wpS_galR (O:Ord prog w A s κ S lt) {st:SortSt} {key:Keyed} {arr:Array Keyed} {base n hint:Nat} {Q:Option Nat -> SortSt -> Prop} (hk:kindOf st = κ) (hkey:S key) (hS:∀ i (h:i < arr.size),S arr[i]) (hsz:base + n <= arr.size) (hh:hint < n)
 (so:∀ i j (hi:base + i < arr.size) (hj:base + j < arr.size),i <= j -> j < n -> lt arr[base + j] arr[base + i] = false)
 (h:∀ k,k <= n -> (∀ i (hi:base + i < arr.size),i < k -> lt key arr[base + i] = false) -> (∀ i (hi:base + i < arr.size),k <= i -> i < n -> lt key arr[base + i] = true) -> Q (some k) st):wpS (model prog w) A E s (gallop' false key arr base n hint) Q st:=by
  refine wpS_gallop O hk hkey hS hsz hh (λi=>if hi:base + i < arr.size then !lt key arr[base + i] else false) (λi hi hn=>by rw [dif_pos hi];rfl) (λi j hij hj hb=>?_) λr hr h1 h2=>h r hr (λi hi hir=>?_) (λi hi hir hin=>?_)
  · have e1:base + j < arr.size:=by omega
    have e2:base + i < arr.size:=by omega
    rw [dif_pos e1] at hb;rw [dif_pos e2];have hb':lt key arr[base + j] = false:=by simpa using hb
    simpa using O.le _ _ _ (hS _ e2) (hS _ e1) hkey (so i j e2 e1 hij hj) hb'
  · have:=h1 i hir
    rw [dif_pos hi] at this
    simpa using this
  · have:=h2 i hir hin
    rw [dif_pos hi] at this
    simpa using this
theorem wpS_galL (O:Ord prog w A s κ S lt) {st:SortSt} {key:Keyed} {arr:Array Keyed} {base n hint:Nat} {Q:Option Nat -> SortSt -> Prop} (hk:kindOf st = κ) (hkey:S key) (hS:∀ i (h:i < arr.size),S arr[i]) (hsz:base + n <= arr.size) (hh:hint < n)
 (so:∀ i j (hi:base + i < arr.size) (hj:base + j < arr.size),i <= j -> j < n -> lt arr[base + j] arr[base + i] = false)
 (h:∀ k,k <= n -> (∀ i (hi:base + i < arr.size),i < k -> lt arr[base + i] key = true) -> (∀ i (hi:base + i < arr.size),k <= i -> i < n -> lt arr[base + i] key = false) -> Q (some k) st):wpS (model prog w) A E s (gallop' true key arr base n hint) Q st:=by
  refine wpS_gallop O hk hkey hS hsz hh (λi=>if hi:base + i < arr.size then lt arr[base + i] key else false) (λi hi hn=>by rw [dif_pos hi];rfl) (λi j hij hj hb=>?_) λr hr h1 h2=>h r hr (λi hi hir=>?_) (λi hi hir hin=>?_)
  · have e1:base + j < arr.size:=by omega
    have e2:base + i < arr.size:=by omega
    rw [dif_pos e1] at hb;rw [dif_pos e2]
    cases q:lt arr[base + i] key with
    | true=>rfl
    | false =>
      have:=O.le _ _ _ hkey (hS _ e2) (hS _ e1) q (so i j e2 e1 hij hj);rw [this] at hb;cases hb
  · have:=h1 i hir
    rw [dif_pos hi] at this;exact this
  · have:=h2 i hir hin
    rw [dif_pos hi] at this;exact this
structure Mf (S:Keyed -> Prop) (lt:Keyed -> Keyed -> Bool) (a b:Array Keyed):Prop where
  Sa:∀ i (h:i < a.size),S a[i]
  Sb:∀ i (h:i < b.size),S b[i]
  sa:∀ i j (hi:i < a.size) (hj:j < a.size),i <= j -> lt a[j] a[i] = false
  sb:∀ i j (hi:i < b.size) (hj:j < b.size),i <= j -> lt b[j] b[i] = false
theorem pw_of {l:Array Keyed} (h:∀ i j (hi:i < l.size) (hj:j < l.size),i <= j -> lt l[j] l[i] = false):l.toList.Pairwise λx y=>lt y x = false:=by
  rw [List.pairwise_iff_getElem];intro i j hi hj hij;have hi':i < l.size:=by simpa using hi
  have hj':j < l.size:=by simpa using hj
  simpa using h i j hi' hj' (Nat.le_of_lt hij)
theorem in_drop {l:Array Keyed} {i:Nat} {y:Keyed} (h:y ∈ l.toList.drop i):∃ j,∃ hj:j < l.size,i <= j /\ y = l[j]:=by
  obtain ⟨k,hk,e⟩:=List.mem_iff_getElem.mp h;rw [List.length_drop] at hk;have hk':i + k < l.size:=by simp at hk;omega
  exact ⟨i + k,hk',by omega,by rw [<- e];simp⟩
theorem in_take {l:Array Keyed} {i k:Nat} {y:Keyed} (h:y ∈ (l.toList.drop i).take k):∃ j,∃ hj:i + j < l.size,j < k /\ y = l[i + j]:=by
  obtain ⟨j,hj,e⟩:=List.mem_iff_getElem.mp h;rw [List.length_take,List.length_drop] at hj;have hk':i + j < l.size:=by simp at hj;omega
  exact ⟨j,hk',by omega,by rw [<- e];simp⟩
theorem take1 {l:Array Keyed} {i:Nat} (h:i < l.size):(l.toList.drop i).take 1 = [l[i]]:=by
  rw [List.drop_eq_getElem_cons (by simpa using h)];simp
theorem ext_to (out l:Array Keyed) (i k:Nat):(out ++ l.extract i (i + k)).toList = out.toList ++ (l.toList.drop i).take k:=by
  simp [Array.toList_append,Array.toList_extract,List.extract_eq_drop_take]
theorem ext_all (l:Array Keyed) (i:Nat):(l.extract i l.size).toList = l.toList.drop i:=by
  simp [Array.toList_extract,List.extract_eq_drop_take]
  first | done | (apply List.take_of_length_le;simp)
variable {a b out:Array Keyed} {ia ib:Nat}
theorem Mf.chunkA (F:Mf S lt a b) (O:Ord prog w A s κ S lt) (h:Mc lt a.toList b.toList out.toList ia ib) (hb:ib < b.size) (k:Nat) (hk:∀ i (hi:ia + i < a.size),i < k -> lt b[ib] a[ia + i] = false):Mc lt a.toList b.toList (out ++ a.extract ia (ia + k)).toList (ia + k) ib:=by
  rw [ext_to];refine h.moveA (pw_of F.sa) k λx hx y hy=>?_
  obtain ⟨i,hi,hik,rfl⟩:=in_take hx;obtain ⟨j,hj,hij,rfl⟩:=in_drop hy;exact O.le _ _ _ (F.Sa _ hi) (F.Sb _ hb) (F.Sb _ hj) (hk i hi hik) (F.sb ib j hb hj hij)
theorem Mf.chunkB (F:Mf S lt a b) (O:Ord prog w A s κ S lt) (h:Mc lt a.toList b.toList out.toList ia ib) (ha:ia < a.size) (k:Nat) (hk:∀ i (hi:ib + i < b.size),i < k -> lt b[ib + i] a[ia] = true):Mc lt a.toList b.toList (out ++ b.extract ib (ib + k)).toList ia (ib + k):=by
  rw [ext_to];refine h.moveB (pw_of F.sb) k λx hx y hy=>?_
  obtain ⟨i,hi,hik,rfl⟩:=in_take hx;obtain ⟨j,hj,hij,rfl⟩:=in_drop hy;exact O.le _ _ _ (F.Sb _ hi) (F.Sa _ ha) (F.Sa _ hj) (O.asym _ _ (F.Sb _ hi) (F.Sa _ ha) (hk i hi hik)) (F.sa ia j ha hj hij)
theorem push_ext {l:Array Keyed} {i:Nat} (h:i < l.size):(out.push l[i]).toList = (out ++ l.extract i (i + 1)).toList:=by
  rw [ext_to,take1 h,Array.toList_push]
theorem Mf.pushA (F:Mf S lt a b) (O:Ord prog w A s κ S lt) (h:Mc lt a.toList b.toList out.toList ia ib) (ha:ia < a.size) (hb:ib < b.size) (hk:lt b[ib] a[ia] = false):Mc lt a.toList b.toList (out.push a[ia]).toList (ia + 1) ib:=by
  rw [push_ext ha];exact F.chunkA O h hb 1 λi hi hi1=>by
    have : i = 0:=by omega
    subst this;exact hk
theorem Mf.pushB (F:Mf S lt a b) (O:Ord prog w A s κ S lt) (h:Mc lt a.toList b.toList out.toList ia ib) (ha:ia < a.size) (hb:ib < b.size) (hk:lt b[ib] a[ia] = true):Mc lt a.toList b.toList (out.push b[ib]).toList ia (ib + 1):=by
  rw [push_ext hb];exact F.chunkB O h ha 1 λi hi hi1=>by
    have : i = 0:=by omega
    subst this;exact hk
theorem Mf.endB (F:Mf S lt a b) (h:Mc lt a.toList b.toList out.toList ia ib) (e:b.size <= ib):Ends lt a.toList b.toList (out ++ a.extract ia a.size ++ b.extract ib b.size).toList:=by
  rw [Array.toList_append,Array.toList_append,ext_all,ext_all];exact h.endB (pw_of F.sa) (by simpa using e)
theorem Mf.endA (F:Mf S lt a b) (O:Ord prog w A s κ S lt) (h:Mc lt a.toList b.toList out.toList ia ib) (e:ia + 1 = a.size) (hl:∀ i (hi:i < b.size) (ha:ia < a.size),lt b[i] a[ia] = true):Ends lt a.toList b.toList (out ++ b.extract ib b.size ++ a.extract ia a.size).toList:=by
  rw [Array.toList_append,Array.toList_append,ext_all,ext_all];refine h.endA (pw_of F.sa) (pw_of F.sb) λx hx y hy=>?_
  obtain ⟨i,hi,_,rfl⟩:=in_drop hx;obtain ⟨j,hj,hij,rfl⟩:=in_drop hy;have : j = ia:=by omega
  subst this;exact O.asym _ _ (F.Sb _ hi) (F.Sa _ hj) (hl i hi hj)
end
section
variable {prog:Program} {w:World} {A:Around} {E:Value -> Shared -> Prop} {s:Shared} {κ:SortKind} {S:Keyed -> Prop} {lt:Keyed -> Keyed -> Bool}
theorem wpS_mergeLo (O:Ord prog w A s κ S lt) {st:SortSt} {a b:Array Keyed} {Q:Array Keyed -> SortSt -> Prop} (hk:kindOf st = κ) (F:Mf S lt a b) (ha:0 < a.size) (hb:0 < b.size) (h0:lt b[0] a[0] = true)
 (hl:∀ i (hi:i < b.size) j (hj:j < a.size),j + 1 = a.size -> lt b[i] a[j] = true) (h:∀ r st',KeepSt st st' -> Ends lt a.toList b.toList r.toList -> Q r st'):wpS (model prog w) A E s (mergeLo' a b) Q st:=by
  unfold mergeLo';refine wpS_bind (wpS_rule ?_);dsimp only;refine wpS_bind (wpS_elem hb ?_);have m0:Mc lt a.toList b.toList (#[b[0]]:Array Keyed).toList 0 1:=F.pushB (out:=#[]) O Mc.start ha hb h0
  by_cases e1:1 = b.size
  · rw [if_pos (by simpa using e1)]
    exact wpS_pure (h _ _ (KeepSt.refl _) (F.endB m0 (by omega)))
  rw [if_neg (by simpa using e1)]
  by_cases e2:0 + 1 = a.size
  · rw [if_pos (by simpa using e2)]
    exact wpS_pure (h _ _ (KeepSt.refl _) (F.endA O m0 e2 λi hi hj=>hl i hi 0 hj e2))
  rw [if_neg (by simpa using e2)];refine wpS_bind (wpS_get ?_)
  refine wpS_bind (wpS_mono (wpS_forRange (I:=λt c st'=>KeepSt st st' /\ ∃ (out:Array Keyed) (ia ib mg:Nat),c = (none,out,ia,ib,mg) /\ Mc lt a.toList b.toList out.toList ia ib /\ ia + 1 < a.size /\ ib < b.size /\ t + 1 <= ia + ib)
    (Q:=λc st'=>KeepSt st st' /\ ∃ (r out:Array Keyed) (ia ib mg:Nat),c = (some r,out,ia,ib,mg) /\ Ends lt a.toList b.toList r.toList) ?step ?fin ⟨KeepSt.refl _,_,0,1,_,rfl,m0,by omega,by omega,by omega⟩) λc st' hc=>?_)
  case fin =>
    rintro c st' ⟨_,out,ia,ib,mg,rfl,_,h1,h2,h3⟩;omega
  case step =>
    rintro t c st' _ ht ⟨ks,out,ia,ib,mg,rfl,mc,hia,hib,htt⟩;have hk':kindOf st' = κ:=ks.k.trans hk;dsimp only
    refine wpS_bind (wpS_mono (wpS_forRange (I:=λu c st2=>st2 = st' /\ ∃ (out2:Array Keyed) (i2 j2 ac bc:Nat),c = (none,out2,i2,j2,ac,bc) /\ Mc lt a.toList b.toList out2.toList i2 j2 /\ i2 + 1 < a.size /\ j2 < b.size /\ ia + ib + u <= i2 + j2)
      (Q:=λc st2=>st2 = st' /\ ((∃ (r out2:Array Keyed) (i2 j2 ac bc:Nat),c = (some r,out2,i2,j2,ac,bc) /\ Ends lt a.toList b.toList r.toList) \/ ∃ (out2:Array Keyed) (i2 j2 ac bc:Nat),c = (none,out2,i2,j2,ac,bc) /\ Mc lt a.toList b.toList out2.toList i2 j2 /\ i2 + 1 < a.size /\ j2 < b.size /\ ia + ib + 1 <= i2 + j2)) ?s1 ?f1
      ⟨rfl,out,ia,ib,0,0,rfl,mc,hia,hib,by omega⟩) λc1 st2 hc1=>?_)
    case f1 =>
      rintro c st2 ⟨rfl,out2,i2,j2,ac,bc,rfl,h1,h2,h3,h4⟩;exact ⟨rfl,.inr ⟨out2,i2,j2,ac,bc,rfl,h1,h2,h3,by omega⟩⟩
    case s1 =>
      rintro u c st2 _ hu ⟨rfl,out1,i1,j1,ac,bc,rfl,m1,b1,b2,pr⟩;dsimp only;refine wpS_bind (wpS_elem b2 (wpS_bind (wpS_elem (by omega) (wpS_bind (wpS_lt O hk' (F.Sb _ _) (F.Sa _ _) ?_)))));dsimp only
      cases hlt:lt b[j1] a[i1] with
      | true =>
        rw [if_pos rfl];have m2:=F.pushB O m1 (by omega) b2 hlt;refine wpS_bind (wpS_elem b2 ?_)
        by_cases e:j1 + 1 = b.size
        · rw [if_pos (by simpa using e)]
          exact wpS_pure ⟨rfl,.inl ⟨_,_,_,_,_,_,rfl,F.endB m2 (by omega)⟩⟩
        · rw [if_neg (by simpa using e)]
          by_cases g:bc + 1 ≥ mg
          · rw [if_pos g];exact wpS_pure ⟨rfl,.inr ⟨_,_,_,_,_,rfl,m2,b1,by omega,by omega⟩⟩
          · rw [if_neg g];exact wpS_pure ⟨rfl,_,_,_,_,_,rfl,m2,b1,by omega,by omega⟩
      | false =>
        rw [if_neg Bool.false_ne_true];have m2:=F.pushA O m1 (by omega) b2 hlt;refine wpS_bind (wpS_elem (by omega) ?_)
        by_cases e:i1 + 1 + 1 = a.size
        · rw [if_pos (by simpa using e)]
          exact wpS_pure ⟨rfl,.inl ⟨_,_,_,_,_,_,rfl,F.endA O m2 e λi hi hj=>hl i hi _ hj e⟩⟩
        · rw [if_neg (by simpa using e)]
          by_cases g:ac + 1 ≥ mg
          · rw [if_pos g];exact wpS_pure ⟨rfl,.inr ⟨_,_,_,_,_,rfl,m2,by omega,b2,by omega⟩⟩
          · rw [if_neg g];exact wpS_pure ⟨rfl,_,_,_,_,_,rfl,m2,by omega,b2,by omega⟩
    obtain ⟨rfl,⟨r,out2,i2,j2,ac,bc,rfl,he⟩ | ⟨out2,i2,j2,ac,bc,rfl,m2,hi2,hj2,pr⟩⟩:=hc1
    · exact wpS_pure ⟨ks,r,_,_,_,_,rfl,he⟩
    dsimp only;refine wpS_bind (wpS_rule ?_)
    refine wpS_bind (wpS_mono (wpS_forRange (I:=λu c st2=>KeepSt st st2 /\ ∃ (out3:Array Keyed) (i3 j3 mg ac bc:Nat),c = (none,out3,i3,j3,mg,ac,bc) /\ Mc lt a.toList b.toList out3.toList i3 j3 /\ i3 + 1 < a.size /\ j3 < b.size /\ i2 + j2 <= i3 + j3)
      (Q:=λc st2=>KeepSt st st2 /\ ((∃ (r out3:Array Keyed) (i3 j3 mg ac bc:Nat),c = (some r,out3,i3,j3,mg,ac,bc) /\ Ends lt a.toList b.toList r.toList) \/ ∃ (out3:Array Keyed) (i3 j3 mg ac bc:Nat),c = (none,out3,i3,j3,mg,ac,bc) /\ Mc lt a.toList b.toList out3.toList i3 j3 /\ i3 + 1 < a.size /\ j3 < b.size /\ i2 + j2 <= i3 + j3)) ?s2 ?f2
      ⟨ks,out2,i2,j2,_,ac,bc,rfl,m2,hi2,hj2,Nat.le_refl _⟩) λc2 st3 hc2=>?_)
    case f2 =>
      rintro c st3 ⟨k3,out3,i3,j3,mg3,ac3,bc3,rfl,h1,h2,h3,h4⟩;exact ⟨k3,.inr ⟨out3,i3,j3,mg3,ac3,bc3,rfl,h1,h2,h3,h4⟩⟩
    case s2 =>
      rintro u c st3 _ hu ⟨k3,out3,i3,j3,mg3,ac3,bc3,rfl,m3,hi3,hj3,pr3⟩;dsimp only;have tail:∀ (mgx:Nat),KeepSt st (SortSt.mk' (kindOf st3) (arrOf st3) (pendingOf st3) mgx (failedOf st3)):=λmgx=>⟨k3.k,k3.a,k3.p,k3.f⟩
      have hk3:kindOf st3 = κ:=k3.k.trans hk;refine (λ(both:∀ mgx:Nat,(?P:Nat -> Prop) mgx)=>?use) ?both
      case use =>
        by_cases hg:mg3 > 1
        · rw [if_pos hg]
          refine wpS_bind (wpS_modify ?_);generalize mg3 - 1 = mgx;exact both mgx
        · rw [if_neg hg]
          refine wpS_bind (wpS_modify ?_);exact both mg3
      case both =>
        intro mgx;have kx:=tail mgx;have kxk:=kx.k.trans hk;refine wpS_bind (wpS_elem hj3 (wpS_bind (wpS_galR O kxk (F.Sb _ _) F.Sa (by omega) (by omega) (λi j hi hj hij _=>F.sa _ _ hi hj (by omega)) λk hkn p1 p2=>?_)));dsimp only;have hkl:i3 + k + 1 <= a.size:=by
          rcases Nat.lt_or_ge (i3 + k) a.size with z | z
          · omega
          · have q:=p1 (a.size - 1 - i3) (by omega) (by omega)
            have q2:=hl j3 hj3 (i3 + (a.size - 1 - i3)) (by omega) (by omega);rw [q2] at q;cases q
        by_cases hk0:k > 0
        · rw [if_pos hk0]
          have mA:=F.chunkA O m3 hj3 k p1
          by_cases e3:i3 + k + 1 = a.size
          · rw [if_pos (by simpa using e3)]
            exact wpS_pure ⟨kx,.inl ⟨_,_,_,_,_,_,_,rfl,F.endA O mA e3 λi hi hj=>hl i hi _ hj e3⟩⟩
          · rw [if_neg (by simpa using e3),if_neg (by simp;omega)]
            refine wpS_bind (wpS_elem hj3 ?_);have mB:=F.pushB O mA (by omega) hj3 (p2 k (by omega) (Nat.le_refl _) (by omega))
            by_cases e4:j3 + 1 = b.size
            · rw [if_pos (by simpa using e4)]
              exact wpS_pure ⟨kx,.inl ⟨_,_,_,_,_,_,_,rfl,F.endB mB (by omega)⟩⟩
            · rw [if_neg (by simpa using e4)]
              refine wpS_bind (wpS_elem (by omega) (wpS_bind (wpS_galL O kxk (F.Sa _ _) F.Sb (by omega) (by omega) (λi j hi hj hij _=>F.sb _ _ hi hj (by omega)) λk' hkn' q1 q2=>?_)));dsimp only
              by_cases hk0':k' > 0
              · rw [if_pos hk0']
                have mC:=F.chunkB O mB (by omega) k' q1
                by_cases e5:j3 + 1 + k' = b.size
                · rw [if_pos (by simpa using e5)]
                  exact wpS_pure ⟨kx,.inl ⟨_,_,_,_,_,_,_,rfl,F.endB mC (by omega)⟩⟩
                · rw [if_neg (by simpa using e5)]
                  refine wpS_bind (wpS_elem (by omega) ?_);have mD:=F.pushA O mC (by omega) (by omega) (q2 k' (by omega) (Nat.le_refl _) (by omega))
                  by_cases e6:i3 + k + 1 + 1 = a.size
                  · rw [if_pos (by simpa using e6)]
                    exact wpS_pure ⟨kx,.inl ⟨_,_,_,_,_,_,_,rfl,F.endA O mD e6 λi hi hj=>hl i hi _ hj e6⟩⟩
                  · rw [if_neg (by simpa using e6)]
                    split
                    · exact wpS_pure ⟨kx,.inr ⟨_,_,_,_,_,_,rfl,mD,by omega,by omega,by omega⟩⟩
                    · exact wpS_pure ⟨kx,_,_,_,_,_,_,rfl,mD,by omega,by omega,by omega⟩
              · rw [if_neg hk0']
                refine wpS_bind (wpS_elem (by omega) ?_);have mD:=F.pushA O mB (by omega) (by omega) (q2 0 (by omega) (by omega) (by omega))
                by_cases e6:i3 + k + 1 + 1 = a.size
                · rw [if_pos (by simpa using e6)]
                  exact wpS_pure ⟨kx,.inl ⟨_,_,_,_,_,_,_,rfl,F.endA O mD e6 λi hi hj=>hl i hi _ hj e6⟩⟩
                · rw [if_neg (by simpa using e6)]
                  split
                  · exact wpS_pure ⟨kx,.inr ⟨_,_,_,_,_,_,rfl,mD,by omega,by omega,by omega⟩⟩
                  · exact wpS_pure ⟨kx,_,_,_,_,_,_,rfl,mD,by omega,by omega,by omega⟩
        · rw [if_neg hk0]
          refine wpS_bind (wpS_elem hj3 ?_);have mB:=F.pushB O m3 (by omega) hj3 (p2 0 (by omega) (by omega) (by omega))
          by_cases e4:j3 + 1 = b.size
          · rw [if_pos (by simpa using e4)]
            exact wpS_pure ⟨kx,.inl ⟨_,_,_,_,_,_,_,rfl,F.endB mB (by omega)⟩⟩
          · rw [if_neg (by simpa using e4)]
            refine wpS_bind (wpS_elem (by omega) (wpS_bind (wpS_galL O kxk (F.Sa _ _) F.Sb (by omega) (by omega) (λi j hi hj hij _=>F.sb _ _ hi hj (by omega)) λk' hkn' q1 q2=>?_)));dsimp only
            by_cases hk0':k' > 0
            · rw [if_pos hk0']
              have mC:=F.chunkB O mB (by omega) k' q1
              by_cases e5:j3 + 1 + k' = b.size
              · rw [if_pos (by simpa using e5)]
                exact wpS_pure ⟨kx,.inl ⟨_,_,_,_,_,_,_,rfl,F.endB mC (by omega)⟩⟩
              · rw [if_neg (by simpa using e5)]
                refine wpS_bind (wpS_elem (by omega) ?_);have mD:=F.pushA O mC (by omega) (by omega) (q2 k' (by omega) (Nat.le_refl _) (by omega))
                by_cases e6:i3 + 1 + 1 = a.size
                · rw [if_pos (by simpa using e6)]
                  exact wpS_pure ⟨kx,.inl ⟨_,_,_,_,_,_,_,rfl,F.endA O mD e6 λi hi hj=>hl i hi _ hj e6⟩⟩
                · rw [if_neg (by simpa using e6)]
                  split
                  · exact wpS_pure ⟨kx,.inr ⟨_,_,_,_,_,_,rfl,mD,by omega,by omega,by omega⟩⟩
                  · exact wpS_pure ⟨kx,_,_,_,_,_,_,rfl,mD,by omega,by omega,by omega⟩
            · rw [if_neg hk0']
              refine wpS_bind (wpS_elem (by omega) ?_);have mD:=F.pushA O mB (by omega) (by omega) (q2 0 (by omega) (by omega) (by omega))
              by_cases e6:i3 + 1 + 1 = a.size
              · rw [if_pos (by simpa using e6)]
                exact wpS_pure ⟨kx,.inl ⟨_,_,_,_,_,_,_,rfl,F.endA O mD e6 λi hi hj=>hl i hi _ hj e6⟩⟩
              · rw [if_neg (by simpa using e6)]
                split
                · exact wpS_pure ⟨kx,.inr ⟨_,_,_,_,_,_,rfl,mD,by omega,by omega,by omega⟩⟩
                · exact wpS_pure ⟨kx,_,_,_,_,_,_,rfl,mD,by omega,by omega,by omega⟩
    obtain ⟨k3,⟨r,out3,i3,j3,mg3,ac3,bc3,rfl,he⟩ | ⟨out3,i3,j3,mg3,ac3,bc3,rfl,m3,hi3,hj3,pr3⟩⟩:=hc2
    · exact wpS_pure ⟨k3,r,_,_,_,_,rfl,he⟩
    dsimp only;refine wpS_bind (wpS_modify ?_);exact wpS_pure ⟨⟨k3.k,k3.a,k3.p,k3.f⟩,out3,i3,j3,_,rfl,m3,hi3,hj3,by omega⟩
  obtain ⟨ks,r,out,ia,ib,mg,rfl,he⟩:=hc;exact wpS_pure (h r st' ks he)
end
section
variable {prog:Program} {w:World} {A:Around} {E:Value -> Shared -> Prop} {s:Shared} {κ:SortKind} {S:Keyed -> Prop} {lt:Keyed -> Keyed -> Bool} {a b out:Array Keyed} {na nb:Nat}
def Mh (lt:Keyed -> Keyed -> Bool) (a b out:Array Keyed) (na nb:Nat):Prop:=Mc (λx y=>lt y x) b.toList.reverse a.toList.reverse out.toList (b.size - nb) (a.size - na)
theorem rev_left {l:Array Keyed} {n:Nat} (h:n <= l.size):l.toList.reverse.drop (l.size - n) = (l.toList.take n).reverse:=by
  rw [List.drop_reverse];have : l.toList.length - (l.size - n) = n:=by simp;omega
  rw [this]
theorem rev_chunk {l:Array Keyed} {n at':Nat} (h:n <= l.size) (h2:at' <= n):(l.toList.reverse.drop (l.size - n)).take (n - at') = ((l.extract at' n).reverse).toList:=by
  rw [rev_left h,List.take_reverse,Array.toList_reverse,Array.toList_extract,List.extract_eq_drop_take];have e:(l.toList.take n).length - (n - at') = at':=by simp;omega
  rw [e,List.drop_take]
theorem in_revchunk {l:Array Keyed} {n at':Nat} {y:Keyed} (h:n <= l.size) (hy:y ∈ ((l.extract at' n).reverse).toList):∃ j,∃ hj:j < l.size,at' <= j /\ j < n /\ y = l[j]:=by
  rw [Array.toList_reverse,List.mem_reverse,Array.toList_extract,List.extract_eq_drop_take] at hy;obtain ⟨j,hj,hjk,rfl⟩:=in_take hy;exact ⟨at' + j,hj,by omega,by omega,rfl⟩
theorem in_revleft {l:Array Keyed} {n:Nat} {y:Keyed} (h:n <= l.size) (hy:y ∈ l.toList.reverse.drop (l.size - n)):∃ j,∃ hj:j < l.size,j < n /\ y = l[j]:=by
  rw [rev_left h,List.mem_reverse] at hy;have : y ∈ (l.toList.drop 0).take n:=by simpa using hy
  obtain ⟨j,hj,hjk,rfl⟩:=in_take this;exact ⟨0 + j,hj,by omega,rfl⟩
theorem pw_rev {l:Array Keyed} (h:∀ i j (hi:i < l.size) (hj:j < l.size),i <= j -> lt l[j] l[i] = false):l.toList.reverse.Pairwise λx y=>(λx y=>lt y x) y x = false:=by
  rw [List.pairwise_reverse];exact pw_of h
theorem Mf.hiA (F:Mf S lt a b) (O:Ord prog w A s κ S lt) (h:Mh lt a b out na nb) (ha:na <= a.size) (hb:nb <= b.size) (hb1:0 < nb) {at':Nat} (h2:at' <= na) (hk:∀ i (hi:i < a.size),at' <= i -> i < na -> lt b[nb - 1] a[i] = true):Mh lt a b (out ++ (a.extract at' na).reverse) at' nb:=by
  have m:=Mc.moveB h (pw_rev F.sa) (na - at') λx hx y hy=>?_
  · unfold Mh
    rw [rev_chunk ha h2] at m;rw [Array.toList_append];have e:a.size - na + (na - at') = a.size - at':=by omega
    rw [e] at m;exact m
  · rw [rev_chunk ha h2] at hx
    obtain ⟨i,hi,h3,h4,rfl⟩:=in_revchunk ha hx;obtain ⟨j,hj,h5,rfl⟩:=in_revleft hb hy;exact O.le _ _ _ (F.Sb _ hj) (F.Sb _ (by omega)) (F.Sa _ hi) (F.sb j (nb - 1) hj (by omega) (by omega)) (O.asym _ _ (F.Sb _ (by omega)) (F.Sa _ hi) (hk i hi h3 h4))
theorem Mf.hiB (F:Mf S lt a b) (O:Ord prog w A s κ S lt) (h:Mh lt a b out na nb) (ha:na <= a.size) (hb:nb <= b.size) (ha1:0 < na) {at':Nat} (h2:at' <= nb) (hk:∀ i (hi:i < b.size),at' <= i -> i < nb -> lt b[i] a[na - 1] = false):Mh lt a b (out ++ (b.extract at' nb).reverse) na at':=by
  have m:=Mc.moveA h (pw_rev F.sb) (nb - at') λx hx y hy=>?_
  · unfold Mh
    rw [rev_chunk hb h2] at m;rw [Array.toList_append];have e:b.size - nb + (nb - at') = b.size - at':=by omega
    rw [e] at m;exact m
  · rw [rev_chunk hb h2] at hx
    obtain ⟨i,hi,h3,h4,rfl⟩:=in_revchunk hb hx;obtain ⟨j,hj,h5,rfl⟩:=in_revleft ha hy;exact O.le _ _ _ (F.Sa _ hj) (F.Sa _ (by omega)) (F.Sb _ hi) (F.sa j (na - 1) hj (by omega) (by omega)) (hk i hi h3 h4)
theorem one_rev {l:Array Keyed} {n:Nat} (h:n < l.size):(out.push l[n]) = out ++ (l.extract n (n + 1)).reverse:=by
  have e:l.extract n (n + 1) = #[l[n]]:=by
    apply Array.toList_inj.mp;rw [Array.toList_extract,List.extract_eq_drop_take,Nat.add_sub_cancel_left,take1 h]
  rw [e];simp
theorem Mf.hiPushA (F:Mf S lt a b) (O:Ord prog w A s κ S lt) (h:Mh lt a b out na nb) (ha:na <= a.size) (hb:nb <= b.size) (hb1:0 < nb) (ha1:0 < na) (hk:lt b[nb - 1] a[na - 1] = true):Mh lt a b (out.push a[na - 1]) (na - 1) nb:=by
  rw [one_rev];have e:na - 1 + 1 = na:=by omega
  rw [e];exact F.hiA O h ha hb hb1 (by omega) λi hi h1 h2=>by
    have : i = na - 1:=by omega
    subst this;exact hk
theorem Mf.hiPushB (F:Mf S lt a b) (O:Ord prog w A s κ S lt) (h:Mh lt a b out na nb) (ha:na <= a.size) (hb:nb <= b.size) (hb1:0 < nb) (ha1:0 < na) (hk:lt b[nb - 1] a[na - 1] = false):Mh lt a b (out.push b[nb - 1]) na (nb - 1):=by
  rw [one_rev];have e:nb - 1 + 1 = nb:=by omega
  rw [e];exact F.hiB O h ha hb ha1 (by omega) λi hi h1 h2=>by
    have : i = nb - 1:=by omega
    subst this;exact hk
theorem ends_rev {r:List Keyed} (h:Ends (λx y=>lt y x) b.toList.reverse a.toList.reverse r):Ends lt a.toList b.toList r.reverse:=by
  refine ⟨?_,?_⟩
  · refine (List.reverse_perm r).trans (h.perm.trans ?_)
    refine List.Perm.trans (List.Perm.append (List.reverse_perm _) (List.reverse_perm _)) List.perm_append_comm
  · rw [List.pairwise_reverse];exact h.srt
theorem ext0 {l:Array Keyed} {n:Nat} (h:n <= l.size):(l.extract 0 n).toList = l.toList.take n:=by
  simp [Array.toList_extract,List.extract_eq_drop_take]
theorem Mf.hiEndA (F:Mf S lt a b) (h:Mh lt a b out 0 nb) (hb:nb <= b.size):Ends lt a.toList b.toList (a.extract 0 0 ++ b.extract 0 nb ++ out.reverse).toList:=by
  have m:=ends_rev (Mc.endB h (pw_rev F.sb) (by simp));have e1:a.toList.reverse.drop (a.size - 0) = []:=List.drop_of_length_le (by simp);rw [e1,List.append_nil,rev_left hb,List.reverse_append,List.reverse_reverse] at m;have e:(a.extract 0 0 ++ b.extract 0 nb ++ out.reverse).toList = b.toList.take nb ++ out.toList.reverse:=by
    rw [Array.toList_append,Array.toList_append,ext0 hb,ext0 (Nat.zero_le _),Array.toList_reverse];simp
  rw [e];exact m
theorem Mf.hiEndB (F:Mf S lt a b) (O:Ord prog w A s κ S lt) (h:Mh lt a b out na 1) (ha:na <= a.size) (hb:1 <= b.size) (hl:∀ i (hi:i < a.size),lt b[0] a[i] = true):Ends lt a.toList b.toList (b.extract 0 1 ++ a.extract 0 na ++ out.reverse).toList:=by
  have m:=ends_rev (Mc.endA h (pw_rev F.sb) (pw_rev F.sa) λx hx y hy=>?_)
  · rw [rev_left ha,rev_left hb,List.reverse_append,List.reverse_append,List.reverse_reverse,List.reverse_reverse] at m
    have e:(b.extract 0 1 ++ a.extract 0 na ++ out.reverse).toList = b.toList.take 1 ++ (a.toList.take na ++ out.toList.reverse):=by
      rw [Array.toList_append,Array.toList_append,ext0 ha,ext0 hb,Array.toList_reverse,List.append_assoc]
    rw [e];exact m
  · obtain ⟨i,hi,h4,rfl⟩:=in_revleft ha hx
    obtain ⟨j,hj,h5,rfl⟩:=in_revleft hb hy;have : j = 0:=by omega
    subst this;exact O.asym _ _ (F.Sb _ hj) (F.Sa _ hi) (hl i hi)
theorem Mf.hiEndA' (F:Mf S lt a b) (h:Mh lt a b out na nb) (e:na = 0) (hb:nb <= b.size):Ends lt a.toList b.toList (a.extract 0 na ++ b.extract 0 nb ++ out.reverse).toList:=by
  subst e;exact F.hiEndA h hb
theorem Mf.hiEndB' (F:Mf S lt a b) (O:Ord prog w A s κ S lt) (h:Mh lt a b out na nb) (e:nb = 1) (ha:na <= a.size) (hb:1 <= b.size) (hl:∀ i (hi:i < a.size),lt b[0] a[i] = true):Ends lt a.toList b.toList (b.extract 0 nb ++ a.extract 0 na ++ out.reverse).toList:=by
  subst e;exact F.hiEndB O h ha hb hl
end
section
variable {prog:Program} {w:World} {A:Around} {E:Value -> Shared -> Prop} {s:Shared} {κ:SortKind} {S:Keyed -> Prop} {lt:Keyed -> Keyed -> Bool}
theorem wpS_mergeHi (O:Ord prog w A s κ S lt) {st:SortSt} {a b:Array Keyed} {Q:Array Keyed -> SortSt -> Prop} (hk:kindOf st = κ) (F:Mf S lt a b) (ha:0 < a.size) (hb:0 < b.size) (h0:∀ i (hi:i < a.size),lt b[0] a[i] = true)
 (hl:lt b[b.size - 1] a[a.size - 1] = true) (h:∀ r st',KeepSt st st' -> Ends lt a.toList b.toList r.toList -> Q r st'):wpS (model prog w) A E s (mergeHi' a b) Q st:=by
  unfold mergeHi';refine wpS_bind (wpS_rule ?_);dsimp only;refine wpS_bind (wpS_elem (by omega) ?_);have m00:Mh lt a b #[] a.size b.size:=by
    unfold Mh;rw [Nat.sub_self,Nat.sub_self];exact Mc.start
  have m0:Mh lt a b (#[a[a.size - 1]]:Array Keyed) (a.size - 1) b.size:=F.hiPushA (out:=#[]) O m00 (Nat.le_refl _) (Nat.le_refl _) hb ha hl
  by_cases e1:a.size - 1 = 0
  · rw [if_pos (by simpa using e1)]
    refine wpS_pure (h _ _ (KeepSt.refl _) ?_);exact F.hiEndA' m0 e1 (Nat.le_refl _)
  rw [if_neg (by simpa using e1)]
  by_cases e2:b.size = 1
  · rw [if_pos (by simpa using e2)]
    refine wpS_pure (h _ _ (KeepSt.refl _) ?_);exact F.hiEndB' O m0 e2 (by omega) (by omega) h0
  rw [if_neg (by simpa using e2)];refine wpS_bind (wpS_get ?_)
  refine wpS_bind (wpS_mono (wpS_forRange (I:=λt c st'=>KeepSt st st' /\ ∃ (na nb:Nat) (out:Array Keyed) (mg:Nat),c = (none,na,nb,out,mg) /\ Mh lt a b out na nb /\ 1 <= na /\ na <= a.size /\ 2 <= nb /\ nb <= b.size /\ t + 1 + na + nb <= a.size + b.size)
    (Q:=λc st'=>KeepSt st st' /\ ∃ (r:Array Keyed) (na nb:Nat) (out:Array Keyed) (mg:Nat),c = (some r,na,nb,out,mg) /\ Ends lt a.toList b.toList r.toList) ?step ?fin ⟨KeepSt.refl _,_,_,_,_,rfl,m0,by omega,by omega,by omega,by omega,by omega⟩) λc st' hc=>?_)
  case fin =>
    rintro c st' ⟨_,na,nb,out,mg,rfl,_,h1,h2,h3,h4,h5⟩;omega
  case step =>
    rintro t c st' _ ht ⟨ks,na,nb,out,mg,rfl,mc,hna,hna2,hnb,hnb2,htt⟩;have hk':kindOf st' = κ:=ks.k.trans hk;dsimp only
    refine wpS_bind (wpS_mono (wpS_forRange (I:=λu c st2=>st2 = st' /\ ∃ (n2 j2:Nat) (out2:Array Keyed) (ac bc:Nat),c = (none,n2,j2,out2,ac,bc) /\ Mh lt a b out2 n2 j2 /\ 1 <= n2 /\ n2 <= a.size /\ 2 <= j2 /\ j2 <= b.size /\ n2 + j2 + u <= na + nb)
      (Q:=λc st2=>st2 = st' /\ ((∃ (r:Array Keyed) (n2 j2:Nat) (out2:Array Keyed) (ac bc:Nat),c = (some r,n2,j2,out2,ac,bc) /\ Ends lt a.toList b.toList r.toList) \/ ∃ (n2 j2:Nat) (out2:Array Keyed) (ac bc:Nat),c = (none,n2,j2,out2,ac,bc) /\ Mh lt a b out2 n2 j2 /\ 1 <= n2 /\ n2 <= a.size /\ 2 <= j2 /\ j2 <= b.size /\ n2 + j2 + 1 <= na + nb)) ?s1 ?f1
      ⟨rfl,na,nb,out,0,0,rfl,mc,hna,hna2,hnb,hnb2,by omega⟩) λc1 st2 hc1=>?_)
    case f1 =>
      rintro c st2 ⟨rfl,n2,j2,out2,ac,bc,rfl,h1,h2,h3,h4,h5,h6⟩;exact ⟨rfl,.inr ⟨n2,j2,out2,ac,bc,rfl,h1,h2,h3,h4,h5,by omega⟩⟩
    case s1 =>
      rintro u c st2 _ hu ⟨rfl,i1,j1,out1,ac,bc,rfl,m1,b1,b1',b2,b2',pr⟩;dsimp only;refine wpS_bind (wpS_elem (by omega) (wpS_bind (wpS_elem (by omega) (wpS_bind (wpS_lt O hk' (F.Sb _ _) (F.Sa _ _) ?_)))));dsimp only
      cases hlt:lt b[j1 - 1] a[i1 - 1] with
      | true =>
        rw [if_pos rfl];have m2:=F.hiPushA O m1 b1' b2' (by omega) b1 hlt;refine wpS_bind (wpS_elem (by omega) ?_)
        by_cases e:i1 - 1 = 0
        · rw [if_pos (by simpa using e)]
          refine wpS_pure ⟨rfl,.inl ⟨_,_,_,_,_,_,rfl,?_⟩⟩;exact F.hiEndA' m2 e b2'
        · rw [if_neg (by simpa using e)]
          by_cases g:ac + 1 ≥ mg
          · rw [if_pos g];exact wpS_pure ⟨rfl,.inr ⟨_,_,_,_,_,rfl,m2,by omega,by omega,b2,b2',by omega⟩⟩
          · rw [if_neg g];exact wpS_pure ⟨rfl,_,_,_,_,_,rfl,m2,by omega,by omega,b2,b2',by omega⟩
      | false =>
        rw [if_neg Bool.false_ne_true];have m2:=F.hiPushB O m1 b1' b2' (by omega) b1 hlt;refine wpS_bind (wpS_elem (by omega) ?_)
        by_cases e:j1 - 1 = 1
        · rw [if_pos (by simpa using e)]
          refine wpS_pure ⟨rfl,.inl ⟨_,_,_,_,_,_,rfl,?_⟩⟩;exact F.hiEndB' O m2 e b1' (by omega) h0
        · rw [if_neg (by simpa using e)]
          by_cases g:bc + 1 ≥ mg
          · rw [if_pos g];exact wpS_pure ⟨rfl,.inr ⟨_,_,_,_,_,rfl,m2,b1,b1',by omega,by omega,by omega⟩⟩
          · rw [if_neg g];exact wpS_pure ⟨rfl,_,_,_,_,_,rfl,m2,b1,b1',by omega,by omega,by omega⟩
    obtain ⟨rfl,⟨r,n2,j2,out2,ac,bc,rfl,he⟩ | ⟨n2,j2,out2,ac,bc,rfl,m2,hi2,hi2',hj2,hj2',pr⟩⟩:=hc1
    · exact wpS_pure ⟨ks,r,_,_,_,_,rfl,he⟩
    dsimp only;refine wpS_bind (wpS_rule ?_)
    refine wpS_bind (wpS_mono (wpS_forRange (I:=λu c st2=>KeepSt st st2 /\ ∃ (m3n n3:Nat) (out3:Array Keyed) (mg ac bc:Nat),c = (none,m3n,n3,out3,mg,ac,bc) /\ Mh lt a b out3 m3n n3 /\ 1 <= m3n /\ m3n <= a.size /\ 2 <= n3 /\ n3 <= b.size /\ m3n + n3 <= n2 + j2)
      (Q:=λc st2=>KeepSt st st2 /\ ((∃ (r:Array Keyed) (m3n n3:Nat) (out3:Array Keyed) (mg ac bc:Nat),c = (some r,m3n,n3,out3,mg,ac,bc) /\ Ends lt a.toList b.toList r.toList) \/ ∃ (m3n n3:Nat) (out3:Array Keyed) (mg ac bc:Nat),c = (none,m3n,n3,out3,mg,ac,bc) /\ Mh lt a b out3 m3n n3 /\ 1 <= m3n /\ m3n <= a.size /\ 2 <= n3 /\ n3 <= b.size /\ m3n + n3 <= n2 + j2)) ?s2 ?f2
      ⟨ks,n2,j2,out2,_,ac,bc,rfl,m2,hi2,hi2',hj2,hj2',Nat.le_refl _⟩) λc2 st3 hc2=>?_)
    case f2 =>
      rintro c st3 ⟨k3,m3n,n3,out3,mg3,ac3,bc3,rfl,h1,h2,h3,h4,h5,h6⟩;exact ⟨k3,.inr ⟨m3n,n3,out3,mg3,ac3,bc3,rfl,h1,h2,h3,h4,h5,h6⟩⟩
    case s2 =>
      rintro u c st3 _ hu ⟨k3,m3n,n3,out3,mg3,ac3,bc3,rfl,m3,hi3,hi3',hj3,hj3',pr3⟩;dsimp only;have tail:∀ (mgx:Nat),KeepSt st (SortSt.mk' (kindOf st3) (arrOf st3) (pendingOf st3) mgx (failedOf st3)):=λmgx=>⟨k3.k,k3.a,k3.p,k3.f⟩
      refine (λ(both:∀ mgx:Nat,(?P:Nat -> Prop) mgx)=>?use) ?both
      case use =>
        by_cases hg:mg3 > 1
        · rw [if_pos hg]
          refine wpS_bind (wpS_modify ?_);generalize mg3 - 1 = mgx;exact both mgx
        · rw [if_neg hg]
          refine wpS_bind (wpS_modify ?_);exact both mg3
      case both =>
        intro mgx;have kx:=tail mgx;have kxk:=kx.k.trans hk;refine wpS_bind (wpS_elem (by omega) (wpS_bind (wpS_galR O kxk (F.Sb _ _) F.Sa (by omega) (by omega) (λi j hi hj hij _=>F.sa _ _ hi hj (by omega)) λk hkn p1 p2=>?_)));dsimp only
        by_cases hk0:m3n - k > 0
        · rw [if_pos hk0]
          have mA:=F.hiA O m3 (by omega) (by omega) (by omega) (at':=k) (by omega) (λi hi z1 z2=>by simpa using p2 i (by omega) z1 z2)
          by_cases e3:k = 0
          · rw [if_pos (by simpa using e3)]
            refine wpS_pure ⟨kx,.inl ⟨_,_,_,_,_,_,_,rfl,?_⟩⟩;exact F.hiEndA' mA e3 (by omega)
          · rw [if_neg (by simpa using e3)]
            refine wpS_bind (wpS_elem (by omega) ?_);have mB:=F.hiPushB O mA (by omega) (by omega) (by omega) (by omega) (by simpa using p1 (k - 1) (by omega) (by omega))
            by_cases e4:n3 - 1 = 1
            · rw [if_pos (by simpa using e4)]
              refine wpS_pure ⟨kx,.inl ⟨_,_,_,_,_,_,_,rfl,?_⟩⟩;exact F.hiEndB' O mB e4 (by omega) (by omega) h0
            · rw [if_neg (by simpa using e4)]
              refine wpS_bind (wpS_elem (by omega) (wpS_bind (wpS_galL O kxk (F.Sa _ _) F.Sb (by omega) (by omega) (λi j hi hj hij _=>F.sb _ _ hi hj (by omega)) λq hqn q1 q2=>?_)));dsimp only;have hq1:1 <= q:=by
                rcases Nat.lt_or_ge 0 q with z | z
                · exact z
                · have z1:=q2 0 (by omega) (by omega) (by omega)
                  have z2:=h0 (k - 1) (by omega);exact absurd (z1.symm.trans z2) (by decide)
              by_cases hk0':n3 - 1 - q > 0
              · rw [if_pos hk0']
                have mC:=F.hiB O mB (by omega) (by omega) (by omega) (at':=q) (by omega) (λi hi z1 z2=>by simpa using q2 i (by omega) z1 z2)
                by_cases e5:q = 1
                · rw [if_pos (by simpa using e5)]
                  refine wpS_pure ⟨kx,.inl ⟨_,_,_,_,_,_,_,rfl,?_⟩⟩;exact F.hiEndB' O mC e5 (by omega) (by omega) h0
                · rw [if_neg (by simpa using e5),if_neg (by simp;omega)]
                  refine wpS_bind (wpS_elem (by omega) ?_);have mD:=F.hiPushA O mC (by omega) (by omega) (by omega) (by omega) (by simpa using q1 (q - 1) (by omega) (by omega))
                  by_cases e6:k - 1 = 0
                  · rw [if_pos (by simpa using e6)]
                    refine wpS_pure ⟨kx,.inl ⟨_,_,_,_,_,_,_,rfl,?_⟩⟩;exact F.hiEndA' mD e6 (by omega)
                  · rw [if_neg (by simpa using e6)]
                    split
                    · exact wpS_pure ⟨kx,.inr ⟨_,_,_,_,_,_,rfl,mD,by omega,by omega,by omega,by omega,by omega⟩⟩
                    · exact wpS_pure ⟨kx,_,_,_,_,_,_,rfl,mD,by omega,by omega,by omega,by omega,by omega⟩
              · rw [if_neg hk0']
                have eq:q = n3 - 1:=by omega
                refine wpS_bind (wpS_elem (by omega) ?_);have mD:=F.hiPushA O mB (by omega) (by omega) (by omega) (by omega) (by simpa using q1 (n3 - 1 - 1) (by omega) (by omega))
                by_cases e6:k - 1 = 0
                · rw [if_pos (by simpa using e6)]
                  refine wpS_pure ⟨kx,.inl ⟨_,_,_,_,_,_,_,rfl,?_⟩⟩;exact F.hiEndA' mD e6 (by omega)
                · rw [if_neg (by simpa using e6)]
                  split
                  · exact wpS_pure ⟨kx,.inr ⟨_,_,_,_,_,_,rfl,mD,by omega,by omega,by omega,by omega,by omega⟩⟩
                  · exact wpS_pure ⟨kx,_,_,_,_,_,_,rfl,mD,by omega,by omega,by omega,by omega,by omega⟩
        · rw [if_neg hk0]
          have ek:k = m3n:=by omega
          refine wpS_bind (wpS_elem (by omega) ?_);have mB:=F.hiPushB O m3 (by omega) (by omega) (by omega) (by omega) (by simpa using p1 (m3n - 1) (by omega) (by omega))
          by_cases e4:n3 - 1 = 1
          · rw [if_pos (by simpa using e4)]
            refine wpS_pure ⟨kx,.inl ⟨_,_,_,_,_,_,_,rfl,?_⟩⟩;exact F.hiEndB' O mB e4 (by omega) (by omega) h0
          · rw [if_neg (by simpa using e4)]
            refine wpS_bind (wpS_elem (by omega) (wpS_bind (wpS_galL O kxk (F.Sa _ _) F.Sb (by omega) (by omega) (λi j hi hj hij _=>F.sb _ _ hi hj (by omega)) λq hqn q1 q2=>?_)));dsimp only;have hq1:1 <= q:=by
              rcases Nat.lt_or_ge 0 q with z | z
              · exact z
              · have z1:=q2 0 (by omega) (by omega) (by omega)
                have z2:=h0 (m3n - 1) (by omega);exact absurd (z1.symm.trans z2) (by decide)
            by_cases hk0':n3 - 1 - q > 0
            · rw [if_pos hk0']
              have mC:=F.hiB O mB (by omega) (by omega) (by omega) (at':=q) (by omega) (λi hi z1 z2=>by simpa using q2 i (by omega) z1 z2)
              by_cases e5:q = 1
              · rw [if_pos (by simpa using e5)]
                refine wpS_pure ⟨kx,.inl ⟨_,_,_,_,_,_,_,rfl,?_⟩⟩;exact F.hiEndB' O mC e5 (by omega) (by omega) h0
              · rw [if_neg (by simpa using e5),if_neg (by simp;omega)]
                refine wpS_bind (wpS_elem (by omega) ?_);have mD:=F.hiPushA O mC (by omega) (by omega) (by omega) (by omega) (by simpa using q1 (q - 1) (by omega) (by omega))
                by_cases e6:m3n - 1 = 0
                · rw [if_pos (by simpa using e6)]
                  refine wpS_pure ⟨kx,.inl ⟨_,_,_,_,_,_,_,rfl,?_⟩⟩;exact F.hiEndA' mD e6 (by omega)
                · rw [if_neg (by simpa using e6)]
                  split
                  · exact wpS_pure ⟨kx,.inr ⟨_,_,_,_,_,_,rfl,mD,by omega,by omega,by omega,by omega,by omega⟩⟩
                  · exact wpS_pure ⟨kx,_,_,_,_,_,_,rfl,mD,by omega,by omega,by omega,by omega,by omega⟩
            · rw [if_neg hk0']
              have eq:q = n3 - 1:=by omega
              refine wpS_bind (wpS_elem (by omega) ?_);have mD:=F.hiPushA O mB (by omega) (by omega) (by omega) (by omega) (by simpa using q1 (n3 - 1 - 1) (by omega) (by omega))
              by_cases e6:m3n - 1 = 0
              · rw [if_pos (by simpa using e6)]
                refine wpS_pure ⟨kx,.inl ⟨_,_,_,_,_,_,_,rfl,?_⟩⟩;exact F.hiEndA' mD e6 (by omega)
              · rw [if_neg (by simpa using e6)]
                split
                · exact wpS_pure ⟨kx,.inr ⟨_,_,_,_,_,_,rfl,mD,by omega,by omega,by omega,by omega,by omega⟩⟩
                · exact wpS_pure ⟨kx,_,_,_,_,_,_,rfl,mD,by omega,by omega,by omega,by omega,by omega⟩
    obtain ⟨k3,⟨r,m3n,n3,out3,mg3,ac3,bc3,rfl,he⟩ | ⟨m3n,n3,out3,mg3,ac3,bc3,rfl,m3,hi3,hi3',hj3,hj3',pr3⟩⟩:=hc2
    · exact wpS_pure ⟨k3,r,_,_,_,_,rfl,he⟩
    dsimp only;refine wpS_bind (wpS_modify ?_);exact wpS_pure ⟨⟨k3.k,k3.a,k3.p,k3.f⟩,m3n,n3,out3,_,rfl,m3,hi3,hi3',hj3,hj3',by omega⟩
  obtain ⟨ks,r,na,nb,out,mg,rfl,he⟩:=hc;exact wpS_pure (h r st' ks he)
end
structure Bs (κ:SortKind) (S:Keyed -> Prop) (st:SortSt):Prop where
  k:kindOf st = κ
  f:failedOf st = none
  S:∀ x ∈ (arrOf st).toList,S x
def Seg (lt:Keyed -> Keyed -> Bool) (xs:Array Keyed) (l r:Nat):Prop:=∀ i j (hi:i < xs.size) (hj:j < xs.size),l <= i -> i <= j -> j < r -> lt xs[j] xs[i] = false
section
variable {prog:Program} {w:World} {A:Around} {E:Value -> Shared -> Prop} {s:Shared} {κ:SortKind} {S:Keyed -> Prop} {lt:Keyed -> Keyed -> Bool}
theorem Bs.at {st:SortSt} (B:Bs κ S st) {i:Nat} (hi:i < (arrOf st).size):S (arrOf st)[i]:=B.S _ (by simp)
theorem Bs.set {st:SortSt} (B:Bs κ S st) {xs:Array Keyed} (hp:xs.Perm (arrOf st)):Bs κ S (setArr st xs):=by
  have hp':=Array.perm_iff_toList_perm.mp hp;exact ⟨B.k,B.f,λx hx=>B.S x (hp'.mem_iff.mp hx)⟩
theorem wpS_ltA (O:Ord prog w A s κ S lt) {st:SortSt} (B:Bs κ S st) {i j:Nat} {Q:Option Bool -> SortSt -> Prop} (hi:i < (arrOf st).size) (hj:j < (arrOf st).size) (h:Q (some (lt (arrOf st)[i] (arrOf st)[j])) st):wpS (model prog w) A E s (ltAt' i j) Q st:=by
  rw [ltAt'_eq];refine wpS_bind (wpS_get ?_);exact wpS_bind (wpS_elem hi (wpS_bind (wpS_elem hj (wpS_lt O B.k (B.at hi) (B.at hj) h))))
theorem Seg.more {xs:Array Keyed} {l r:Nat} (O:Ord prog w A s κ S lt) (hS:∀ i (h:i < xs.size),S xs[i]) (h:Seg lt xs l r) (hr:l < r) (hn:r < xs.size) (hlt:lt xs[r] xs[r - 1] = false):Seg lt xs l (r + 1):=by
  intro i j hi hj h1 h2 h3
  by_cases e:j = r
  · subst e
    by_cases e2:i = j
    · subst e2
      cases q:lt xs[i] xs[i] with
      | false=>rfl
      | true=>have:=O.asym _ _ (hS _ hi) (hS _ hi) q;rw [q] at this;cases this
    · exact O.le _ _ _ (hS _ hi) (hS _ (by omega)) (hS _ hj) (h i (j - 1) hi (by omega) h1 (by omega) (by omega)) hlt
  · exact h i j hi hj h1 h2 (by omega)
theorem Seg.one {xs:Array Keyed} {l:Nat} (O:Ord prog w A s κ S lt) (hS:∀ i (h:i < xs.size),S xs[i]):Seg lt xs l (l + 1):=by
  intro i j hi hj h1 h2 h3;have : i = j:=by omega
  subst this
  cases q:lt xs[i] xs[i] with
  | false=>rfl
  | true=>have:=O.asym _ _ (hS _ hi) (hS _ hi) q;rw [q] at this;cases this
def Dsc (lt:Keyed -> Keyed -> Bool) (xs:Array Keyed) (l r:Nat):Prop:=∀ i j (hi:i < xs.size) (hj:j < xs.size),l <= i -> i <= j -> j < r -> lt xs[i] xs[j] = false
def Eqv (lt:Keyed -> Keyed -> Bool) (xs:Array Keyed) (p q:Nat):Prop:=∀ i j (hi:i < xs.size) (hj:j < xs.size),p <= i -> i < q -> p <= j -> j < q -> lt xs[i] xs[j] = false
theorem mir_at {xs:Array Keyed} {p q:Nat} (hpq:p <= q) (hq:q <= xs.size) {i:Nat} (hi:i < (mirror xs p q ((q - p) / 2)).size) :
 ∃ k,∃ hk:k < xs.size,(mirror xs p q ((q - p) / 2))[i] = xs[k] /\ ((p <= i /\ i < q /\ k = p + q - 1 - i) \/ (¬ (p <= i /\ i < q) /\ k = i)):=by
  have mg:=getElem?_mirror_all (xs:=xs) (i:=p) (j:=q) (by omega) i;have hs:(mirror xs p q ((q - p) / 2)).size = xs.size:=(mirror_perm xs p q ((q - p) / 2)).size_eq;rw [Array.getElem?_eq_getElem hi] at mg
  by_cases h:p <= i /\ i < q
  · rw [if_pos h,Array.getElem?_eq_getElem (by omega)] at mg
    exact ⟨p + q - 1 - i,by omega,Option.some.inj mg,.inl ⟨h.1,h.2,rfl⟩⟩
  · rw [if_neg h,Array.getElem?_eq_getElem (by omega)] at mg
    exact ⟨i,by omega,Option.some.inj mg,.inr ⟨h,rfl⟩⟩
theorem rev_dsc {xs:Array Keyed} {l r p q:Nat} (hpq:p <= q) (hq:q <= xs.size) (hl:l <= p) (hr:q <= r) (d:Dsc lt xs l r) (e:Eqv lt xs p q):Dsc lt (mirror xs p q ((q - p) / 2)) l r:=by
  intro i j hi hj h1 h2 h3;obtain ⟨a,ha,ea,ca⟩:=mir_at hpq hq hi;obtain ⟨b,hb,eb,cb⟩:=mir_at hpq hq hj;rw [ea,eb]
  by_cases z:p <= a /\ a < q /\ p <= b /\ b < q
  · exact e a b ha hb z.1 z.2.1 z.2.2.1 z.2.2.2
  · exact d a b ha hb (by omega) (by omega) (by omega)
theorem rev_seg {xs:Array Keyed} {l r:Nat} (hlr:l <= r) (hr:r <= xs.size) (d:Dsc lt xs l r):Seg lt (mirror xs l r ((r - l) / 2)) l r:=by
  intro i j hi hj h1 h2 h3;obtain ⟨a,ha,ea,ca⟩:=mir_at hlr hr hi;obtain ⟨b,hb,eb,cb⟩:=mir_at hlr hr hj;rw [ea,eb];exact d b a hb ha (by omega) (by omega) (by omega)
theorem rev_pre {xs:Array Keyed} {p q:Nat} (hpq:p <= q) (hq:q <= xs.size) {i:Nat} (hi:i < p):(mirror xs p q ((q - p) / 2))[i]? = xs[i]? := by
  have mg:=getElem?_mirror_all (xs:=xs) (i:=p) (j:=q) (by omega) i;rw [mg,if_neg (by omega)]
theorem Dsc.more {xs:Array Keyed} {l r:Nat} (O:Ord prog w A s κ S lt) (hS:∀ i (h:i < xs.size),S xs[i]) (h:Dsc lt xs l r) (hr:l < r) (hn:r < xs.size) (hlt:lt xs[r - 1] xs[r] = false):Dsc lt xs l (r + 1):=by
  intro i j hi hj h1 h2 h3
  by_cases e:j = r
  · subst e
    by_cases e2:i = j
    · subst e2
      cases q:lt xs[i] xs[i] with
      | false=>rfl
      | true=>have:=O.asym _ _ (hS _ hi) (hS _ hi) q;rw [q] at this;cases this
    · exact O.le _ _ _ (hS _ hj) (hS _ (by omega)) (hS _ hi) hlt (h i (j - 1) hi (by omega) h1 (by omega) (by omega))
  · exact h i j hi hj h1 h2 (by omega)
theorem wpS_countRun (O:Ord prog w A s κ S lt) {st:SortSt} {lo nrem:Nat} {Q:Option Nat -> SortSt -> Prop} (B:Bs κ S st) (hsz:lo + nrem <= (arrOf st).size) (h1:1 <= nrem)
 (h:∀ n xs,1 <= n -> n <= nrem -> xs.Perm (arrOf st) -> (∀ i,i < lo -> xs[i]? = (arrOf st)[i]?) -> Seg lt xs lo (lo + n) -> Q (some n) (setArr st xs)):wpS (model prog w) A E s (countRun' lo nrem) Q st:=by
  have est:setArr st (arrOf st) = st:=rfl;have irr:∀ x,S x -> lt x x = false:=λx hx=>by
    cases q:lt x x with
    | false=>rfl
    | true=>have:=O.asym _ _ hx hx q;rw [q] at this;cases this
  unfold countRun'
  refine wpS_bind (wpS_mono (wpS_forRange (I:=λt c st'=>st' = st /\ c = ((none:Option (Option Nat)),t) /\ t <= nrem /\ Seg lt (arrOf st) lo (lo + t))
    (Q:=λc st'=>st' = st /\ ∃ n,c = ((none:Option (Option Nat)),n) /\ 1 <= n /\ n <= nrem /\ Seg lt (arrOf st) lo (lo + n) /\ (n = nrem \/ ∃ (h1:lo + n < (arrOf st).size) (h2:lo + n - 1 < (arrOf st).size),lt (arrOf st)[lo + n] (arrOf st)[lo + n - 1] = true)) ?s1 ?f1 ⟨rfl,rfl,h1,Seg.one O λi hi=>B.at hi⟩) λc st' hc=>?_)
  case f1 =>
    rintro c st' ⟨rfl,rfl,h2,h3⟩;have e:max 1 nrem = nrem:=by omega
    rw [e] at h3 ⊢;exact ⟨rfl,nrem,rfl,h1,Nat.le_refl _,h3,.inl rfl⟩
  case s1 =>
    rintro t c st' t0 t1 ⟨rfl,rfl,h2,h3⟩;dsimp only;refine wpS_bind (wpS_ltA O B (by omega) (by omega) ?_);dsimp only
    cases hlt:lt (arrOf st')[lo + t] (arrOf st')[lo + t - 1] with
    | true =>
      rw [if_pos rfl];exact wpS_pure ⟨rfl,t,rfl,t0,by omega,h3,.inr ⟨by omega,by omega,hlt⟩⟩
    | false =>
      rw [if_neg Bool.false_ne_true];exact wpS_pure ⟨rfl,rfl,by omega,Seg.more (r:=lo + t) O (λi hi=>B.at hi) h3 (by omega) (by omega) hlt⟩
  obtain ⟨rfl,n,rfl,n1,n2,sg,hend⟩:=hc;dsimp only
  by_cases en:n = nrem
  · rw [if_pos (by simpa using en)]
    exact wpS_pure (by have:=h n _ n1 n2 (Array.Perm.refl _) (λ_ _=>rfl) sg;rw [est] at this;exact this)
  rw [if_neg (by simpa using en)];obtain ⟨hx1,hx2,hdown⟩:∃ (h1:lo + n < (arrOf st').size) (h2:lo + n - 1 < (arrOf st').size),lt (arrOf st')[lo + n] (arrOf st')[lo + n - 1] = true:=by
    rcases hend with z | z
    · exact absurd z en
    · exact z
  refine (λ(rest:∀ xs:Array Keyed,xs.Perm (arrOf st') -> (∀ i,i < lo -> xs[i]? = (arrOf st')[i]?) -> Dsc lt xs lo (lo + (n + 1)) -> wpS (model prog w) A E s (?code:StateT SortSt Sem (Option Nat)) Q (setArr st' xs))=>?use) ?rest
  case use =>
    by_cases en1:n > 1
    · rw [if_pos en1]
      refine wpS_bind (wpS_ltA O B (by omega) (by omega) ?_);dsimp only
      cases hr:lt (arrOf st')[lo] (arrOf st')[lo + n - 1] with
      | true =>
        rw [if_pos rfl];exact wpS_pure (by have:=h n _ n1 n2 (Array.Perm.refl _) (λ_ _=>rfl) sg;rw [est] at this;exact this)
      | false =>
        rw [if_neg Bool.false_ne_true];refine wpS_bind (wpS_reverse ?_);have eqv:Eqv lt (arrOf st') lo (lo + n):=λi j hi hj a1 a2 a3 a4=>by
          have e1:lt (arrOf st')[i] (arrOf st')[lo] = false:=sg lo i (by omega) hi (Nat.le_refl _) a1 a2;have e2:lt (arrOf st')[lo + n - 1] (arrOf st')[j] = false:=sg j (lo + n - 1) hj (by omega) a3 (by omega) (by omega);exact O.le _ _ _ (B.at _) (B.at _) (B.at _) (O.le _ _ _ (B.at _) (B.at _) (B.at _) e2 hr) e1
        have d0:Dsc lt (arrOf st') lo (lo + n):=λi j hi hj a1 a2 a3=>eqv i j hi hj a1 (by omega) (by omega) a3
        have d1:Dsc lt (arrOf st') lo (lo + n + 1):=Dsc.more (r:=lo + n) O (λi hi=>B.at hi) d0 (by omega) hx1 (O.asym _ _ (B.at _) (B.at _) hdown);exact rest _ (mirror_perm _ _ _ _) (λi hi=>rev_pre (by omega) (by omega) hi) (rev_dsc (by omega) (by omega) (Nat.le_refl _) (by omega) d1 eqv)
    · rw [if_neg en1]
      have e1:n = 1:=by omega
      subst e1
      have:=rest (arrOf st') (Array.Perm.refl _) (λ_ _=>rfl) (λi j hi hj a1 a2 a3=>by
        by_cases e:i = j
        · subst e;exact irr _ (B.at hi)
        · have : i = lo:=by omega
          have : j = lo + 1:=by omega
          subst i j
          exact O.asym _ _ (B.at _) (B.at _) hdown)
      rw [est] at this;exact this
  case rest =>
    intro xs xp xpre xd;refine wpS_bind (wpS_rule ?_);have xsz:xs.size = (arrOf st').size:=xp.size_eq
    refine wpS_bind (wpS_mono (wpS_forRange (I:=λt c st2=>∃ ys neq,st2 = setArr st' ys /\ c = ((none:Option (Option Nat)),t,neq) /\ ys.Perm (arrOf st') /\ (∀ i,i < lo -> ys[i]? = (arrOf st')[i]?) /\ n + 1 <= t /\ t <= nrem /\ Dsc lt ys lo (lo + t) /\ neq + 1 <= t /\ Eqv lt ys (lo + t - (neq + 1)) (lo + t))
      (Q:=λc st2=>∃ ys t neq,st2 = setArr st' ys /\ c = ((none:Option (Option Nat)),t,neq) /\ ys.Perm (arrOf st') /\ (∀ i,i < lo -> ys[i]? = (arrOf st')[i]?) /\ n + 1 <= t /\ t <= nrem /\ Dsc lt ys lo (lo + t) /\ neq + 1 <= t /\ Eqv lt ys (lo + t - (neq + 1)) (lo + t)) ?s2 ?f2 ⟨xs,0,rfl,rfl,xp,xpre,Nat.le_refl _,by omega,xd,by omega,?i2⟩) λc2 st2 hc2=>?_)
    case i2 =>
      intro i j hi hj a1 a2 a3 a4;have : i = j:=by omega
      subst this;exact irr _ ((B.set xp).at (show i < (arrOf (setArr st' xs)).size from hi))
    case f2 =>
      rintro c st2 ⟨ys,neq,rfl,rfl,a1,a2,a3,a4,a5,a6,a7⟩;have e:max (n + 1) nrem = nrem:=by omega
      rw [e] at a5 a6 a7 ⊢;exact ⟨ys,nrem,neq,rfl,rfl,a1,a2,by omega,Nat.le_refl _,a5,a6,a7⟩
    case s2 =>
      rintro t c st2 t0 t1 ⟨ys,neq,rfl,rfl,yp,ypre,b1,b2,yd,b3,ye⟩;have ysz:ys.size = (arrOf st').size:=yp.size_eq;have By:Bs κ S (setArr st' ys):=B.set yp;have SA:∀ i (hi:i < ys.size),S ys[i]:=λi hi=>By.at (show i < (arrOf (setArr st' ys)).size from hi)
      have q1:lo + t < ys.size:=by omega
      have q2:lo + t - 1 < ys.size:=by omega
      have one:∀ (zs:Array Keyed) (hz:zs.Perm (arrOf st')),Eqv lt zs (lo + (t + 1) - (0 + 1)) (lo + (t + 1)):=λzs hz i j hi hj a1 a2 a3 a4=>by
        have : i = j:=by omega
        subst this;exact irr _ ((B.set hz).at (show i < (arrOf (setArr st' zs)).size from hi))
      dsimp only;refine wpS_bind (wpS_ltA O By q1 q2 ?_);dsimp only
      show wpS _ _ _ _ (if lt ys[lo + t] ys[lo + t - 1] = true then _ else _) _ _
      cases hlt:lt ys[lo + t] ys[lo + t - 1] with
      | true =>
        rw [if_pos rfl];have d1:Dsc lt ys lo (lo + t + 1):=Dsc.more (r:=lo + t) O SA yd (by omega) q1 (O.asym _ _ (SA _ _) (SA _ _) hlt)
        by_cases hn:neq > 0
        · rw [if_pos hn]
          refine wpS_bind (wpS_reverse ?_);have mp:=mirror_perm ys (lo + t - (neq + 1)) (lo + t) ((lo + t - (lo + t - (neq + 1))) / 2);exact wpS_pure ⟨mirror ys (lo + t - (neq + 1)) (lo + t) ((lo + t - (lo + t - (neq + 1))) / 2),0,rfl,rfl,mp.trans yp,λi hi=>(rev_pre (by omega) (by omega) (by omega)).trans (ypre i hi),by omega,by omega,rev_dsc (by omega) (by omega) (by omega) (by omega) d1 ye,by omega,one _ (mp.trans yp)⟩
        · rw [if_neg hn]
          exact wpS_pure ⟨ys,0,rfl,rfl,yp,ypre,by omega,by omega,d1,by omega,one _ yp⟩
      | false =>
        rw [if_neg Bool.false_ne_true];refine wpS_bind (wpS_ltA O By q2 q1 ?_);dsimp only
        show wpS _ _ _ _ (if lt ys[lo + t - 1] ys[lo + t] = true then _ else _) _ _
        cases hl:lt ys[lo + t - 1] ys[lo + t] with
        | true =>
          rw [if_pos rfl];exact wpS_pure ⟨ys,t,neq,rfl,rfl,yp,ypre,b1,b2,yd,b3,ye⟩
        | false =>
          rw [if_neg Bool.false_ne_true];refine wpS_pure ⟨ys,neq + 1,rfl,rfl,yp,ypre,by omega,by omega,Dsc.more (r:=lo + t) O SA yd (by omega) q1 hl,by omega,λi j hi hj a1 a2 a3 a4=>?_⟩
          by_cases ei:i = lo + t
          · by_cases ej:j = lo + t
            · subst ei;subst ej;exact irr _ (SA _ _)
            · subst ei
              exact O.le _ _ _ (SA _ _) (SA _ q2) (SA _ _) (ye (lo + t - 1) j q2 hj (by omega) (by omega) (by omega) (by omega)) hlt
          · by_cases ej:j = lo + t
            · subst ej
              exact O.le _ _ _ (SA _ _) (SA _ q2) (SA _ _) hl (ye i (lo + t - 1) hi q2 (by omega) (by omega) (by omega) (by omega))
            · exact ye i j hi hj (by omega) (by omega) (by omega) (by omega)
    obtain ⟨ys,t,neq,rfl,rfl,yp,ypre,b1,b2,yd,b3,ye⟩:=hc2;have ysz:ys.size = (arrOf st').size:=yp.size_eq;dsimp only;refine (λ(last:∀ zs:Array Keyed,zs.Perm (arrOf st') -> (∀ i,i < lo -> zs[i]? = (arrOf st')[i]?) -> Dsc lt zs lo (lo + t) -> wpS (model prog w) A E s (?code2:StateT SortSt Sem (Option Nat)) Q (setArr st' zs))=>?use2) ?last
    case use2 =>
      by_cases hn:neq > 0
      · rw [if_pos hn]
        refine wpS_bind (wpS_reverse ?_);have mp:=mirror_perm ys (lo + t - (neq + 1)) (lo + t) ((lo + t - (lo + t - (neq + 1))) / 2);exact last _ (mp.trans yp) (λi hi=>(rev_pre (by omega) (by omega) (by omega)).trans (ypre i hi)) (rev_dsc (by omega) (by omega) (by omega) (by omega) yd ye)
      · rw [if_neg hn]
        exact last ys yp ypre yd
    case last =>
      intro zs zp zpre zd;have zsz:zs.size = (arrOf st').size:=zp.size_eq;refine wpS_bind (wpS_reverse ?_);have mp:=mirror_perm zs lo (lo + t) ((lo + t - lo) / 2);have up:(mirror zs lo (lo + t) ((lo + t - lo) / 2)).Perm (arrOf st'):=mp.trans zp;have upre:∀ i,i < lo -> (mirror zs lo (lo + t) ((lo + t - lo) / 2))[i]? = (arrOf st')[i]? := λi hi=>(rev_pre (by omega) (by omega) hi).trans (zpre i hi)
      have usg:Seg lt (mirror zs lo (lo + t) ((lo + t - lo) / 2)) lo (lo + t):=rev_seg (by omega) (by omega) zd
      show wpS _ _ _ _ _ _ (setArr st' (mirror zs lo (lo + t) ((lo + t - lo) / 2)))
      generalize mirror zs lo (lo + t) ((lo + t - lo) / 2) = us at up upre usg;have usz:us.size = (arrOf st').size:=up.size_eq;have B2:Bs κ S (setArr st' us):=B.set up
      refine wpS_bind (wpS_mono (wpS_forRange (I:=λm c st3=>st3 = setArr st' us /\ c = ((none:Option (Option Nat)),m) /\ t <= m /\ m <= nrem /\ Seg lt us lo (lo + m))
        (Q:=λc st3=>st3 = setArr st' us /\ ∃ m,c = ((none:Option (Option Nat)),m) /\ t <= m /\ m <= nrem /\ Seg lt us lo (lo + m)) ?s3 ?f3 ⟨rfl,rfl,Nat.le_refl _,b2,usg⟩) λc3 st3 hc3=>?_)
      case f3 =>
        rintro c st3 ⟨rfl,rfl,a1,a2,a3⟩;exact ⟨rfl,_,rfl,a1,a2,a3⟩
      case s3 =>
        rintro m c st3 t0 t1 ⟨rfl,rfl,a1,a2,a3⟩;dsimp only;have q1:lo + m < us.size:=by omega
        have q2:lo + m - 1 < us.size:=by omega
        refine wpS_bind (wpS_ltA O B2 q1 q2 ?_);dsimp only
        show wpS _ _ _ _ (if lt us[lo + m] us[lo + m - 1] = true then _ else _) _ _
        cases hlt:lt us[lo + m] us[lo + m - 1] with
        | true =>
          rw [if_pos rfl];exact wpS_pure ⟨rfl,m,rfl,a1,a2,a3⟩
        | false =>
          rw [if_neg Bool.false_ne_true];exact wpS_pure ⟨rfl,rfl,by omega,by omega,Seg.more (r:=lo + m) O (λi hi=>B2.at hi) a3 (by omega) (by omega) hlt⟩
      obtain ⟨rfl,m,rfl,a1,a2,a3⟩:=hc3;exact wpS_pure (h m us (by omega) a2 up upre a3)
end
section
variable {prog:Program} {w:World} {A:Around} {E:Value -> Shared -> Prop} {s:Shared} {κ:SortKind} {S:Keyed -> Prop} {lt:Keyed -> Keyed -> Bool}
theorem wpS_move {st:SortSt} {i j:Nat} {Q:Unit -> SortSt -> Prop} (h:Q () (setArr st (bubble (arrOf st) i (i - j)))):wpS (model prog w) A E s (moveDown' i j) Q st:=by
  rw [moveDown'_eq];exact wpS_modify h
theorem wpS_binarySort (O:Ord prog w A s κ S lt) {st:SortSt} {lo n ok:Nat} {Q:Bool -> SortSt -> Prop} (B:Bs κ S st) (hsz:lo + n <= (arrOf st).size) (h1:1 <= ok) (h2:ok <= n) (sg:Seg lt (arrOf st) lo (lo + ok))
 (h:∀ xs,xs.Perm (arrOf st) -> (∀ i,i < lo -> xs[i]? = (arrOf st)[i]?) -> Seg lt xs lo (lo + n) -> Q true (setArr st xs)):wpS (model prog w) A E s (binarySort' lo n ok) Q st:=by
  have est:setArr st (arrOf st) = st:=rfl;unfold binarySort';have em:max ok 1 = ok:=by omega
  refine wpS_bind (wpS_mono (wpS_forRange (I:=λt c st'=>c = ((none:Option Bool),()) /\ ∃ xs,st' = setArr st xs /\ xs.Perm (arrOf st) /\ (∀ i,i < lo -> xs[i]? = (arrOf st)[i]?) /\ ok <= t /\ t <= n /\ Seg lt xs lo (lo + t))
    (Q:=λc st'=>c = ((none:Option Bool),()) /\ ∃ xs,st' = setArr st xs /\ xs.Perm (arrOf st) /\ (∀ i,i < lo -> xs[i]? = (arrOf st)[i]?) /\ Seg lt xs lo (lo + n)) ?step ?fin ⟨rfl,arrOf st,est.symm,Array.Perm.refl _,λ_ _=>rfl,by omega,by omega,by rw [em];exact sg⟩) λc st' hc=>?_)
  case fin =>
    rintro c st' ⟨rfl,xs,rfl,p,pre,a1,a2,a3⟩;have e:max (max ok 1) n = n:=by omega
    rw [e] at a3;exact ⟨rfl,xs,rfl,p,pre,a3⟩
  case step =>
    rintro k c st' k0 k1 ⟨rfl,xs,rfl,p,pre,a1,a2,a3⟩;have B2:Bs κ S (setArr st xs):=B.set p;have xsz:xs.size = (arrOf st).size:=p.size_eq;have hkx:lo + k < xs.size:=by omega
    dsimp only
    refine wpS_bind (wpS_mono (wpS_forRange (I:=λt c st2=>st2 = setArr st xs /\ ∃ l r,c = ((none:Option Bool),l,r) /\ l <= r /\ r <= k /\ r - l + t <= k /\ (∀ i (hi:lo + i < xs.size),i < l -> lt xs[lo + k] xs[lo + i] = false) /\ (∀ i (hi:lo + i < xs.size),r <= i -> i < k -> lt xs[lo + k] xs[lo + i] = true))
      (Q:=λc st2=>st2 = setArr st xs /\ ∃ l r,c = ((none:Option Bool),l,r) /\ l <= k /\ (∀ i (hi:lo + i < xs.size),i < l -> lt xs[lo + k] xs[lo + i] = false) /\ (∀ i (hi:lo + i < xs.size),l <= i -> i < k -> lt xs[lo + k] xs[lo + i] = true)) ?s1 ?f1
      ⟨rfl,0,k,rfl,by omega,by omega,by omega,λi hi z=>by omega,λi hi z1 z2=>by omega⟩) λc2 st2 hc2=>?_)
    case f1 =>
      rintro c st2 ⟨rfl,l,r,rfl,b1,b2,b3,b4,b5⟩;have e:max 0 k = k:=by omega
      exact ⟨rfl,l,r,rfl,by omega,b4,λi hi z1 z2=>b5 i hi (by omega) z2⟩
    case s1 =>
      rintro t c st2 t0 t1 ⟨rfl,l,r,rfl,b1,b2,b3,b4,b5⟩;dsimp only
      by_cases hc:l ≥ r
      · rw [if_pos hc]
        exact wpS_pure ⟨rfl,l,r,rfl,by omega,b4,λi hi z1 z2=>b5 i hi (by omega) z2⟩
      · rw [if_neg hc]
        have hm:lo + (l + r) / 2 < xs.size:=by omega
        refine wpS_bind (wpS_ltA O B2 hkx hm ?_);dsimp only
        show wpS _ _ _ _ (if lt xs[lo + k] xs[lo + (l + r) / 2] = true then _ else _) _ _
        cases hlt:lt xs[lo + k] xs[lo + (l + r) / 2] with
        | true =>
          rw [if_pos rfl];refine wpS_pure ⟨rfl,l,(l + r) / 2,rfl,by omega,by omega,by omega,b4,λi hi z1 z2=>?_⟩
          cases q:lt xs[lo + k] xs[lo + i] with
          | true=>rfl
          | false =>
            have:=O.le _ _ _ (B2.at hm) (B2.at hi) (B2.at hkx) (a3 (lo + (l + r) / 2) (lo + i) hm hi (by omega) (by omega) (by omega)) q;exact absurd (this.symm.trans hlt) (by decide)
        | false =>
          rw [if_neg Bool.false_ne_true];refine wpS_pure ⟨rfl,(l + r) / 2 + 1,r,rfl,by omega,b2,by omega,λi hi z=>?_,b5⟩;exact O.le _ _ _ (B2.at hi) (B2.at hm) (B2.at hkx) (a3 (lo + i) (lo + (l + r) / 2) hi hm (by omega) (by omega) (by omega)) hlt
    obtain ⟨rfl,l,r,rfl,b2,b4,b5⟩:=hc2;dsimp only;refine wpS_bind (wpS_move ?_);have bg:∀ q,(bubble xs (lo + k) (lo + k - (lo + l)))[q]? = if q = lo + k - (lo + k - (lo + l)) then xs[lo + k]? else if lo + k - (lo + k - (lo + l)) < q /\ q <= lo + k then xs[q - 1]? else xs[q]? := λq=>getElem?_bubble hkx _ (by omega) q
    have bp:=bubble_perm xs (lo + k) (lo + k - (lo + l))
    show wpS _ _ _ _ _ _ (setArr st (bubble xs (lo + k) (lo + k - (lo + l))))
    generalize bubble xs (lo + k) (lo + k - (lo + l)) = ys at bg bp;have ysz:ys.size = xs.size:=bp.size_eq;have e0:lo + k - (lo + k - (lo + l)) = lo + l:=by omega
    rw [e0] at bg;refine wpS_pure ⟨rfl,ys,rfl,bp.trans p,λi hi=>?_,by omega,by omega,?_⟩
    · rw [bg i,if_neg (by omega),if_neg (by omega)];exact pre i hi
    · -- the segment is sorted,with the new one in it
      have val:∀ i (hi:i < ys.size),lo <= i -> i < lo + (k + 1) -> (i < lo + l /\ ∃ h:i < xs.size,ys[i] = xs[i]) \/ (i = lo + l /\ ys[i] = xs[lo + k]) \/ (lo + l < i /\ ∃ h:i - 1 < xs.size,ys[i] = xs[i - 1]):=by
        intro i hi c1 c2;have g:=bg i;rw [Array.getElem?_eq_getElem hi] at g
        by_cases c3:i = lo + l
        · rw [if_pos c3,Array.getElem?_eq_getElem hkx] at g
          exact .inr (.inl ⟨c3,Option.some.inj g⟩)
        · rw [if_neg c3] at g
          by_cases c4:lo + l < i
          · rw [if_pos ⟨c4,by omega⟩,Array.getElem?_eq_getElem (by omega)] at g
            exact .inr (.inr ⟨c4,by omega,Option.some.inj g⟩)
          · rw [if_neg (by omega),Array.getElem?_eq_getElem (by omega)] at g
            exact .inl ⟨by omega,by omega,Option.some.inj g⟩
      intro i j hi hj c1 c2 c3;have iA:∀ q (hq:lo + q < xs.size),l <= q -> q < k -> lt xs[lo + q] xs[lo + k] = false:=λq hq z1 z2=>O.asym _ _ (B2.at _) (B2.at hq) (b5 q hq z1 z2)
      rcases val i hi c1 (by omega) with ⟨d1,x1,e1⟩ | ⟨d1,e1⟩ | ⟨d1,x1,e1⟩ <;> rcases val j hj (by omega) c3 with ⟨f1,y1,g1⟩ | ⟨f1,g1⟩ | ⟨f1,y1,g1⟩ <;> rw [e1,g1]
      · exact a3 i j x1 y1 c1 c2 (by omega)
      · obtain ⟨q,rfl⟩:∃ q,i = lo + q:=⟨i - lo,by omega⟩
        exact b4 q x1 (by omega)
      · exact a3 i (j - 1) x1 y1 c1 (by omega) (by omega)
      · omega
      · exact (Seg.one (l:=lo + k) O (λi hi=>B2.at hi)) (lo + k) (lo + k) hkx hkx (Nat.le_refl _) (Nat.le_refl _) (by omega)
      · obtain ⟨q,hq⟩:∃ q,j - 1 = lo + q:=⟨j - 1 - lo,by omega⟩
        have:=iA q (by omega) (by omega) (by omega)
        simpa [hq] using this
      · omega
      · omega
      · exact a3 (i - 1) (j - 1) x1 y1 (by omega) (by omega) (by omega)
  obtain ⟨rfl,xs,rfl,p,pre,a3⟩:=hc;exact wpS_pure (h xs p pre a3)
end
theorem write_over:∀ (l:List Keyed) (n o:Nat) (xs:Array Keyed),o + n + l.length <= xs.size -> ((l.zipIdx n).foldl (λa (p:Keyed × Nat)=>a.setIfInBounds (o + p.2) p.1) xs).toList = xs.toList.take (o + n) ++ (l ++ xs.toList.drop (o + n + l.length))
  | [],n,o,xs,h=>by simp
  | x :: l,n,o,xs,h=>by
    rw [List.zipIdx_cons,List.foldl_cons];have h':o + (n + 1) + l.length <= (xs.setIfInBounds (o + n) x).size:=by simp at h ⊢;omega
    rw [write_over l (n + 1) o _ h'];have hlt:o + n < xs.toList.length:=by simp at h ⊢;omega
    rw [Array.toList_setIfInBounds];have e1:o + (n + 1) = (o + n) + 1:=by omega
    rw [e1];have e2:(xs.toList.set (o + n) x).take (o + n + 1) = xs.toList.take (o + n) ++ [x]:=by
      rw [List.take_add_one,List.take_set_of_le (Nat.le_refl _),List.getElem?_set_self hlt];rfl
    have e3:(xs.toList.set (o + n) x).drop (o + n + 1 + l.length) = xs.toList.drop (o + n + (x :: l).length):=by
      rw [List.drop_set_of_lt (by omega)]
      congr 1
      simp;omega
    rw [e2,e3,List.append_assoc];rfl
section
variable {prog:Program} {w:World} {A:Around} {E:Value -> Shared -> Prop} {s:Shared} {κ:SortKind} {S:Keyed -> Prop} {lt:Keyed -> Keyed -> Bool}
theorem wpS_set {σ:Type} {M:Model} {st st1:σ} {Q:PUnit -> σ -> Prop} (h:Q ⟨⟩ st1):wpS M A E s (set st1:StateT σ Sem PUnit) Q st:=by
  unfold wpS
  show wpAny M A (pure (PUnit.unit,st1)) _ _ _
  exact wpAny_pure ⟨rfl,h⟩
theorem part_at {xs:Array Keyed} {pre l suf:List Keyed} (hx:xs.toList = pre ++ (l ++ suf)) {i:Nat} (h:i < l.length):∃ hi:pre.length + i < xs.size,xs[pre.length + i] = l[i]:=by
  have hs:xs.size = pre.length + (l.length + suf.length):=by
    have:=congrArg List.length hx
    simpa using this
  refine ⟨by omega,?_⟩;have e:xs.toList[pre.length + i]? = l[i]? := by
    rw [hx,List.getElem?_append_right (by omega),Nat.add_sub_cancel_left,List.getElem?_append_left h]
  rw [List.getElem?_eq_getElem (by simp;omega),List.getElem?_eq_getElem h] at e
  simpa using e
theorem pw_get {l:List Keyed} (h:l.Pairwise λx y=>lt y x = false) (irr:∀ x ∈ l,lt x x = false) {i j:Nat} (hi:i < l.length) (hj:j < l.length) (hij:i <= j):lt l[j] l[i] = false:=by
  by_cases e:i = j
  · subst e;exact irr _ (List.getElem_mem hi)
  · exact List.pairwise_iff_getElem.mp h i j hi hj (by omega)
theorem wpS_mergeAt (O:Ord prog w A s κ S lt) {st:SortSt} {i:Nat} {Q:Bool -> SortSt -> Prop} (B:Bs κ S st) {pre ra rb suf:List Keyed} {pw pw2:Nat} (hx:(arrOf st).toList = pre ++ (ra ++ (rb ++ suf))) (sra:ra.Pairwise λx y=>lt y x = false) (srb:rb.Pairwise λx y=>lt y x = false)
 (na:0 < ra.length) (nb:0 < rb.length) (hp1:(pendingOf st)[i]? = some (pre.length,ra.length,pw)) (hp2:(pendingOf st)[i + 1]? = some (pre.length + ra.length,rb.length,pw2))
 (h:∀ xs rm g,xs.toList = pre ++ (rm ++ suf) -> rm.Perm (ra ++ rb) -> rm.Pairwise (λx y=>lt y x = false) -> Q true (SortSt.mk' (kindOf st) xs (((pendingOf st).setIfInBounds i (pre.length,ra.length + rb.length,pw)).eraseIdxIfInBounds (i + 1)) g (failedOf st))):wpS (model prog w) A E s (mergeAt' i) Q st:=by
  have hS:∀ q (hq:q < (arrOf st).size),S (arrOf st)[q]:=λq hq=>B.at hq
  have hSm:∀ x ∈ (arrOf st).toList,S x:=B.S;have Sra:∀ x ∈ ra,S x:=λx hx'=>hSm x (by rw [hx];simp [hx'])
  have Srb:∀ x ∈ rb,S x:=λx hx'=>hSm x (by rw [hx];simp [hx'])
  have irr:∀ x,S x -> lt x x = false:=λx hx'=>by
    cases q:lt x x with
    | false=>rfl
    | true=>have:=O.asym _ _ hx' hx' q;rw [q] at this;cases this
  have pA:∀ {q:Nat} (hq:q < ra.length),∃ hi:pre.length + q < (arrOf st).size,(arrOf st)[pre.length + q] = ra[q]:=λhq=>part_at hx hq
  have pB:∀ {q:Nat} (hq:q < rb.length),∃ hi:pre.length + ra.length + q < (arrOf st).size,(arrOf st)[pre.length + ra.length + q] = rb[q]:=λ{q} hq=>by
    have hx2:(arrOf st).toList = (pre ++ ra) ++ (rb ++ suf):=by rw [hx];simp
    obtain ⟨h1,h2⟩:=part_at hx2 hq;have e:(pre ++ ra).length = pre.length + ra.length:=by simp
    exact ⟨by rw [<- e];exact h1,by simpa [e] using h2⟩
  have hsz:(arrOf st).size = pre.length + (ra.length + (rb.length + suf.length)):=by
    have:=congrArg List.length hx
    simpa using this
  unfold mergeAt';refine wpS_bind (wpS_get ?_);dsimp only;rw [hp1,hp2];dsimp only;refine wpS_bind (wpS_set ?_);obtain ⟨q0,hq0⟩:=pB nb;refine wpS_bind (wpS_elem q0 ?_);refine wpS_bind (wpS_galR (arr:=arrOf st) (base:=pre.length) (n:=ra.length) O B.k (hS _ q0) hS (by omega) na (λi j hi hj hij hjn=>?_) λk hk k1 k2=>?_)
  · obtain ⟨_,e1⟩:=pA (q:=i) (by omega)
    obtain ⟨_,e2⟩:=pA (q:=j) hjn;rw [e1,e2];exact pw_get sra (λx hx'=>irr x (Sra x hx')) _ _ hij
  have k1':∀ q (hq:q < ra.length),q < k -> lt rb[0] ra[q] = false:=λq hq hqk=>by
    obtain ⟨h1,e1⟩:=pA hq;have:=k1 q h1 hqk;rw [e1] at this;rw [<- hq0];exact this
  have k2':∀ q (hq:q < ra.length),k <= q -> lt rb[0] ra[q] = true:=λq hq hqk=>by
    obtain ⟨h1,e1⟩:=pA hq;have:=k2 q h1 hqk hq;rw [e1] at this;rw [<- hq0];exact this
  dsimp only
  by_cases e0:ra.length - k = 0
  · rw [if_pos (by simpa using e0)]
    refine wpS_pure (h (arrOf st) (ra ++ rb) _ (by rw [hx];simp) (List.Perm.refl _) ?_);rw [List.pairwise_append];refine ⟨sra,srb,λx hx' y hy=>?_⟩;obtain ⟨p,hp,rfl⟩:=List.mem_iff_getElem.mp hx';obtain ⟨r,hr,rfl⟩:=List.mem_iff_getElem.mp hy;exact O.le _ _ _ (Sra _ hx') (Srb _ (List.getElem_mem nb)) (Srb _ hy) (k1' p hp (by omega)) (pw_get srb (λx hx'=>irr x (Srb x hx')) nb hr (Nat.zero_le _))
  rw [if_neg (by simpa using e0)];obtain ⟨l0,hl0⟩:=pA (q:=ra.length - 1) (by omega);have l0':pre.length + k + (ra.length - k) - 1 < (arrOf st).size:=by omega
  have hl0':(arrOf st)[pre.length + k + (ra.length - k) - 1] = ra[ra.length - 1]:=by
    rw [<- hl0];congr 1;omega
  refine wpS_bind (wpS_elem l0' ?_);refine wpS_bind (wpS_galL (arr:=arrOf st) (base:=pre.length + ra.length) (n:=rb.length) O B.k (hS _ l0') hS (by omega) (by omega) (λi j hi hj hij hjn=>?_) λm hm m1 m2=>?_)
  · obtain ⟨_,e1⟩:=pB (q:=i) (by omega)
    obtain ⟨_,e2⟩:=pB (q:=j) hjn;rw [e1,e2];exact pw_get srb (λx hx'=>irr x (Srb x hx')) _ _ hij
  have m1':∀ q (hq:q < rb.length),q < m -> lt rb[q] ra[ra.length - 1] = true:=λq hq hqk=>by
    obtain ⟨h1,e1⟩:=pB hq;have:=m1 q h1 hqk;rw [e1,hl0'] at this;exact this
  have m2':∀ q (hq:q < rb.length),m <= q -> lt rb[q] ra[ra.length - 1] = false:=λq hq hqk=>by
    obtain ⟨h1,e1⟩:=pB hq;have:=m2 q h1 hqk hq;rw [e1,hl0'] at this;exact this
  have lastA:∀ q (hq:q < ra.length),lt ra[ra.length - 1] ra[q] = false:=λq hq=>pw_get sra (λx hx'=>irr x (Sra x hx')) hq (by omega) (by omega)
  dsimp only
  by_cases e1:m = 0
  · rw [if_pos (by simpa using e1)]
    refine wpS_pure (h (arrOf st) (ra ++ rb) _ (by rw [hx];simp) (List.Perm.refl _) ?_);rw [List.pairwise_append];refine ⟨sra,srb,λx hx' y hy=>?_⟩;obtain ⟨p,hp,rfl⟩:=List.mem_iff_getElem.mp hx';obtain ⟨r,hr,rfl⟩:=List.mem_iff_getElem.mp hy;exact O.le _ _ _ (Sra _ hx') (Sra _ (List.getElem_mem (by omega))) (Srb _ hy) (lastA p hp) (m2' r hr (by omega))
  rw [if_neg (by simpa using e1)];have hX:((arrOf st).extract (pre.length + k) (pre.length + ra.length)).toList = ra.drop k:=by
    rw [Array.toList_extract,List.extract_eq_drop_take,hx];have e2:pre.length + ra.length - (pre.length + k) = ra.length - k:=by omega
    rw [e2,List.drop_append,List.drop_of_length_le (by omega),List.nil_append,Nat.add_sub_cancel_left,List.drop_append_of_le_length (by omega),List.take_append_of_le_length (by simp),List.take_of_length_le (by simp)]
  have hY:((arrOf st).extract (pre.length + ra.length) (pre.length + ra.length + m)).toList = rb.take m:=by
    rw [Array.toList_extract,List.extract_eq_drop_take,hx,Nat.add_sub_cancel_left];have e2:pre ++ (ra ++ (rb ++ suf)) = (pre ++ ra) ++ (rb ++ suf):=by simp
    rw [e2,List.drop_append_of_le_length (by simp)];rw [List.drop_of_length_le (by simp),List.nil_append,List.take_append_of_le_length hm]
  generalize (arrOf st).extract (pre.length + k) (pre.length + ra.length) = x at hX;generalize (arrOf st).extract (pre.length + ra.length) (pre.length + ra.length + m) = y at hY;have xs1:x.size = ra.length - k:=by rw [<- Array.length_toList,hX];simp
  have ys1:y.size = m:=by rw [<- Array.length_toList,hY];simp;omega
  have gx:∀ q (hq:q < x.size),∃ h:k + q < ra.length,x[q] = ra[k + q]:=λq hq=>⟨by omega,by
    have : x.toList[q]? = ra[k + q]? := by rw [hX,List.getElem?_drop]
    rw [List.getElem?_eq_getElem (by simpa using hq),List.getElem?_eq_getElem (by omega)] at this
    simpa using this⟩
  have gy:∀ q (hq:q < y.size),∃ h:q < rb.length,y[q] = rb[q]:=λq hq=>⟨by omega,by
    have : y.toList[q]? = rb[q]? := by rw [hY,List.getElem?_take_of_lt (by omega)]
    rw [List.getElem?_eq_getElem (by simpa using hq),List.getElem?_eq_getElem (by omega)] at this
    simpa using this⟩
  have F:Mf S lt x y:=by
    refine ⟨λq hq=>?_,λq hq=>?_,λq r hq hr hqr=>?_,λq r hq hr hqr=>?_⟩
    · obtain ⟨z,e⟩:=gx q hq;rw [e];exact Sra _ (List.getElem_mem z)
    · obtain ⟨z,e⟩:=gy q hq;rw [e];exact Srb _ (List.getElem_mem z)
    · obtain ⟨z1,f1⟩:=gx q hq
      obtain ⟨z2,f2⟩:=gx r hr;rw [f1,f2];exact pw_get sra (λx hx'=>irr x (Sra x hx')) _ _ (by omega)
    · obtain ⟨z1,f1⟩:=gy q hq
      obtain ⟨z2,f2⟩:=gy r hr;rw [f1,f2];exact pw_get srb (λx hx'=>irr x (Srb x hx')) _ _ hqr
  have fst:∀ q (hq:q < x.size) (h0:0 < y.size),lt y[0] x[q] = true:=λq hq h0=>by
    obtain ⟨z1,f1⟩:=gx q hq;obtain ⟨z2,f2⟩:=gy 0 h0;rw [f1,f2];exact k2' _ z1 (by omega)
  have lst:∀ q (hq:q < y.size) r (hr:r < x.size),r + 1 = x.size -> lt y[q] x[r] = true:=λq hq r hr hr1=>by
    obtain ⟨z1,f1⟩:=gx r hr;obtain ⟨z2,f2⟩:=gy q hq;have:=m1' q z2 (by omega);rw [f1,f2];have e3:k + r = ra.length - 1:=by omega
    simpa [e3] using this
  have fin:∀ (r:Array Keyed) (st':SortSt),kindOf st' = kindOf st -> arrOf st' = arrOf st -> pendingOf st' = ((pendingOf st).setIfInBounds i (pre.length,ra.length + rb.length,pw)).eraseIdxIfInBounds (i + 1) -> failedOf st' = failedOf st -> Ends lt x.toList y.toList r.toList ->
      Q true (SortSt.mk' (kindOf st') (r.toList.zipIdx.foldl (λa (p:Keyed × Nat)=>a.setIfInBounds (pre.length + k + p.2) p.1) (arrOf st')) (pendingOf st') (gallopOf st') (failedOf st')):=by
    intro r st' f1 f2 f3 f4 he;have rl:r.toList.length = (ra.length - k) + m:=by
      have:=he.perm.length_eq;rw [List.length_append] at this;have a1:x.toList.length = x.size:=by simp
      have a2:y.toList.length = y.size:=by simp
      omega
    have hw:=write_over r.toList 0 (pre.length + k) (arrOf st) (by rw [rl];omega);rw [f1,f2,f3,f4];refine h _ (ra.take k ++ (r.toList ++ rb.drop m)) _ ?_ ?_ ?_
    · rw [hw,hx,rl]
      have t1:(pre ++ (ra ++ (rb ++ suf))).take (pre.length + k + 0) = pre ++ ra.take k:=by
        rw [Nat.add_zero,List.take_append,List.take_of_length_le (by omega),Nat.add_sub_cancel_left,List.take_append_of_le_length (by omega)]
      have t2:(pre ++ (ra ++ (rb ++ suf))).drop (pre.length + k + 0 + (ra.length - k + m)) = rb.drop m ++ suf:=by
        have e4:pre.length + k + 0 + (ra.length - k + m) = (pre ++ ra).length + m:=by simp;omega
        have e5:pre ++ (ra ++ (rb ++ suf)) = (pre ++ ra) ++ (rb ++ suf):=by simp
        rw [e4,e5,List.drop_append,List.drop_of_length_le (by omega),List.nil_append,Nat.add_sub_cancel_left,List.drop_append_of_le_length hm]
      rw [t1,t2];simp
    · have p1:=he.perm
      rw [hX,hY] at p1;refine List.Perm.trans (List.Perm.append_left _ (List.Perm.append_right _ p1)) ?_;have : ra.take k ++ (ra.drop k ++ rb.take m ++ rb.drop m) = ra ++ rb:=by
        rw [List.append_assoc,List.take_append_drop,<- List.append_assoc,List.take_append_drop]
      rw [this]
    · have memM:∀ z ∈ r.toList,(∃ q,∃ hq:q < ra.length,k <= q /\ z = ra[q]) \/ ∃ q,∃ hq:q < rb.length,q < m /\ z = rb[q]:=λz hz=>by
        have hz':=he.perm.mem_iff.mp hz
        rcases List.mem_append.mp hz' with hz' | hz'
        · obtain ⟨q,hq,e⟩:=List.mem_iff_getElem.mp hz'
          have hq':q < x.size:=by simpa using hq
          obtain ⟨z1,f1⟩:=gx q hq';exact .inl ⟨k + q,z1,by omega,by rw [<- e];simpa using f1⟩
        · obtain ⟨q,hq,e⟩:=List.mem_iff_getElem.mp hz'
          have hq':q < y.size:=by simpa using hq
          obtain ⟨z1,f1⟩:=gy q hq';exact .inr ⟨q,z1,by omega,by rw [<- e];simpa using f1⟩
      have inT:∀ z ∈ ra.take k,∃ q,∃ hq:q < ra.length,q < k /\ z = ra[q]:=λz hz=>by
        obtain ⟨q,hq,e⟩:=List.mem_iff_getElem.mp hz;rw [List.length_take] at hq;exact ⟨q,by omega,by omega,by rw [<- e];simp⟩
      have inD:∀ z ∈ rb.drop m,∃ q,∃ hq:q < rb.length,m <= q /\ z = rb[q]:=λz hz=>by
        obtain ⟨q,hq,e⟩:=List.mem_iff_getElem.mp hz;rw [List.length_drop] at hq;exact ⟨m + q,by omega,by omega,by rw [<- e];simp⟩
      have oA:=λ{p q:Nat} (hp:p < ra.length) (hq:q < ra.length) (hpq:p <= q)=>pw_get sra (λx hx'=>irr x (Sra x hx')) hp hq hpq
      have oB:=λ{p q:Nat} (hp:p < rb.length) (hq:q < rb.length) (hpq:p <= q)=>pw_get srb (λx hx'=>irr x (Srb x hx')) hp hq hpq
      have mA:∀ {p:Nat} (hp:p < ra.length),S ra[p]:=λhp=>Sra _ (List.getElem_mem hp)
      have mB:∀ {p:Nat} (hp:p < rb.length),S rb[p]:=λhp=>Srb _ (List.getElem_mem hp)
      have low:∀ {p q:Nat} (hp:p < ra.length) (hq:q < rb.length),p < k -> lt rb[q] ra[p] = false:=λhp hq hpk=>O.le _ _ _ (mA hp) (mB nb) (mB hq) (k1' _ hp hpk) (oB nb hq (Nat.zero_le _))
      have high:∀ {p q:Nat} (hp:p < ra.length) (hq:q < rb.length),m <= q -> lt rb[q] ra[p] = false:=λhp hq hqm=>O.le _ _ _ (mA hp) (mA (by omega)) (mB hq) (lastA _ hp) (m2' _ hq hqm)
      rw [List.pairwise_append,List.pairwise_append];refine ⟨sra.sublist (List.take_sublist _ _),⟨he.srt,srb.sublist (List.drop_sublist _ _),λz1 h1 z2 h2=>?_⟩,λz1 h1 z2 h2=>?_⟩
      · obtain ⟨q2,g2,g3,rfl⟩:=inD z2 h2
        rcases memM z1 h1 with ⟨q,g,gk,rfl⟩ | ⟨q,g,gk,rfl⟩
        · exact high g g2 g3
        · exact oB g g2 (by omega)
      · obtain ⟨q1,g0,g1,rfl⟩:=inT z1 h1
        rcases List.mem_append.mp h2 with h2 | h2
        · rcases memM z2 h2 with ⟨q,g,gk,rfl⟩ | ⟨q,g,gk,rfl⟩
          · exact oA g0 g (by omega)
          · exact low g0 g g1
        · obtain ⟨q2,g2,g3,rfl⟩:=inD z2 h2
          exact low g0 g2 g1
  by_cases hle:ra.length - k <= m
  · rw [if_pos hle]
    refine wpS_bind (wpS_mergeLo O B.k F (by omega) (by omega) (fst 0 (by omega) (by omega)) lst λr st' ks he=>?_);refine wpS_bind (wpS_modify (wpS_bind (wpS_get (wpS_pure ?_))));have:=fin r st' ks.k ks.a ks.p ks.f he;have hf:(failedOf st').isNone = true:=by rw [ks.f];show (failedOf st).isNone = true;rw [B.f];rfl
    show Q ((failedOf st').isNone) _
    rw [hf];exact this
  · rw [if_neg hle]
    refine wpS_bind (wpS_mergeHi O B.k F (by omega) (by omega) (λq hq=>fst q hq (by omega)) (lst _ (by omega) _ (by omega) (by omega)) λr st' ks he=>?_);refine wpS_bind (wpS_modify (wpS_bind (wpS_get (wpS_pure ?_))));have:=fin r st' ks.k ks.a ks.p ks.f he;have hf:(failedOf st').isNone = true:=by rw [ks.f];show (failedOf st).isNone = true;rw [B.f];rfl
    show Q ((failedOf st').isNone) _
    rw [hf];exact this
end
inductive Pend:Nat -> List (Nat × Nat × Nat) -> List (List Keyed) -> Prop where
  | nil {o:Nat}:Pend o [] []
  | cons {o p:Nat} {r:List Keyed} {ps:List (Nat × Nat × Nat)} {rs:List (List Keyed)} (h:Pend (o + r.length) ps rs):Pend o ((o,r.length,p) :: ps) (r :: rs)
theorem Pend.length {o:Nat} {ps:List (Nat × Nat × Nat)} {rs:List (List Keyed)} (h:Pend o ps rs):ps.length = rs.length:=by
  induction h with
  | nil=>rfl
  | cons _ ih=>simp [ih]
theorem Pend.snoc {o:Nat} {ps:List (Nat × Nat × Nat)} {rs:List (List Keyed)} (h:Pend o ps rs) (r:List Keyed) (p:Nat):Pend o (ps ++ [(o + rs.flatten.length,r.length,p)]) (rs ++ [r]):=by
  induction h with
  | @nil o=>exact .cons .nil
  | @cons o p' r' ps rs _ ih =>
    have e:o + (r' :: rs).flatten.length = o + r'.length + rs.flatten.length:=by simp;omega
    rw [e];exact .cons ih
theorem Pend.powers {o:Nat} {ps:List (Nat × Nat × Nat)} {rs:List (List Keyed)} (h:Pend o ps rs) (pw:Nat):∀ k,Pend o (ps.modify k λx=>(x.1,x.2.1,pw)) rs:=by
  induction h with
  | nil=>intro k;simp;exact .nil
  | cons h ih =>
    intro k
    cases k with
    | zero=>simp;exact .cons h
    | succ k=>simp;exact .cons (ih k)
theorem Pend.at {o:Nat} {ps:List (Nat × Nat × Nat)} {rs:List (List Keyed)} (h:Pend o ps rs):∀ i,i + 1 < ps.length -> ∃ (R1:List (List Keyed)) (ra rb:List Keyed) (R2:List (List Keyed)) (pw pw2:Nat),rs = R1 ++ ra :: rb :: R2 /\ ps[i]? = some (o + R1.flatten.length,ra.length,pw) /\ ps[i + 1]? = some (o + R1.flatten.length + ra.length,rb.length,pw2) /\
 ∀ rm:List Keyed,rm.length = ra.length + rb.length -> Pend o ((ps.set i (o + R1.flatten.length,ra.length + rb.length,pw)).eraseIdx (i + 1)) (R1 ++ rm :: R2):=by
  induction h with
  | nil=>intro i hi;simp at hi
  | @cons o p r ps rs h ih =>
    intro i hi
    cases i with
    | zero =>
      cases h with
      | nil=>simp at hi
      | @cons _ p2 r2 ps2 rs2 h2 =>
        refine ⟨[],r,r2,rs2,p,p2,rfl,by simp,by simp,λrm hm=>?_⟩;simp;rw [<- hm];refine .cons ?_;rw [hm,<- Nat.add_assoc];exact h2
    | succ i =>
      obtain ⟨R1,ra,rb,R2,pw,pw2,e,h1,h2,h3⟩:=ih i (by simpa using hi);refine ⟨r :: R1,ra,rb,R2,pw,pw2,by rw [e];rfl,?_,?_,λrm hm=>?_⟩
      · simp;simp at h1;rw [h1];simp;omega
      · simp;simp at h2;rw [h2];simp;omega
      · have:=h3 rm hm
        simp;have e2:o + (r.length + (R1.map List.length).sum) = o + r.length + (R1.map List.length).sum:=by omega
        rw [e2];refine .cons ?_
        simpa using this
section
variable {prog:Program} {w:World} {A:Around} {E:Value -> Shared -> Prop} {s:Shared} {κ:SortKind} {S:Keyed -> Prop} {lt:Keyed -> Keyed -> Bool}
structure Rn (κ:SortKind) (S:Keyed -> Prop) (lt:Keyed -> Keyed -> Bool) (a₀:List Keyed) (st:SortSt) (runs:List (List Keyed)) (rest:List Keyed):Prop where
  b:Bs κ S st
  perm:(arrOf st).toList.Perm a₀
  arr:(arrOf st).toList = runs.flatten ++ rest
  pend:Pend 0 (pendingOf st).toList runs
  srt:∀ r ∈ runs,r.Pairwise (λx y=>lt y x = false) /\ 0 < r.length
theorem wpS_mergeStep (O:Ord prog w A s κ S lt) {a₀:List Keyed} {st:SortSt} {runs:List (List Keyed)} {rest:List Keyed} (R:Rn κ S lt a₀ st runs rest) {i:Nat} (hi:i + 1 < (pendingOf st).size) :
 wpS (model prog w) A E s (mergeAt' i) (λb st'=>b = true /\ ∃ runs',Rn κ S lt a₀ st' runs' rest /\ runs'.length + 1 = runs.length) st:=by
  obtain ⟨R1,ra,rb,R2,pw,pw2,e,h1,h2,h3⟩:=R.pend.at i (by simpa using hi);have h1':(pendingOf st)[i]? = some (R1.flatten.length,ra.length,pw):=by simpa using h1
  have h2':(pendingOf st)[i + 1]? = some (R1.flatten.length + ra.length,rb.length,pw2):=by simpa using h2
  have hx:(arrOf st).toList = R1.flatten ++ (ra ++ (rb ++ (R2.flatten ++ rest))):=by
    rw [R.arr,e];simp
  have sa:=R.srt ra (by rw [e];simp);have sb:=R.srt rb (by rw [e];simp);refine wpS_mergeAt O R.b hx sa.1 sb.1 sa.2 sb.2 h1' h2' λxs rm g g1 g2 g3=>⟨rfl,R1 ++ rm :: R2,?_,by rw [e];simp;omega⟩
  have hp:xs.toList.Perm (arrOf st).toList:=by
    rw [g1,hx];refine List.Perm.append_left _ ?_;have : ra ++ (rb ++ (R2.flatten ++ rest)) = (ra ++ rb) ++ (R2.flatten ++ rest):=by simp
    rw [this];exact List.Perm.append_right _ g2
  refine ⟨⟨R.b.k,R.b.f,λx hx'=>R.b.S x (hp.mem_iff.mp hx')⟩,hp.trans R.perm,?_,?_,λr hr=>?_⟩
  · show xs.toList = _
    rw [g1];simp
  · have:=h3 rm (by rw [g2.length_eq,List.length_append])
    simp only [Nat.zero_add] at this
    show Pend 0 (((pendingOf st).setIfInBounds i (R1.flatten.length,ra.length + rb.length,pw)).eraseIdxIfInBounds (i + 1)).toList _
    have ee:(((pendingOf st).setIfInBounds i (R1.flatten.length,ra.length + rb.length,pw)).eraseIdxIfInBounds (i + 1)).toList = ((pendingOf st).toList.set i (R1.flatten.length,ra.length + rb.length,pw)).eraseIdx (i + 1):=by
      simp [Array.toList_eraseIdxIfInBounds,Array.toList_setIfInBounds]
    rw [ee];exact this
  · rcases List.mem_append.mp hr with hr | hr
    · exact R.srt r (by rw [e];simp [hr])
    · rcases List.mem_cons.mp hr with rfl | hr
      · exact ⟨g3,by rw [g2.length_eq,List.length_append];omega⟩
      · exact R.srt r (by rw [e];simp [hr])
end
section
variable {prog:Program} {w:World} {A:Around} {E:Value -> Shared -> Prop} {s:Shared} {κ:SortKind} {S:Keyed -> Prop} {lt:Keyed -> Keyed -> Bool} {a₀:List Keyed} {st:SortSt} {runs:List (List Keyed)} {rest:List Keyed}
theorem ite_lt {c:Prop} [Decidable c] {n:Nat} (h:2 <= n):(if c then n - 2 - 1 else n - 2) + 1 < n:=by
  split <;> omega
theorem Rn.size (R:Rn κ S lt a₀ st runs rest):(arrOf st).size = runs.flatten.length + rest.length:=by
  have:=congrArg List.length R.arr;rw [List.length_append] at this
  simpa using this
theorem Rn.same (R:Rn κ S lt a₀ st runs rest):(arrOf st).size = a₀.length:=by
  have:=R.perm.length_eq
  simpa using this
theorem Rn.lo_of (R:Rn κ S lt a₀ st runs rest) {lo:Nat} (h:rest.length = a₀.length - lo /\ lo <= a₀.length):lo = runs.flatten.length:=by
  have h1:=R.size;have h2:=R.same;omega
theorem flat_snoc {r:List Keyed}:(runs ++ [r]).flatten.length = runs.flatten.length + r.length:=by simp
theorem Rn.pow (R:Rn κ S lt a₀ st runs rest) (k pw:Nat):Rn κ S lt a₀ (SortSt.mk' (kindOf st) (arrOf st) ((pendingOf st).modify k λx=>(x.1,x.2.1,pw)) (gallopOf st) (failedOf st)) runs rest:=by
  refine ⟨⟨R.b.k,R.b.f,R.b.S⟩,R.perm,R.arr,?_,R.srt⟩
  show Pend 0 ((pendingOf st).modify k λx=>(x.1,x.2.1,pw)).toList runs
  rw [Array.toList_modify];exact R.pend.powers pw k
theorem Rn.push (R:Rn κ S lt a₀ st runs rest) {n lo:Nat} (h1:1 <= n) (h2:n <= rest.length) (sg:(rest.take n).Pairwise λx y=>lt y x = false) (hlo:lo = runs.flatten.length) :
 Rn κ S lt a₀ (SortSt.mk' (kindOf st) (arrOf st) ((pendingOf st).push (lo,n,0)) (gallopOf st) (failedOf st)) (runs ++ [rest.take n]) (rest.drop n):=by
  refine ⟨⟨R.b.k,R.b.f,R.b.S⟩,R.perm,?_,?_,λr hr=>?_⟩
  · show (arrOf st).toList = _
    rw [R.arr];simp
  · show Pend 0 ((pendingOf st).push (lo,n,0)).toList _
    rw [Array.toList_push];have:=R.pend.snoc (rest.take n) 0;rw [Nat.zero_add,<- hlo] at this;have e:(rest.take n).length = n:=by simp;omega
    rw [e] at this;exact this
  · rcases List.mem_append.mp hr with hr | hr
    · exact R.srt r hr
    · have : r = rest.take n:=by simpa using hr
      rw [this];exact ⟨sg,by simp;omega⟩
theorem Rn.run (R:Rn κ S lt a₀ st runs rest) {xs:Array Keyed} {lo:Nat} (hlo:lo = runs.flatten.length) (hp:xs.Perm (arrOf st)) (pre:∀ i,i < lo -> xs[i]? = (arrOf st)[i]?):Rn κ S lt a₀ (setArr st xs) runs (xs.toList.drop lo):=by
  have hp':=Array.perm_iff_toList_perm.mp hp;refine ⟨R.b.set hp,hp'.trans R.perm,?_,R.pend,R.srt⟩
  show xs.toList = runs.flatten ++ xs.toList.drop lo
  have e:xs.toList.take lo = runs.flatten:=by
    have e1:xs.toList.take lo = (arrOf st).toList.take lo:=by
      apply List.ext_getElem?;intro i
      by_cases hi:i < lo
      · rw [List.getElem?_take_of_lt hi,List.getElem?_take_of_lt hi]
        simpa using pre i hi
      · rw [List.getElem?_take_eq_none (by omega),List.getElem?_take_eq_none (by omega)]
    rw [e1,R.arr,hlo,List.take_left]
  rw [<- e,List.take_append_drop]
theorem seg_pw {xs:Array Keyed} {lo n:Nat} (h:Seg lt xs lo (lo + n)):((xs.toList.drop lo).take n).Pairwise λx y=>lt y x = false:=by
  rw [List.pairwise_iff_getElem];intro i j hi hj hij;rw [List.length_take,List.length_drop] at hi hj;have hi':lo + i < xs.size:=by simp at hi;omega
  have hj':lo + j < xs.size:=by simp at hj;omega
  have:=h (lo + i) (lo + j) hi' hj' (by omega) (by omega) (by omega)
  simpa using this
theorem flat_ge (h:∀ r ∈ runs,0 < r.length):runs.length <= runs.flatten.length:=by
  induction runs with
  | nil=>simp
  | cons r rs ih =>
    have h1:=ih λr hr=>h r (.tail _ hr)
    have h2:=h r (.head _);rw [List.flatten_cons,List.length_append,List.length_cons];omega
theorem wpS_sortRuns (O:Ord prog w A s κ S lt) {Q:Unit -> SortSt -> Prop} (B:Bs κ S st) (hp:pendingOf st = #[])
 (h:∀ st',(arrOf st').toList.Perm (arrOf st).toList -> (arrOf st').toList.Pairwise (λx y=>lt y x = false) -> failedOf st' = none -> Q () st'):wpS (model prog w) A E s sortRuns' Q st:=by
  have R0:Rn κ S lt (arrOf st).toList st [] (arrOf st).toList:=⟨B,List.Perm.refl _,rfl,by rw [hp];exact .nil,λ_ z=>nomatch z⟩;have hal:(arrOf st).toList.length = (arrOf st).size:=by simp
  unfold sortRuns';refine wpS_bind (wpS_get ?_);dsimp only;generalize (sortPriv% PySem.Builtin.minRun) (arrOf st).size (arrOf st).size 0 = mr;generalize hNN:(arrOf st).size = N at hal ⊢
  refine wpS_bind (wpS_mono (wpS_forRange (I:=λt c st'=>∃ lo runs rest,c = ((none:Option Unit),lo) /\ Rn κ S lt (arrOf st).toList st' runs rest /\ lo = runs.flatten.length /\ (t <= lo \/ rest = []))
    (Q:=λc st'=>∃ lo runs,c = ((none:Option Unit),lo) /\ Rn κ S lt (arrOf st).toList st' runs []) ?step ?fin ⟨0,[],_,rfl,R0,rfl,.inl (Nat.le_refl _)⟩) λc st' hc=>?_)
  case fin =>
    rintro c st' ⟨lo,runs,rest,rfl,R,hlo,ht⟩;have h1:=R.size;have h2:=R.same;have hr:rest = []:=by
      rcases ht with z | z
      · apply List.eq_nil_of_length_eq_zero
        have : max 0 N = N:=by omega
        rw [this] at z;omega
      · exact z
    subst hr;exact ⟨lo,runs,rfl,R⟩
  case step =>
    rintro t c st' _ ht ⟨lo,runs,rest,rfl,R,hlo,hprog⟩;have z1:=R.size;have z2:=R.same;dsimp only
    by_cases hge:lo ≥ N
    · rw [if_pos hge]
      have hr:rest = []:=List.eq_nil_of_length_eq_zero (by omega);subst hr;exact wpS_pure ⟨lo,runs,rfl,R⟩
    rw [if_neg hge];have hprog':t <= lo:=by
      rcases hprog with z | z
      · exact z
      · rw [z,List.length_nil] at z1;omega
    have hrem:lo + (N - lo) <= (arrOf st').size:=by omega
    refine wpS_bind (wpS_countRun (lo:=lo) (nrem:=N - lo) O R.b hrem (by omega) λn xs n1 n2 xp xpre sg=>?_);have xsz:xs.size = (arrOf st').size:=xp.size_eq;have RX:=R.run hlo xp xpre;dsimp only
    by_cases hmr:n < mr
    · rw [if_pos hmr]
      refine wpS_bind (wpS_rule ?_);have hf1:lo + min (N - lo) (mr) <= (arrOf (setArr st' xs)).size:=by
        show _ <= xs.size
        omega
      refine wpS_bind (wpS_binarySort (lo:=lo) (n:=min (N - lo) mr) O RX.b hf1 n1 (by omega) sg λys yp ypre ysg=>?_);rw [if_neg (by decide)];have yp':ys.Perm xs:=yp;have ysz:ys.size = xs.size:=yp'.size_eq;have RN:=RX.run hlo yp ypre;have sgN:=seg_pw ysg;have hrl:(ys.toList.drop lo).length = (arrOf st).toList.length - lo /\ lo <= (arrOf st).toList.length:=by
        rw [List.length_drop,hal];simp;omega
      have hrl2:(ys.toList.drop lo).length = N - lo:=by rw [hrl.1,hal]
      have hlo2:=RN.lo_of hrl;have hmin:1 <= min (N - lo) (mr):=by omega
      have hminle:min (N - lo) (mr) <= N - lo:=by omega
      generalize hN:min (N - lo) (mr) = nn at *;generalize hrest:ys.toList.drop lo = restN at *;generalize hstN:setArr (setArr st' xs) ys = stN at *;refine wpS_bind (wpS_get ?_)
      cases hbk:(pendingOf stN).back? with
      | none =>
        dsimp only;refine wpS_bind (wpS_modify ?_);exact wpS_pure ⟨_,_,_,rfl,RN.push (n:=nn) (by omega) (by omega) sgN hlo2,by rw [flat_snoc,List.length_take];omega,.inl (by omega)⟩
      | some bk =>
        obtain ⟨s1,n1,p1⟩:=bk;dsimp only;refine wpS_bind (wpS_mono (wpS_forRange (I:=λt c st2=>c = ((none:Option Unit),()) /\ ∃ runs2,Rn κ S lt (arrOf st).toList st2 runs2 restN) (Q:=λc st2=>c = ((none:Option Unit),()) /\ ∃ runs2,Rn κ S lt (arrOf st).toList st2 runs2 restN) ?si ?fi ⟨rfl,runs,RN⟩) λc2 st2 hc2=>?_)
        case fi=>rintro c st2 ⟨rfl,r2,R2⟩;exact ⟨rfl,r2,R2⟩
        case si =>
          rintro t2 c st2 _ _ ⟨rfl,r2,R2⟩;refine wpS_bind (wpS_get ?_)
          try dsimp only
          split
          · rename_i o1 o2 older hold
            have hgt:(pendingOf st2).size > 1:=by
              by_cases z:(pendingOf st2).size > 1
              · exact z
              · have : (if (pendingOf st2).size > 1 then (pendingOf st2)[(pendingOf st2).size - 2]? else none) = some (o1,o2,older):=hold
                rw [if_neg z] at this;cases this
            split
            · exact wpS_pure ⟨rfl,r2,R2⟩
            · refine wpS_bind (wpS_mono (wpS_mergeStep O R2 (i:=(pendingOf st2).size - 2) (by omega)) λbb st3 h3=>?_)
              obtain ⟨rfl,r3,R3,_⟩:=h3;rw [if_neg (by decide)];exact wpS_pure ⟨rfl,r3,R3⟩
          · exact wpS_pure ⟨rfl,r2,R2⟩
        obtain ⟨rfl,r2,R2⟩:=hc2;dsimp only;refine wpS_bind (wpS_modify (wpS_bind (wpS_modify ?_)));have R3:=R2.pow ((pendingOf st2).size - 1) (power' N (2 * s1 + n1) (2 * s1 + n1 + n1 + nn) N);have hlo3:=R3.lo_of hrl;exact wpS_pure ⟨_,_,_,rfl,R3.push (n:=nn) (by omega) (by omega) sgN hlo3,by rw [flat_snoc,List.length_take];omega,.inl (by omega)⟩
    · rw [if_neg hmr]
      have RN:=RX;have sgN:=seg_pw sg;have hrl:(xs.toList.drop lo).length = (arrOf st).toList.length - lo /\ lo <= (arrOf st).toList.length:=by
        rw [List.length_drop,hal];simp;omega
      have hrl2:(xs.toList.drop lo).length = N - lo:=by rw [hrl.1,hal]
      have hlo2:=RN.lo_of hrl;generalize hrest:xs.toList.drop lo = restN at *;generalize hstN:setArr st' xs = stN at *;refine wpS_bind (wpS_get ?_)
      cases hbk:(pendingOf stN).back? with
      | none =>
        dsimp only;refine wpS_bind (wpS_modify ?_);exact wpS_pure ⟨_,_,_,rfl,RN.push (n:=n) (by omega) (by omega) sgN hlo2,by rw [flat_snoc,List.length_take];omega,.inl (by omega)⟩
      | some bk =>
        obtain ⟨s1,n1,p1⟩:=bk;dsimp only;refine wpS_bind (wpS_mono (wpS_forRange (I:=λt c st2=>c = ((none:Option Unit),()) /\ ∃ runs2,Rn κ S lt (arrOf st).toList st2 runs2 restN) (Q:=λc st2=>c = ((none:Option Unit),()) /\ ∃ runs2,Rn κ S lt (arrOf st).toList st2 runs2 restN) ?si ?fi ⟨rfl,runs,RN⟩) λc2 st2 hc2=>?_)
        case fi=>rintro c st2 ⟨rfl,r2,R2⟩;exact ⟨rfl,r2,R2⟩
        case si =>
          rintro t2 c st2 _ _ ⟨rfl,r2,R2⟩;refine wpS_bind (wpS_get ?_)
          try dsimp only
          split
          · rename_i o1 o2 older hold
            have hgt:(pendingOf st2).size > 1:=by
              by_cases z:(pendingOf st2).size > 1
              · exact z
              · have : (if (pendingOf st2).size > 1 then (pendingOf st2)[(pendingOf st2).size - 2]? else none) = some (o1,o2,older):=hold
                rw [if_neg z] at this;cases this
            split
            · exact wpS_pure ⟨rfl,r2,R2⟩
            · refine wpS_bind (wpS_mono (wpS_mergeStep O R2 (i:=(pendingOf st2).size - 2) (by omega)) λbb st3 h3=>?_)
              obtain ⟨rfl,r3,R3,_⟩:=h3;rw [if_neg (by decide)];exact wpS_pure ⟨rfl,r3,R3⟩
          · exact wpS_pure ⟨rfl,r2,R2⟩
        obtain ⟨rfl,r2,R2⟩:=hc2;dsimp only;refine wpS_bind (wpS_modify (wpS_bind (wpS_modify ?_)));have R3:=R2.pow ((pendingOf st2).size - 1) (power' N (2 * s1 + n1) (2 * s1 + n1 + n1 + n) N);have hlo3:=R3.lo_of hrl;exact wpS_pure ⟨_,_,_,rfl,R3.push (n:=n) (by omega) (by omega) sgN hlo3,by rw [flat_snoc,List.length_take];omega,.inl (by omega)⟩
  obtain ⟨lo,runs,rfl,R⟩:=hc;dsimp only;have h2:=R.same;have hrl0:runs.length <= N:=by
    have:=flat_ge (runs:=runs) λr hr=>(R.srt r hr).2
    have:=R.size;simp only [List.length_nil] at this;omega
  refine wpS_bind (wpS_mono (wpS_forRange (I:=λt c st2=>c = ((none:Option Unit),()) /\ ∃ runs2,Rn κ S lt (arrOf st).toList st2 runs2 [] /\ runs2.length + t <= N) (Q:=λc st2=>c = ((none:Option Unit),()) /\ ∃ runs2,Rn κ S lt (arrOf st).toList st2 runs2 [] /\ runs2.length <= 1) ?s9 ?f9 ⟨rfl,runs,R,by omega⟩) λc2 st2 hc2=>?_)
  case f9 =>
    rintro c st2 ⟨rfl,r2,R2,hr2⟩;exact ⟨rfl,r2,R2,by omega⟩
  case s9 =>
    rintro t c st2 _ ht ⟨rfl,r2,R2,hr2⟩;have hpl:(pendingOf st2).size = r2.length:=by
      have:=R2.pend.length
      simpa using this
    refine wpS_bind (wpS_get ?_)
    try dsimp only
    by_cases h1:(pendingOf st2).size <= 1
    · rw [if_pos h1]
      exact wpS_pure ⟨rfl,r2,R2,by omega⟩
    rw [if_neg h1];refine wpS_bind (wpS_mono (wpS_mergeStep O R2 ?_) λb st3 h3=>?_)
    · exact ite_lt (n:=(pendingOf st2).size) (by omega)
    obtain ⟨rfl,r3,R3,hl3⟩:=h3;rw [if_neg (by decide)];exact wpS_pure ⟨rfl,r3,R3,by omega⟩
  obtain ⟨rfl,r2,R2,hr2⟩:=hc2;refine wpS_pure (h st2 R2.perm ?_ R2.b.f);rw [R2.arr]
  match r2,hr2,R2 with
  | [],_,_=>exact .nil
  | [r],_,R2=>simpa using (R2.srt r (.head _)).1
end
end T
namespace M
open PySem PySem.Spec PyProof.Rows L2
inductive D where
  | non | bl (b:Bool) | int (i:Int) | str (x:Str) | tup (xs:List D) | lst (xs:List D)
  | dK (kvs:List (Key × D)) | dT (kvs:List (List Key × D)) | adr (p:Addr)
mutual
def Rep (K:PySem.W.Frag) (H:Hp):D -> V -> Prop
  | .non,v=>v = .non
  | .bl b,v=>v = .bl b
  | .int i,v=>v = .int i
  | .str x,v=>v = .str x
  | .adr p,v=>v = .ref p
  | .tup xs,v=>∃ a vs,v = .ref a /\ H a = some (.tup vs) /\ Reps K H xs vs
  | .lst xs,v=>∃ a vs,v = .ref a /\ SqL K H a vs /\ Reps K H xs vs
  | .dK kvs,v=>∃ a kws,v = .ref a /\ Rd H a (.dK kws) /\ RepK K H kvs kws
  | .dT kvs,v=>∃ a kws,v = .ref a /\ Rd H a (.dT kws) /\ RepT K H kvs kws
def Reps (K:PySem.W.Frag) (H:Hp):List D -> List V -> Prop
  | [],vs=>vs = []
  | d :: ds,vs=>∃ v r,vs = v :: r /\ Rep K H d v /\ Reps K H ds r
def RepK (K:PySem.W.Frag) (H:Hp):List (Key × D) -> List (Key × V) -> Prop
  | [],ws=>ws = []
  | (k,d) :: r,ws=>∃ v q,ws = (k,v) :: q /\ Rep K H d v /\ RepK K H r q
def RepT (K:PySem.W.Frag) (H:Hp):List (List Key × D) -> List (List Key × V) -> Prop
  | [],ws=>ws = []
  | (k,d) :: r,ws=>∃ v q,ws = (k,v) :: q /\ Rep K H d v /\ RepT K H r q
end
theorem same_rd {H H':Hp} {a:Addr} {u:HO} (e:Same H H') (h:Rd H a u):Rd H' a u:=h.elim (λz=>.inl (e _ _ z)) λ⟨o,z⟩=>.inr ⟨o,e _ _ z⟩
mutual
theorem Rep.mono {K:PySem.W.Frag} {H H':Hp} (e:Same H H'):∀ (d:D) (v:V),Rep K H d v -> Rep K H' d v
  | .non,v,h=>by simpa only [Rep] using h
  | .bl b,v,h=>by simpa only [Rep] using h
  | .int i,v,h=>by simpa only [Rep] using h
  | .str x,v,h=>by simpa only [Rep] using h
  | .adr x,v,h=>by simpa only [Rep] using h
  | .tup xs,v,h=>by
    simp only [Rep] at h ⊢;obtain ⟨a,vs,h1,h2,h3⟩:=h;exact ⟨a,vs,h1,e _ _ h2,Reps.mono e xs vs h3⟩
  | .lst xs,v,h=>by
    simp only [Rep] at h ⊢;obtain ⟨a,vs,h1,h2,h3⟩:=h;exact ⟨a,vs,h1,e.seq h2,Reps.mono e xs vs h3⟩
  | .dK kvs,v,h=>by
    simp only [Rep] at h ⊢;obtain ⟨a,vs,h1,h2,h3⟩:=h;exact ⟨a,vs,h1,same_rd e h2,RepK.mono e kvs vs h3⟩
  | .dT kvs,v,h=>by
    simp only [Rep] at h ⊢;obtain ⟨a,vs,h1,h2,h3⟩:=h;exact ⟨a,vs,h1,same_rd e h2,RepT.mono e kvs vs h3⟩
theorem Reps.mono {K:PySem.W.Frag} {H H':Hp} (e:Same H H'):∀ (ds:List D) (vs:List V),Reps K H ds vs -> Reps K H' ds vs
  | [],vs,h=>by simpa only [Reps] using h
  | d :: ds,vs,h=>by
    simp only [Reps] at h ⊢;obtain ⟨v,r,h1,h2,h3⟩:=h;exact ⟨v,r,h1,Rep.mono e d v h2,Reps.mono e ds r h3⟩
theorem RepK.mono {K:PySem.W.Frag} {H H':Hp} (e:Same H H'):∀ (ds:List (Key × D)) (vs:List (Key × V)),RepK K H ds vs -> RepK K H' ds vs
  | [],vs,h=>by simpa only [RepK] using h
  | (k,d) :: ds,vs,h=>by
    simp only [RepK] at h ⊢;obtain ⟨v,r,h1,h2,h3⟩:=h;exact ⟨v,r,h1,Rep.mono e d v h2,RepK.mono e ds r h3⟩
theorem RepT.mono {K:PySem.W.Frag} {H H':Hp} (e:Same H H'):∀ (ds:List (List Key × D)) (vs:List (List Key × V)),RepT K H ds vs -> RepT K H' ds vs
  | [],vs,h=>by simpa only [RepT] using h
  | (k,d) :: ds,vs,h=>by
    simp only [RepT] at h ⊢;obtain ⟨v,r,h1,h2,h3⟩:=h;exact ⟨v,r,h1,Rep.mono e d v h2,RepT.mono e ds r h3⟩
end
section
variable {K:PySem.W.Frag} {H:Hp}
theorem Reps.length:∀ {ds:List D} {vs:List V},Reps K H ds vs -> ds.length = vs.length
  | [],vs,h=>by simp only [Reps] at h;subst h;rfl
  | d :: ds,vs,h=>by
    simp only [Reps] at h;obtain ⟨v,r,rfl,_,h3⟩:=h;simp [Reps.length h3]
theorem Reps.get:∀ {ds:List D} {vs:List V} {i:Nat} {d:D},Reps K H ds vs -> ds[i]? = some d -> ∃ v,vs[i]? = some v /\ Rep K H d v
  | [],_,_,_,_,e=>by simp at e
  | d :: ds,vs,0,d',h,e=>by
    simp only [Reps] at h;obtain ⟨v,r,rfl,h2,h3⟩:=h;simp at e;subst e;exact ⟨v,rfl,h2⟩
  | d :: ds,vs,i + 1,d',h,e=>by
    simp only [Reps] at h;obtain ⟨v,r,rfl,h2,h3⟩:=h
    simpa using Reps.get h3 (by simpa using e)
theorem Reps.getV:∀ {ds:List D} {vs:List V} {i:Nat} {v:V},Reps K H ds vs -> vs[i]? = some v -> ∃ d,ds[i]? = some d /\ Rep K H d v
  | [],vs,_,_,h,e=>by simp only [Reps] at h;subst h;simp at e
  | d :: ds,vs,0,d',h,e=>by
    simp only [Reps] at h;obtain ⟨v,r,rfl,h2,h3⟩:=h;simp at e;subst e;exact ⟨d,rfl,h2⟩
  | d :: ds,vs,i + 1,d',h,e=>by
    simp only [Reps] at h;obtain ⟨v,r,rfl,h2,h3⟩:=h
    simpa using Reps.getV h3 (by simpa using e)
theorem Reps.cons {d:D} {v:V} {ds:List D} {vs:List V} (h:Rep K H d v) (t:Reps K H ds vs):Reps K H (d :: ds) (v :: vs):=by
  simp only [Reps];exact ⟨v,vs,rfl,h,t⟩
theorem Reps.nil:Reps K H [] []:=by simp only [Reps]
theorem Reps.append:∀ {ds es:List D} {vs ws:List V},Reps K H ds vs -> Reps K H es ws -> Reps K H (ds ++ es) (vs ++ ws)
  | [],es,vs,ws,h,k=>by simp only [Reps] at h;subst h;exact k
  | d :: ds,es,vs,ws,h,k=>by
    simp only [Reps] at h;obtain ⟨v,r,rfl,h2,h3⟩:=h;exact Reps.cons h2 (Reps.append h3 k)
theorem Reps.take:∀ {ds:List D} {vs:List V} (n:Nat),Reps K H ds vs -> Reps K H (ds.take n) (vs.take n)
  | _,_,0,_=>by simp [Reps]
  | [],vs,n + 1,h=>by simp only [Reps] at h;subst h;simp [Reps]
  | d :: ds,vs,n + 1,h=>by
    simp only [Reps] at h;obtain ⟨v,r,rfl,h2,h3⟩:=h;exact Reps.cons h2 (Reps.take n h3)
theorem Reps.drop:∀ {ds:List D} {vs:List V} (n:Nat),Reps K H ds vs -> Reps K H (ds.drop n) (vs.drop n)
  | _,_,0,h=>h
  | [],vs,n + 1,h=>by simp only [Reps] at h;subst h;simp [Reps]
  | d :: ds,vs,n + 1,h=>by
    simp only [Reps] at h;obtain ⟨v,r,rfl,h2,h3⟩:=h;exact Reps.drop n h3
theorem Reps.set:∀ {ds:List D} {vs:List V} (i:Nat) {d:D} {v:V},Reps K H ds vs -> Rep K H d v -> Reps K H (ds.set i d) (vs.set i v)
  | [],vs,_,_,_,h,_=>by simp only [Reps] at h;subst h;simp [Reps]
  | d :: ds,vs,0,d',v',h,k=>by
    simp only [Reps] at h;obtain ⟨v,r,rfl,h2,h3⟩:=h;exact Reps.cons k h3
  | d :: ds,vs,i + 1,d',v',h,k=>by
    simp only [Reps] at h;obtain ⟨v,r,rfl,h2,h3⟩:=h;exact Reps.cons h2 (Reps.set i h3 k)
theorem Reps.ints:∀ (ns:List Int),Reps K H (ns.map D.int) (ns.map V.int)
  | []=>Reps.nil
  | n :: ns=>Reps.cons (by simp only [Rep]) (Reps.ints ns)
theorem Reps.ints_inv:∀ {ns:List Int} {vs:List V},Reps K H (ns.map D.int) vs -> vs = ns.map V.int
  | [],vs,h=>by simp only [List.map_nil,Reps] at h;exact h
  | n :: ns,vs,h=>by
    simp only [List.map_cons,Reps,Rep] at h;obtain ⟨v,r,rfl,h2,h3⟩:=h;rw [h2,Reps.ints_inv h3];rfl
theorem RepK.length:∀ {ds:List (Key × D)} {vs:List (Key × V)},RepK K H ds vs -> ds.length = vs.length
  | [],vs,h=>by simp only [RepK] at h;subst h;rfl
  | (k,d) :: ds,vs,h=>by
    simp only [RepK] at h;obtain ⟨v,r,rfl,_,h3⟩:=h;simp [RepK.length h3]
theorem RepT.length:∀ {ds:List (List Key × D)} {vs:List (List Key × V)},RepT K H ds vs -> ds.length = vs.length
  | [],vs,h=>by simp only [RepT] at h;subst h;rfl
  | (k,d) :: ds,vs,h=>by
    simp only [RepT] at h;obtain ⟨v,r,rfl,_,h3⟩:=h;simp [RepT.length h3]
end
inductive Sl where
  | un | fr (d:D) | ow (d:D) | lk (p:Addr) (d:D)
def Own (K:PySem.W.Frag) (G H:Hp) (p:Addr):D -> Prop
  | .lst ds=>∃ vs,H p = some (.lst vs) /\ Reps K G ds vs
  | .dK kvs=>∃ kws,H p = some (.dK kws) /\ RepK K G kvs kws
  | .dT kvs=>∃ kws,H p = some (.dT kws) /\ RepT K G kvs kws
  | _=>False
theorem Own.mono {K:PySem.W.Frag} {G G' H H':Hp} {p:Addr} {d:D} (h:Own K G H p d) (e:Same G G') (k:H' p = H p):Own K G' H' p d:=by
  cases d with
  | lst ds=>obtain ⟨vs,h1,h2⟩:=h;exact ⟨vs,k.trans h1,Reps.mono e _ _ h2⟩
  | dK ds=>obtain ⟨vs,h1,h2⟩:=h;exact ⟨vs,k.trans h1,RepK.mono e _ _ h2⟩
  | dT ds=>obtain ⟨vs,h1,h2⟩:=h;exact ⟨vs,k.trans h1,RepT.mono e _ _ h2⟩
  | _=>exact h.elim
def Soft:HO -> Prop
  | .lst _=>True
  | .dK _=>True
  | .dT _=>True
  | _=>False
theorem Own.soft {K:PySem.W.Frag} {G H:Hp} {p:Addr} {d:D} (h:Own K G H p d):∃ o,H p = some o /\ Soft o:=by
  cases d with
  | lst ds=>obtain ⟨vs,h1,h2⟩:=h;exact ⟨_,h1,True.intro⟩
  | dK ds=>obtain ⟨vs,h1,h2⟩:=h;exact ⟨_,h1,True.intro⟩
  | dT ds=>obtain ⟨vs,h1,h2⟩:=h;exact ⟨_,h1,True.intro⟩
  | _=>exact h.elim
theorem Own.rep {K:PySem.W.Frag} {G G' H:Hp} {p:Addr} {d:D} (h:Own K G H p d) (e:Same G G') (k:G' p = H p):Rep K G' d (.ref p):=by
  cases d with
  | lst ds=>obtain ⟨vs,h1,h2⟩:=h;simp only [Rep];exact ⟨p,vs,rfl,SqL.of (k.trans h1),Reps.mono e _ _ h2⟩
  | dK ds=>obtain ⟨vs,h1,h2⟩:=h;simp only [Rep];exact ⟨p,vs,rfl,.inl (k.trans h1),RepK.mono e _ _ h2⟩
  | dT ds=>obtain ⟨vs,h1,h2⟩:=h;simp only [Rep];exact ⟨p,vs,rfl,.inl (k.trans h1),RepT.mono e _ _ h2⟩
  | _=>exact h.elim
def Sl.mine:Sl -> Prop
  | .ow _=>True
  | .lk _ _=>True
  | _=>False
def At (σ:L2.St) (δ:List Sl) (i:Nat) (p:Addr):Prop:=∃ l,δ[i]? = some l /\ l.mine /\ σ[i]? = some (some (.ref p))
structure Hs (K:PySem.W.Frag) (H0:Hp) (σ:L2.St) (δ:List Sl) (G H:Hp):Prop where
  len:σ.length = δ.length
  base:Same H0 G
  ex:∀ b,(G b = H b /\ ∀ i,¬ At σ δ i b) \/ (G b = none /\ ∃ i,At σ δ i b)
  fr:∀ (i:Nat) d,δ[i]? = some (.fr d) -> ∃ v,σ[i]? = some (some v) /\ Rep K G d v
  ow:∀ (i:Nat) d,δ[i]? = some (.ow d) -> ∃ p,σ[i]? = some (some (.ref p)) /\ Own K G H p d
  lk:∀ (i:Nat) p d,δ[i]? = some (.lk p d) -> σ[i]? = some (some (.ref p)) /\ Own K G H p d
  ne:∀ i j p,At σ δ i p -> At σ δ j p -> i = j
section
variable {K:PySem.W.Frag} {H0:Hp} {σ:L2.St} {δ:List Sl} {G H:Hp}
theorem Hs.sub (h:Hs K H0 σ δ G H):Same G H:=λb o e=>by
  rcases h.ex b with ⟨q,_⟩ | ⟨q,_⟩
  · rw [<- q];exact e
  · rw [q] at e;cases e
theorem Hs.soft (h:Hs K H0 σ δ G H) {i:Nat} {p:Addr} (a:At σ δ i p):∃ o,H p = some o /\ Soft o:=by
  obtain ⟨l,e1,e2,e3⟩:=a
  cases l with
  | ow d =>
    obtain ⟨q,e4,o⟩:=h.ow i d e1;rw [e3] at e4;cases e4;exact o.soft
  | lk q d =>
    obtain ⟨e4,o⟩:=h.lk i q d e1;rw [e3] at e4;cases e4;exact o.soft
  | _=>exact e2.elim
theorem Hs.hard (h:Hs K H0 σ δ G H) {b:Addr} {o:HO} (e:H b = some o) (n:¬ Soft o):G b = some o /\ ∀ i,¬ At σ δ i b:=by
  rcases h.ex b with ⟨q,a⟩ | ⟨q,i,a⟩
  · exact ⟨q.trans e,a⟩
  · obtain ⟨o',e',s⟩:=h.soft a
    rw [e] at e';cases e';exact absurd s n
theorem Hs.start {ds:List D} {vs:List V} (h:Reps K H0 ds vs) (n:Nat):Hs K H0 (vs.map some ++ List.replicate n none) (ds.map Sl.fr ++ List.replicate n .un) H0 H0:=by
  have na:∀ i p,¬ At (vs.map some ++ List.replicate n none) (ds.map Sl.fr ++ List.replicate n .un) i p:=by
    rintro i p ⟨l,e1,e2,_⟩;have hm:=List.mem_of_getElem? e1
    rcases List.mem_append.mp hm with hm | hm
    · obtain ⟨d,_,rfl⟩:=List.mem_map.mp hm
      exact e2
    · have:=List.eq_of_mem_replicate hm
      subst this;exact e2
  have fr_at:∀ (i:Nat) l,(ds.map Sl.fr ++ List.replicate n .un)[i]? = some l -> l = .un \/ ∃ d,l = .fr d /\ ds[i]? = some d:=by
    intro i l e
    by_cases hi:i < ds.length
    · rw [List.getElem?_append_left (by simpa using hi),List.getElem?_map] at e
      cases q:ds[i]? with
      | none=>rw [q] at e;cases e
      | some d=>rw [q] at e;exact .inr ⟨d,(Option.some.inj e).symm,rfl⟩
    · rw [List.getElem?_append_right (by simpa using Nat.le_of_not_lt hi)] at e
      exact .inl (List.eq_of_mem_replicate (List.mem_of_getElem? e))
  refine ⟨by simp [h.length],Same.refl _,λb=>.inl ⟨rfl,λi=>na i b⟩,λi d e=>?_,λi d e=>?_,λi p es e=>?_,λi j p a _=>absurd a (na i p)⟩
  · rcases fr_at i _ e with z | ⟨d',z,q⟩
    · cases z
    · cases z
      obtain ⟨v,e1,r⟩:=h.get q;refine ⟨v,?_,r⟩;have hi:i < vs.length:=(List.getElem?_eq_some_iff.mp e1).1;rw [List.getElem?_append_left (by simpa using hi),List.getElem?_map,e1];rfl
  · rcases fr_at i _ e with z | ⟨d',z,q⟩ <;> cases z
  · rcases fr_at i _ e with z | ⟨d',z,q⟩ <;> cases z
end
section
variable {K:PySem.W.Frag} {H0:Hp} {σ:L2.St} {δ:List Sl} {G H:Hp}
theorem At.lt {i:Nat} {p:Addr} (a:At σ δ i p):i < δ.length:=by
  obtain ⟨l,e,_⟩:=a;exact (List.getElem?_eq_some_iff.mp e).1
theorem at_set {i j:Nat} {p:Addr} {v:Option V} {l:Sl} (n:j ≠ i):At (σ.set i v) (δ.set i l) j p ↔ At σ δ j p:=by
  unfold At;rw [List.getElem?_set_ne (Ne.symm n),List.getElem?_set_ne (Ne.symm n)]
theorem at_setD {i j:Nat} {p:Addr} {l:Sl} (n:j ≠ i):At σ (δ.set i l) j p ↔ At σ δ j p:=by
  unfold At;rw [List.getElem?_set_ne (Ne.symm n)]
theorem at_self {i:Nat} {p:Addr} {v:Option V} {l:Sl} (a:At (σ.set i v) (δ.set i l) i p):l.mine /\ v = some (.ref p):=by
  obtain ⟨l',e1,e2,e3⟩:=a;have h1:i < (δ.set i l).length:=(List.getElem?_eq_some_iff.mp e1).1;have h2:i < (σ.set i v).length:=(List.getElem?_eq_some_iff.mp e3).1;rw [List.length_set] at h1 h2;rw [List.getElem?_set_self h1] at e1;rw [List.getElem?_set_self h2] at e3;cases e1;exact ⟨e2,Option.some.inj e3⟩
theorem at_selfD {i:Nat} {p:Addr} {l:Sl} (a:At σ (δ.set i l) i p):l.mine:=by
  obtain ⟨l',e1,e2,e3⟩:=a;have h1:i < (δ.set i l).length:=(List.getElem?_eq_some_iff.mp e1).1;rw [List.length_set] at h1;rw [List.getElem?_set_self h1] at e1;cases e1;exact e2
theorem Hs.freeze (h:Hs K H0 σ δ G H) {i:Nat} {d:D} (e:δ[i]? = some (.ow d)):∃ G',Hs K H0 σ (δ.set i (.fr d)) G' H /\ Same G G' /\ ∃ p,σ[i]? = some (some (.ref p)) /\ Rep K G' d (.ref p):=by
  obtain ⟨p,e1,o⟩:=h.ow i d e;have ai:At σ δ i p:=⟨_,e,True.intro,e1⟩;have hi:i < δ.length:=ai.lt;obtain ⟨ob,eo,_⟩:=o.soft;have gp:G p = none:=by
    rcases h.ex p with ⟨_,z⟩ | ⟨z,_⟩
    · exact absurd ai (z i)
    · exact z
  have s1:Same G (upd G p ob):=λb u q=>by rw [upd_ne (ne_of_none q gp)];exact q
  have r:Rep K (upd G p ob) d (.ref p):=o.rep s1 (by rw [upd_same,eo]);refine ⟨upd G p ob,⟨by rw [List.length_set];exact h.len,h.base.trans s1,λb=>?_,λj d' q=>?_,λj d' q=>?_,λj q' es q=>?_,λj k b a1 a2=>?_⟩,s1,p,e1,r⟩
  · by_cases hb:b = p
    · subst hb
      refine .inl ⟨by rw [upd_same,eo],λj a=>?_⟩
      by_cases hj:j = i
      · subst hj;exact at_selfD a
      · exact hj (h.ne _ _ _ ((at_setD hj).mp a) ai)
    · rcases h.ex b with ⟨z1,z2⟩ | ⟨z1,j,z2⟩
      · refine .inl ⟨by rw [upd_ne hb];exact z1,λj a=>?_⟩
        by_cases hj:j = i
        · subst hj;exact at_selfD a
        · exact z2 j ((at_setD hj).mp a)
      · have hj:j ≠ i:=λz=>hb (by
          subst z;obtain ⟨_,_,_,w⟩:=z2
          rw [e1] at w;cases w;rfl)
        exact .inr ⟨by rw [upd_ne hb];exact z1,j,(at_setD hj).mpr z2⟩
  · by_cases hj:j = i
    · subst hj
      rw [List.getElem?_set_self hi] at q;cases q;exact ⟨_,e1,r⟩
    · rw [List.getElem?_set_ne (Ne.symm hj)] at q
      obtain ⟨v,w1,w2⟩:=h.fr j d' q;exact ⟨v,w1,Rep.mono s1 _ _ w2⟩
  · by_cases hj:j = i
    · subst hj
      rw [List.getElem?_set_self hi] at q;cases q
    · rw [List.getElem?_set_ne (Ne.symm hj)] at q
      obtain ⟨v,w1,w2⟩:=h.ow j d' q;exact ⟨v,w1,w2.mono s1 rfl⟩
  · by_cases hj:j = i
    · subst hj
      rw [List.getElem?_set_self hi] at q;cases q
    · rw [List.getElem?_set_ne (Ne.symm hj)] at q
      obtain ⟨w1,w2⟩:=h.lk j q' es q;exact ⟨w1,w2.mono s1 rfl⟩
  · have hj:j ≠ i:=λz=>by subst z;exact at_selfD a1
    have hk:k ≠ i:=λz=>by subst z;exact at_selfD a2
    exact h.ne j k b ((at_setD hj).mp a1) ((at_setD hk).mp a2)
theorem Hs.put0 (h:Hs K H0 σ δ G H) {i:Nat} {l:Sl} {d:D} {v:V} (e:δ[i]? = some l) (nm:¬ l.mine) (r:Rep K G d v):Hs K H0 (σ.set i (some v)) (δ.set i (.fr d)) G H:=by
  have hi:i < δ.length:=(List.getElem?_eq_some_iff.mp e).1;have his:i < σ.length:=by rw [h.len];exact hi
  have na:∀ p,¬ At σ δ i p:=λp ⟨l',e1,e2,_⟩=>by rw [e] at e1;cases e1;exact nm e2
  have na':∀ p,¬ At (σ.set i (some v)) (δ.set i (.fr d)) i p:=λp a=>(at_self a).1
  refine ⟨by rw [List.length_set,List.length_set];exact h.len,h.base,λb=>?_,λj d' q=>?_,λj d' q=>?_,λj q' es q=>?_,λj k b a1 a2=>?_⟩
  · rcases h.ex b with ⟨z1,z2⟩ | ⟨z1,j,z2⟩
    · refine .inl ⟨z1,λj a=>?_⟩
      by_cases hj:j = i
      · subst hj;exact na' b a
      · exact z2 j ((at_set hj).mp a)
    · have hj:j ≠ i:=λz=>by subst z;exact na b z2
      exact .inr ⟨z1,j,(at_set hj).mpr z2⟩
  · by_cases hj:j = i
    · subst hj
      rw [List.getElem?_set_self hi] at q;cases q;exact ⟨v,List.getElem?_set_self his,r⟩
    · rw [List.getElem?_set_ne (Ne.symm hj)] at q ⊢
      exact h.fr j d' q
  · by_cases hj:j = i
    · subst hj
      rw [List.getElem?_set_self hi] at q;cases q
    · rw [List.getElem?_set_ne (Ne.symm hj)] at q ⊢
      exact h.ow j d' q
  · by_cases hj:j = i
    · subst hj
      rw [List.getElem?_set_self hi] at q;cases q
    · rw [List.getElem?_set_ne (Ne.symm hj)] at q ⊢
      exact h.lk j q' es q
  · have hj:j ≠ i:=λz=>by subst z;exact na' b a1
    have hk:k ≠ i:=λz=>by subst z;exact na' b a2
    exact h.ne j k b ((at_set hj).mp a1) ((at_set hk).mp a2)
def Sl.locked:Sl -> Bool
  | .lk _ _=>true
  | _=>false
theorem Hs.put (h:Hs K H0 σ δ G H) {i:Nat} {l:Sl} {d:D} {v:V} (e:δ[i]? = some l) (nl:l.locked = false) (r:Rep K G d v):∃ G',Hs K H0 (σ.set i (some v)) (δ.set i (.fr d)) G' H /\ Same G G':=by
  cases l with
  | lk p d'=>cases nl
  | un=>exact ⟨G,h.put0 e (λz=>z) r,Same.refl _⟩
  | fr d'=>exact ⟨G,h.put0 e (λz=>z) r,Same.refl _⟩
  | ow d' =>
    have hi:i < δ.length:=(List.getElem?_eq_some_iff.mp e).1;obtain ⟨G',h',s,_⟩:=h.freeze e;have:=h'.put0 (i:=i) (d:=d) (v:=v) (List.getElem?_set_self hi) (λz=>z) (Rep.mono s _ _ r);rw [List.set_set] at this;exact ⟨G',this,s⟩
theorem at_cons {i:Nat} {p:Addr} {v:Option V} {l:Sl}:At (v :: σ) (l :: δ) (i + 1) p ↔ At σ δ i p:=by
  unfold At;simp
theorem at_zero {p:Addr} {v:Option V} {l:Sl}:At (v :: σ) (l :: δ) 0 p ↔ l.mine /\ v = some (.ref p):=by
  unfold At;simp
theorem Hs.drop {v:Option V} {l:Sl} (h:Hs K H0 (v :: σ) (l :: δ) G H) (nm:¬ l.mine):Hs K H0 σ δ G H:=by
  refine ⟨by simpa using h.len,h.base,λb=>?_,λj d' q=>?_,λj d' q=>?_,λj q' es q=>?_,λj k b a1 a2=>?_⟩
  · rcases h.ex b with ⟨z1,z2⟩ | ⟨z1,j,z2⟩
    · exact .inl ⟨z1,λj a=>z2 (j + 1) (at_cons.mpr a)⟩
    · cases j with
      | zero=>exact absurd (at_zero.mp z2).1 nm
      | succ j=>exact .inr ⟨z1,j,at_cons.mp z2⟩
  · simpa using h.fr (j + 1) d' (by simpa using q)
  · simpa using h.ow (j + 1) d' (by simpa using q)
  · simpa using h.lk (j + 1) q' es (by simpa using q)
  · have:=h.ne (j + 1) (k + 1) b (at_cons.mpr a1) (at_cons.mpr a2)
    omega
theorem Hs.settle {v:V} {d:D} (h:Hs K H0 (some v :: σ) (.ow d :: δ) G H):∃ G',Hs K H0 σ δ G' H /\ Same G G' /\ Rep K G' d v:=by
  obtain ⟨G',h',s,p,e,r⟩:=h.freeze (i:=0) (d:=d) rfl;simp at e;subst e;exact ⟨G',h'.drop (l:=.fr d) (λz=>z),s,r⟩
theorem Hs.own0 {v:V} {d:D} (h:Hs K H0 (some v :: σ) (.ow d :: δ) G H) {i:Nat} {l:Sl} (e:δ[i]? = some l) (nm:¬ l.mine):Hs K H0 (σ.set i (some v)) (δ.set i (.ow d)) G H:=by
  have hl:σ.length = δ.length:=by simpa using h.len
  have hi:i < δ.length:=(List.getElem?_eq_some_iff.mp e).1;have his:i < σ.length:=by omega
  obtain ⟨p,e1,o⟩:=h.ow 0 d rfl;simp at e1;subst e1;have ai:∀ b,At (σ.set i (some (.ref p))) (δ.set i (.ow d)) i b ↔ b = p:=λb=>by
    constructor
    · intro a
      have:=(at_self a).2;cases this;rfl
    · rintro rfl
      exact ⟨_,List.getElem?_set_self hi,True.intro,List.getElem?_set_self his⟩
  have na:∀ b,¬ At σ δ i b:=λb ⟨l',q1,q2,_⟩=>by rw [e] at q1;cases q1;exact nm q2
  have tr:∀ b j,j ≠ i -> (At (σ.set i (some (.ref p))) (δ.set i (.ow d)) j b ↔ At (some (.ref p) :: σ) (.ow d :: δ) (j + 1) b):=λb j hj=>by
    rw [at_set hj,at_cons]
  have a0:At (some (.ref p) :: σ) (.ow d :: δ) 0 p:=at_zero.mpr ⟨True.intro,rfl⟩;refine ⟨by rw [List.length_set,List.length_set];exact hl,h.base,λb=>?_,λj d' q=>?_,λj d' q=>?_,λj q' es q=>?_,λj k b a1 a2=>?_⟩
  · rcases h.ex b with ⟨z1,z2⟩ | ⟨z1,j,z2⟩
    · refine .inl ⟨z1,λj a=>?_⟩
      by_cases hj:j = i
      · subst hj
        exact z2 0 (at_zero.mpr ⟨True.intro,by rw [(ai b).mp a]⟩)
      · exact z2 (j + 1) ((tr b j hj).mp a)
    · refine .inr ⟨z1,?_⟩
      cases j with
      | zero =>
        have w:=(at_zero.mp z2).2;cases w;exact ⟨i,(ai p).mpr rfl⟩
      | succ j =>
        have hj:j ≠ i:=λz=>by subst z;exact na b (at_cons.mp z2)
        exact ⟨j,(tr b j hj).mpr z2⟩
  · by_cases hj:j = i
    · subst hj
      rw [List.getElem?_set_self hi] at q;cases q
    · rw [List.getElem?_set_ne (Ne.symm hj)] at q ⊢
      simpa using h.fr (j + 1) d' (by simpa using q)
  · by_cases hj:j = i
    · subst hj
      rw [List.getElem?_set_self hi] at q;cases q;exact ⟨p,List.getElem?_set_self his,o⟩
    · rw [List.getElem?_set_ne (Ne.symm hj)] at q ⊢
      simpa using h.ow (j + 1) d' (by simpa using q)
  · by_cases hj:j = i
    · subst hj
      rw [List.getElem?_set_self hi] at q;cases q
    · rw [List.getElem?_set_ne (Ne.symm hj)] at q ⊢
      simpa using h.lk (j + 1) q' es (by simpa using q)
  · by_cases hj:j = i
    · subst hj
      have w:=(ai b).mp a1;subst w
      by_cases hk:k = j
      · exact hk.symm
      · have:=h.ne _ _ _ ((tr b k hk).mp a2) a0
        omega
    · by_cases hk:k = i
      · subst hk
        have w:=(ai b).mp a2;subst w;have:=h.ne _ _ _ ((tr b j hj).mp a1) a0;omega
      · have:=h.ne _ _ _ ((tr b j hj).mp a1) ((tr b k hk).mp a2)
        omega
theorem Hs.own {v:V} {d:D} (h:Hs K H0 (some v :: σ) (.ow d :: δ) G H) {i:Nat} {l:Sl} (e:δ[i]? = some l) (nl:l.locked = false):∃ G',Hs K H0 (σ.set i (some v)) (δ.set i (.ow d)) G' H /\ Same G G':=by
  cases l with
  | lk p d'=>cases nl
  | un=>exact ⟨G,h.own0 e (λz=>z),Same.refl _⟩
  | fr d'=>exact ⟨G,h.own0 e (λz=>z),Same.refl _⟩
  | ow d' =>
    have hi:i < δ.length:=(List.getElem?_eq_some_iff.mp e).1;obtain ⟨G',h',s,_⟩:=h.freeze (i:=i + 1) (d:=d') (by simpa using e);have h'':Hs K H0 (some v :: σ) (.ow d :: δ.set i (.fr d')) G' H:=h';have:=h''.own0 (i:=i) (List.getElem?_set_self hi) (λz=>z);rw [List.set_set] at this;exact ⟨G',this,s⟩
theorem Hs.laid (h:Hs K H0 σ δ G H) {p:Addr} {o:HO} (n:H p = none):Hs K H0 σ δ (upd G p o) (upd H p o) /\ Same G (upd G p o):=by
  have nat:∀ i,¬ At σ δ i p:=λi a=>by
    obtain ⟨o',e,_⟩:=h.soft a;rw [n] at e;cases e
  have gp:G p = none:=by
    rcases h.ex p with ⟨z,_⟩ | ⟨z,_⟩
    · exact z.trans n
    · exact z
  have s1:Same G (upd G p o):=λb u q=>by rw [upd_ne (ne_of_none q gp)];exact q
  have hne:∀ i b,At σ δ i b -> b ≠ p:=λi b a z=>by subst z;exact nat i a
  refine ⟨⟨h.len,h.base.trans s1,λb=>?_,λj d' q=>?_,λj d' q=>?_,λj q' es q=>?_,h.ne⟩,s1⟩
  · by_cases hb:b = p
    · subst hb;exact .inl ⟨by rw [upd_same,upd_same],nat⟩
    · rw [upd_ne hb,upd_ne hb];exact h.ex b
  · obtain ⟨v,w1,w2⟩:=h.fr j d' q
    exact ⟨v,w1,Rep.mono s1 _ _ w2⟩
  · obtain ⟨b,w1,w2⟩:=h.ow j d' q
    exact ⟨b,w1,w2.mono s1 (upd_ne (hne j b ⟨_,q,True.intro,w1⟩))⟩
  · obtain ⟨w1,w2⟩:=h.lk j q' es q
    exact ⟨w1,w2.mono s1 (upd_ne (hne j q' ⟨_,q,True.intro,w1⟩))⟩
theorem Hs.fresh (h:Hs K H0 σ δ G H) {p:Addr} {o:HO} {d:D} (n:H p = none) (w:Own K G (upd H p o) p d):Hs K H0 (some (.ref p) :: σ) (.ow d :: δ) G (upd H p o):=by
  have nat:∀ i,¬ At σ δ i p:=λi a=>by
    obtain ⟨o',e,_⟩:=h.soft a;rw [n] at e;cases e
  have gp:G p = none:=by
    rcases h.ex p with ⟨z,_⟩ | ⟨z,_⟩
    · exact z.trans n
    · exact z
  have hne:∀ i b,At σ δ i b -> b ≠ p:=λi b a z=>by subst z;exact nat i a
  have a0:∀ b,At (some (.ref p) :: σ) (.ow d :: δ) 0 b ↔ b = p:=λb=>by
    rw [at_zero]
    constructor
    · rintro ⟨_,z⟩;cases z;rfl
    · rintro rfl;exact ⟨True.intro,rfl⟩
  refine ⟨by simp [h.len],h.base,λb=>?_,λj d' q=>?_,λj d' q=>?_,λj q' es q=>?_,λj k b a1 a2=>?_⟩
  · by_cases hb:b = p
    · subst hb;exact .inr ⟨gp,0,(a0 b).mpr rfl⟩
    · rw [upd_ne hb]
      rcases h.ex b with ⟨z1,z2⟩ | ⟨z1,j,z2⟩
      · refine .inl ⟨z1,λj a=>?_⟩
        cases j with
        | zero=>exact hb ((a0 b).mp a)
        | succ j=>exact z2 j (at_cons.mp a)
      · exact .inr ⟨z1,j + 1,at_cons.mpr z2⟩
  · cases j with
    | zero=>simp at q
    | succ j=>simpa using h.fr j d' (by simpa using q)
  · cases j with
    | zero =>
      simp at q;subst q;exact ⟨p,rfl,w⟩
    | succ j =>
      obtain ⟨b,w1,w2⟩:=h.ow j d' (by simpa using q);exact ⟨b,by simpa using w1,w2.mono (Same.refl _) (upd_ne (hne j b ⟨.ow d',by simpa using q,True.intro,w1⟩))⟩
  · cases j with
    | zero=>simp at q
    | succ j =>
      obtain ⟨w1,w2⟩:=h.lk j q' es (by simpa using q);exact ⟨by simpa using w1,w2.mono (Same.refl _) (upd_ne (hne j q' ⟨.lk q' es,by simpa using q,True.intro,w1⟩))⟩
  · cases j with
    | zero =>
      cases k with
      | zero=>rfl
      | succ k=>exact absurd ((a0 b).mp a1) (hne k b (at_cons.mp a2))
    | succ j =>
      cases k with
      | zero=>exact absurd ((a0 b).mp a2) (hne j b (at_cons.mp a1))
      | succ k =>
        have:=h.ne j k b (at_cons.mp a1) (at_cons.mp a2);omega
theorem Hs.write (h:Hs K H0 σ δ G H) {i:Nat} {p:Addr} {d d':D} {o:HO} (e:δ[i]? = some (.ow d)) (e1:σ[i]? = some (some (.ref p))) (w:Own K G (upd H p o) p d'):Hs K H0 σ (δ.set i (.ow d')) G (upd H p o):=by
  have hi:i < δ.length:=(List.getElem?_eq_some_iff.mp e).1;have ai:At σ δ i p:=⟨_,e,True.intro,e1⟩;have gp:G p = none:=by
    rcases h.ex p with ⟨_,z⟩ | ⟨z,_⟩
    · exact absurd ai (z i)
    · exact z
  have ati:∀ b,At σ (δ.set i (.ow d')) i b ↔ b = p:=λb=>by
    constructor
    · rintro ⟨_,_,_,z⟩;rw [e1] at z;cases z;rfl
    · rintro rfl;exact ⟨_,List.getElem?_set_self hi,True.intro,e1⟩
  have aeq:∀ j b,At σ (δ.set i (.ow d')) j b ↔ At σ δ j b:=λj b=>by
    by_cases hj:j = i
    · subst hj
      rw [ati]
      constructor
      · rintro rfl;exact ai
      · rintro ⟨_,_,_,z⟩;rw [e1] at z;cases z;rfl
    · exact at_setD hj
  have hne:∀ j b,j ≠ i -> At σ δ j b -> b ≠ p:=λj b hj a z=>by subst z;exact hj (h.ne j i b a ai)
  refine ⟨by rw [List.length_set];exact h.len,h.base,λb=>?_,λj d2 q=>?_,λj d2 q=>?_,λj q' es q=>?_,λj k b a1 a2=>h.ne j k b ((aeq j b).mp a1) ((aeq k b).mp a2)⟩
  · by_cases hb:b = p
    · subst hb;exact .inr ⟨gp,i,(ati b).mpr rfl⟩
    · rw [upd_ne hb]
      rcases h.ex b with ⟨z1,z2⟩ | ⟨z1,j,z2⟩
      · exact .inl ⟨z1,λj a=>z2 j ((aeq j b).mp a)⟩
      · exact .inr ⟨z1,j,(aeq j b).mpr z2⟩
  · by_cases hj:j = i
    · subst hj;rw [List.getElem?_set_self hi] at q;cases q
    · rw [List.getElem?_set_ne (Ne.symm hj)] at q;exact h.fr j d2 q
  · by_cases hj:j = i
    · subst hj;rw [List.getElem?_set_self hi] at q;cases q
      exact ⟨p,e1,w⟩
    · rw [List.getElem?_set_ne (Ne.symm hj)] at q
      obtain ⟨b,w1,w2⟩:=h.ow j d2 q;exact ⟨b,w1,w2.mono (Same.refl _) (upd_ne (hne j b hj ⟨_,q,True.intro,w1⟩))⟩
  · by_cases hj:j = i
    · subst hj;rw [List.getElem?_set_self hi] at q;cases q
    · rw [List.getElem?_set_ne (Ne.symm hj)] at q
      obtain ⟨w1,w2⟩:=h.lk j q' es q;exact ⟨w1,w2.mono (Same.refl _) (upd_ne (hne j q' hj ⟨_,q,True.intro,w1⟩))⟩
theorem Hs.writeL (h:Hs K H0 σ δ G H) {i:Nat} {p:Addr} {d d':D} {o:HO} (e:δ[i]? = some (.lk p d)) (e1:σ[i]? = some (some (.ref p))) (w:Own K G (upd H p o) p d'):Hs K H0 σ (δ.set i (.lk p d')) G (upd H p o):=by
  have hi:i < δ.length:=(List.getElem?_eq_some_iff.mp e).1;have ai:At σ δ i p:=⟨_,e,True.intro,e1⟩;have gp:G p = none:=by
    rcases h.ex p with ⟨_,z⟩ | ⟨z,_⟩
    · exact absurd ai (z i)
    · exact z
  have ati:∀ b,At σ (δ.set i (.lk p d')) i b ↔ b = p:=λb=>by
    constructor
    · rintro ⟨_,_,_,z⟩;rw [e1] at z;cases z;rfl
    · rintro rfl;exact ⟨_,List.getElem?_set_self hi,True.intro,e1⟩
  have aeq:∀ j b,At σ (δ.set i (.lk p d')) j b ↔ At σ δ j b:=λj b=>by
    by_cases hj:j = i
    · subst hj
      rw [ati]
      constructor
      · rintro rfl;exact ai
      · rintro ⟨_,_,_,z⟩;rw [e1] at z;cases z;rfl
    · exact at_setD hj
  have hne:∀ j b,j ≠ i -> At σ δ j b -> b ≠ p:=λj b hj a z=>by subst z;exact hj (h.ne j i b a ai)
  refine ⟨by rw [List.length_set];exact h.len,h.base,λb=>?_,λj d2 q=>?_,λj d2 q=>?_,λj q' es q=>?_,λj k b a1 a2=>h.ne j k b ((aeq j b).mp a1) ((aeq k b).mp a2)⟩
  · by_cases hb:b = p
    · subst hb;exact .inr ⟨gp,i,(ati b).mpr rfl⟩
    · rw [upd_ne hb]
      rcases h.ex b with ⟨z1,z2⟩ | ⟨z1,j,z2⟩
      · exact .inl ⟨z1,λj a=>z2 j ((aeq j b).mp a)⟩
      · exact .inr ⟨z1,j,(aeq j b).mpr z2⟩
  · by_cases hj:j = i
    · subst hj;rw [List.getElem?_set_self hi] at q;cases q
    · rw [List.getElem?_set_ne (Ne.symm hj)] at q;exact h.fr j d2 q
  · by_cases hj:j = i
    · subst hj;rw [List.getElem?_set_self hi] at q;cases q
    · rw [List.getElem?_set_ne (Ne.symm hj)] at q
      obtain ⟨b,w1,w2⟩:=h.ow j d2 q;exact ⟨b,w1,w2.mono (Same.refl _) (upd_ne (hne j b hj ⟨_,q,True.intro,w1⟩))⟩
  · by_cases hj:j = i
    · subst hj;rw [List.getElem?_set_self hi] at q;cases q
      exact ⟨e1,w⟩
    · rw [List.getElem?_set_ne (Ne.symm hj)] at q
      obtain ⟨w1,w2⟩:=h.lk j q' es q;exact ⟨w1,w2.mono (Same.refl _) (upd_ne (hne j q' hj ⟨_,q,True.intro,w1⟩))⟩
inductive Fg:List Sl -> List Sl -> Prop where
  | nil:Fg [] []
  | same {l:Sl} {a b:List Sl} (h:Fg a b):Fg (l :: a) (l :: b)
  | un {d:D} {a b:List Sl} (h:Fg a b):Fg (.fr d :: a) (.un :: b)
theorem Fg.refl:∀ a:List Sl,Fg a a
  | []=>.nil
  | _ :: a=>.same (Fg.refl a)
theorem Fg.get {a b:List Sl} (f:Fg a b):∀ i:Nat,b[i]? = a[i]? \/ (b[i]? = some .un /\ ∃ d,a[i]? = some (.fr d)):=by
  induction f with
  | nil=>exact λi=>.inl rfl
  | same h ih =>
    intro i
    cases i with
    | zero=>exact .inl rfl
    | succ i=>simpa using ih i
  | @un d a b h ih =>
    intro i
    cases i with
    | zero=>exact .inr ⟨rfl,d,rfl⟩
    | succ i=>simpa using ih i
theorem Fg.length {a b:List Sl} (f:Fg a b):a.length = b.length:=by
  induction f with
  | nil=>rfl
  | same _ ih=>simp [ih]
  | un _ ih=>simp [ih]
theorem Hs.forget {δ':List Sl} (h:Hs K H0 σ δ G H) (f:Fg δ δ'):Hs K H0 σ δ' G H:=by
  have ae:∀ i p,At σ δ' i p ↔ At σ δ i p:=λi p=>by
    unfold At
    rcases f.get i with e | ⟨e1,d,e2⟩
    · rw [e]
    · rw [e1,e2]
      constructor
      · rintro ⟨l,z,m,_⟩;cases z;exact m.elim
      · rintro ⟨l,z,m,_⟩;cases z;exact m.elim
  refine ⟨h.len.trans f.length,h.base,λb=>?_,λi d e=>?_,λi d e=>?_,λi p d e=>?_,λi j p a1 a2=>h.ne i j p ((ae i p).mp a1) ((ae j p).mp a2)⟩
  · rcases h.ex b with ⟨z1,z2⟩ | ⟨z1,i,z2⟩
    · exact .inl ⟨z1,λi a=>z2 i ((ae i b).mp a)⟩
    · exact .inr ⟨z1,i,(ae i b).mpr z2⟩
  · rcases f.get i with z | ⟨z,_⟩
    · exact h.fr i d (z ▸ e)
    · rw [z] at e;cases e
  · rcases f.get i with z | ⟨z,_⟩
    · exact h.ow i d (z ▸ e)
    · rw [z] at e;cases e
  · rcases f.get i with z | ⟨z,_⟩
    · exact h.lk i p d (z ▸ e)
    · rw [z] at e;cases e
end
def RepB (K:PySem.W.Frag) (G H:Hp):D -> V -> Prop
  | .non,v=>v = .non
  | .bl b,v=>v = .bl b
  | .int i,v=>v = .int i
  | .str x,v=>v = .str x
  | .adr p,v=>v = .ref p
  | .tup xs,v=>∃ a vs,v = .ref a /\ H a = some (.tup vs) /\ Reps K G xs vs
  | .lst xs,v=>∃ a vs,v = .ref a /\ SqL K H a vs /\ Reps K G xs vs
  | .dK kvs,v=>∃ a kws,v = .ref a /\ Rd H a (.dK kws) /\ RepK K G kvs kws
  | .dT kvs,v=>∃ a kws,v = .ref a /\ Rd H a (.dT kws) /\ RepT K G kvs kws
section
variable {K:PySem.W.Frag} {H0:Hp} {σ:L2.St} {δ:List Sl} {G G' H H':Hp} {d:D} {v:V}
theorem Rep.b (s:Same G H) (h:Rep K G d v):RepB K G H d v:=by
  cases d with
  | tup xs=>simp only [Rep] at h;obtain ⟨a,vs,h1,h2,h3⟩:=h;exact ⟨a,vs,h1,s _ _ h2,h3⟩
  | lst xs=>simp only [Rep] at h;obtain ⟨a,vs,h1,h2,h3⟩:=h;exact ⟨a,vs,h1,s.seq h2,h3⟩
  | dK xs=>simp only [Rep] at h;obtain ⟨a,vs,h1,h2,h3⟩:=h;exact ⟨a,vs,h1,same_rd s h2,h3⟩
  | dT xs=>simp only [Rep] at h;obtain ⟨a,vs,h1,h2,h3⟩:=h;exact ⟨a,vs,h1,same_rd s h2,h3⟩
  | _=>simp only [Rep] at h;exact h
theorem RepB.mono (h:RepB K G H d v) (g:Same G G') (s:Same H H'):RepB K G' H' d v:=by
  cases d with
  | tup xs=>obtain ⟨a,vs,h1,h2,h3⟩:=h;exact ⟨a,vs,h1,s _ _ h2,Reps.mono g _ _ h3⟩
  | lst xs=>obtain ⟨a,vs,h1,h2,h3⟩:=h;exact ⟨a,vs,h1,s.seq h2,Reps.mono g _ _ h3⟩
  | dK xs=>obtain ⟨a,vs,h1,h2,h3⟩:=h;exact ⟨a,vs,h1,same_rd s h2,RepK.mono g _ _ h3⟩
  | dT xs=>obtain ⟨a,vs,h1,h2,h3⟩:=h;exact ⟨a,vs,h1,same_rd s h2,RepT.mono g _ _ h3⟩
  | _=>exact h
theorem Own.b {p:Addr} (h:Own K G H p d):RepB K G H d (.ref p):=by
  cases d with
  | lst ds=>obtain ⟨vs,h1,h2⟩:=h;exact ⟨p,vs,rfl,SqL.of h1,h2⟩
  | dK ds=>obtain ⟨vs,h1,h2⟩:=h;exact ⟨p,vs,rfl,.inl h1,h2⟩
  | dT ds=>obtain ⟨vs,h1,h2⟩:=h;exact ⟨p,vs,rfl,.inl h1,h2⟩
  | _=>exact h.elim
theorem RepB.all (h:RepB K G H d v) (s:Same G H):Rep K H d v:=by
  cases d with
  | tup xs=>obtain ⟨a,vs,h1,h2,h3⟩:=h;simp only [Rep];exact ⟨a,vs,h1,h2,Reps.mono s _ _ h3⟩
  | lst xs=>obtain ⟨a,vs,h1,h2,h3⟩:=h;simp only [Rep];exact ⟨a,vs,h1,h2,Reps.mono s _ _ h3⟩
  | dK xs=>obtain ⟨a,vs,h1,h2,h3⟩:=h;simp only [Rep];exact ⟨a,vs,h1,h2,RepK.mono s _ _ h3⟩
  | dT xs=>obtain ⟨a,vs,h1,h2,h3⟩:=h;simp only [Rep];exact ⟨a,vs,h1,h2,RepT.mono s _ _ h3⟩
  | _=>simp only [Rep];exact h
end
structure Nx (K:PySem.W.Frag) (H0:Hp) (σ:L2.St) (δ:List Sl) (G H G' H':Hp):Prop where
  hs:Hs K H0 σ δ G' H'
  g:Same G G'
  h:Same H H'
theorem Nx.refl {K:PySem.W.Frag} {H0:Hp} {σ:L2.St} {δ:List Sl} {G H:Hp} (h:Hs K H0 σ δ G H):Nx K H0 σ δ G H G H:=⟨h,Same.refl _,Same.refl _⟩
theorem Nx.trans {K:PySem.W.Frag} {H0:Hp} {σ:L2.St} {δ:List Sl} {G H G' H' G2 H2:Hp} (a:Nx K H0 σ δ G H G' H') (b:Nx K H0 σ δ G' H' G2 H2):Nx K H0 σ δ G H G2 H2:=⟨b.hs,a.g.trans b.g,a.h.trans b.h⟩
abbrev RE:=List Sl -> (D -> Prop) -> Prop
abbrev RT:=List Sl -> (Bool -> Prop) -> Prop
abbrev RA:=List Sl -> (List D -> Prop) -> Prop
def liftE (K:PySem.W.Frag) (H0:Hp) (t:RE):TE:=λσ H Q=>∃ δ G Qd,Hs K H0 σ δ G H /\ t δ Qd /\ ∀ v H' G' d,Nx K H0 σ δ G H G' H' -> Rep K G' d v -> Qd d -> Q v H'
def liftB (K:PySem.W.Frag) (H0:Hp) (t:RE):TE:=λσ H Q=>∃ δ G Qd,Hs K H0 σ δ G H /\ t δ Qd /\ ∀ v H' G' d,Nx K H0 σ δ G H G' H' -> RepB K G' H' d v -> Qd d -> Q v H'
def liftN (K:PySem.W.Frag) (H0:Hp) (t:RE):TE:=λσ H Q=>∃ δ G Qd,Hs K H0 σ δ G H /\ t δ Qd /\ ∀ v H' G' d,Hs K H0 (some v :: σ) (.ow d :: δ) G' H' -> Same G G' -> Same H H' -> Qd d -> Q v H'
def liftT (K:PySem.W.Frag) (H0:Hp) (t:RT):TT:=λσ H Q=>∃ δ G Qd,Hs K H0 σ δ G H /\ t δ Qd /\ ∀ b H' G',Nx K H0 σ δ G H G' H' -> Qd b -> Q b H'
def liftA (K:PySem.W.Frag) (H0:Hp) (t:RA):TA:=λσ H Q=>∃ δ G Qd,Hs K H0 σ δ G H /\ t δ Qd /\ ∀ vs H' G' ds,Nx K H0 σ δ G H G' H' -> Reps K G' ds vs -> Qd ds -> Q vs H'
def PE2 (X:Cx) (H0:Hp) (e:Expr) (t:RE):Prop:=PE X e (liftE X.K H0 t)
def PB2 (X:Cx) (H0:Hp) (e:Expr) (t:RE):Prop:=PE X e (liftB X.K H0 t)
def PN2 (X:Cx) (H0:Hp) (e:Expr) (t:RE):Prop:=PE X e (liftN X.K H0 t)
def PT2 (X:Cx) (H0:Hp) (e:Expr) (t:RT):Prop:=PT X e (liftT X.K H0 t)
def PW2 (X:Cx) (H0:Hp) (e:Expr) (t:RT):Prop:=PW X e (liftT X.K H0 t)
def PA2 (X:Cx) (H0:Hp) (es:List Expr) (t:RA):Prop:=PA X es (liftA X.K H0 t)
theorem PE.weak {X:Cx} {e:Expr} {t t':TE} (h:PE X e t) (k:∀ σ H Q,t' σ H Q -> t σ H Q):PE X e t':=λpins s σ H Q I hw=>h pins s σ H Q I (k σ H Q hw)
theorem PT.weak {X:Cx} {e:Expr} {t t':TT} (h:PT X e t) (k:∀ σ H Q,t' σ H Q -> t σ H Q):PT X e t':=λpins s σ H Q I hw=>h pins s σ H Q I (k σ H Q hw)
theorem PW.weak {X:Cx} {e:Expr} {t t':TT} (h:PW X e t) (k:∀ σ H Q,t' σ H Q -> t σ H Q):PW X e t':=λwhole pins s σ H Q I hw=>h whole pins s σ H Q I (k σ H Q hw)
theorem PA.weak {X:Cx} {e:List Expr} {t t':TA} (h:PA X e t) (k:∀ σ H Q,t' σ H Q -> t σ H Q):PA X e t':=λpos pins s σ H Q I hw=>h pos pins s σ H Q I (k σ H Q hw)
theorem PS.weak {X:Cx} {e:Stmt} {t t':TS} (h:PS X e t) (k:∀ D σ H,t' D σ H -> t D σ H):PS X e t':=λpins s σ H Q I hw=>h pins s σ H Q I (k Q σ H hw)
theorem PSs.weak {X:Cx} {e:List Stmt} {t t':TS} (h:PSs X e t) (k:∀ D σ H,t' D σ H -> t D σ H):PSs X e t':=λpins s σ H Q I hw=>h pins s σ H Q I (k Q σ H hw)
section
variable {X:Cx} {H0:Hp} {e a b c:Expr} {t ta tb tc:RE} {pos:Pos}
theorem PE2.bo (h:PE2 X H0 e t):PB2 X H0 e t:=PE.weak h λσ H Q ⟨δ,G,Qd,hs,ht,k⟩=>⟨δ,G,Qd,hs,ht,λv H' G' d n r q=>k v H' G' d n (Rep.b n.hs.sub r) q⟩
theorem PN2.fx (h:PN2 X H0 e t):PE2 X H0 e t:=PE.weak h λσ H Q ⟨δ,G,Qd,hs,ht,k⟩=>⟨δ,G,Qd,hs,ht,λv H' G' d n sg sh q=>by
  obtain ⟨G2,n2,s2,r2⟩:=n.settle
  exact k v H' G2 d ⟨n2,sg.trans s2,sh⟩ r2 q⟩
theorem PN2.bo (h:PN2 X H0 e t):PB2 X H0 e t:=h.fx.bo
def rC (d:D) (_:List Sl) (Q:D -> Prop):Prop:=Q d
def rVar (i:Nat) (δ:List Sl) (Q:D -> Prop):Prop:=match δ[i]? with
  | some (.fr d)=>Q d
  | _=>False
def rVarB (i:Nat) (δ:List Sl) (Q:D -> Prop):Prop:=match δ[i]? with
  | some (.fr d)=>Q d
  | some (.ow d)=>Q d
  | some (.lk _ d)=>Q d
  | _=>False
theorem e_var (i:Nat) {x:Str} {pos:Pos} (hN:X.N[i]? = some x:=by rfl) (hv:Vis X.env.scope x:=by first | exact Or.inl rfl | exact Or.inr (Or.inl rfl) | exact Or.inr (Or.inr rfl)) (hd:(x == ("__debug__" : Str)) = false:=by decide)
 (hcd:(x == ("__classdict__" : Str)) = false:=by decide):PE2 X H0 (.Name x pos) (rVar i):=PE.weak (pe_var hN hv hd hcd) λσ H Q ⟨δ,G,Qd,hs,ht,k⟩=>by
  unfold rVar at ht
  split at ht
  · rename_i d e
    obtain ⟨v,e1,r⟩:=hs.fr i d e;exact ⟨v,e1,k v H G d (Nx.refl hs) r ht⟩
  · exact ht.elim
theorem b_var (i:Nat) {x:Str} {pos:Pos} (hN:X.N[i]? = some x:=by rfl) (hv:Vis X.env.scope x:=by first | exact Or.inl rfl | exact Or.inr (Or.inl rfl) | exact Or.inr (Or.inr rfl)) (hd:(x == ("__debug__" : Str)) = false:=by decide)
 (hcd:(x == ("__classdict__" : Str)) = false:=by decide):PB2 X H0 (.Name x pos) (rVarB i):=PE.weak (pe_var hN hv hd hcd) λσ H Q ⟨δ,G,Qd,hs,ht,k⟩=>by
  unfold rVarB at ht
  split at ht
  · rename_i d e
    obtain ⟨v,e1,r⟩:=hs.fr i d e;exact ⟨v,e1,k v H G d (Nx.refl hs) (Rep.b hs.sub r) ht⟩
  · rename_i d e
    obtain ⟨p,e1,o⟩:=hs.ow i d e;exact ⟨_,e1,k _ H G d (Nx.refl hs) o.b ht⟩
  · rename_i p d e
    obtain ⟨e1,o⟩:=hs.lk i p d e;exact ⟨_,e1,k _ H G d (Nx.refl hs) o.b ht⟩
  · exact ht.elim
theorem cst {d:D} {v:V} (h:PE X e (tC v)) (r:∀ G,Rep X.K G d v):PE2 X H0 e (rC d):=PE.weak h λσ H Q ⟨δ,G,Qd,hs,ht,k⟩=>k v H G d (Nx.refl hs) (r G) ht
theorem e_int {i:Int} {j:Nat} {pos:Pos}:PE2 X H0 (.Constant (.int i) j pos) (rC (.int i)):=cst pe_int λ_=>by simp only [Rep]
theorem e_bl {b:Bool} {j:Nat} {pos:Pos}:PE2 X H0 (.Constant (.bool b) j pos) (rC (.bl b)):=cst pe_bl λ_=>by simp only [Rep]
theorem e_str {x:Str} {j:Nat} {pos:Pos}:PE2 X H0 (.Constant (.str x) j pos) (rC (.str x)):=cst pe_str λ_=>by simp only [Rep]
def Lf2 (K:PySem.W.Frag) (r:R2) (r2:D -> D -> (D -> Prop) -> Prop):Prop :=
  ∀ (H0:Hp) (σ:L2.St) (δ:List Sl) (G H:Hp) (x y:V) (dx dy:D) (Qd:D -> Prop) (Q:VK),Hs K H0 σ δ G H -> RepB K G H dx x -> RepB K G H dy y -> r2 dx dy Qd ->
    (∀ v H' G' d,Nx K H0 σ δ G H G' H' -> Rep K G' d v -> Qd d -> Q v H') -> r x y H Q
def rOp (r2:D -> D -> (D -> Prop) -> Prop) (ta tb:RE) (δ:List Sl) (Q:D -> Prop):Prop:=ta δ λx=>tb δ λy=>r2 x y Q
theorem lift_op {r:R2} {r2:D -> D -> (D -> Prop) -> Prop} (lf:Lf2 X.K r r2):∀ σ H Q,liftE X.K H0 (rOp r2 ta tb) σ H Q -> tOp r (liftB X.K H0 ta) (liftB X.K H0 tb) σ H Q :=
  λσ H Q ⟨δ,G,Qd,hs,ht,k⟩=>⟨δ,G,_,hs,ht,λv H1 G1 d1 n1 r1 q1=>⟨δ,G1,_,n1.hs,q1,λv2 H2 G2 d2 n2 r2 q2 =>
    lf H0 σ δ G2 H2 v v2 d1 d2 Qd Q n2.hs (r1.mono n2.g n2.h) r2 q2 λv3 H3 G3 d3 n3 r3 q3=>k v3 H3 G3 d3 ((n1.trans n2).trans n3) r3 q3⟩⟩
theorem e_op {op:Operator} {r:R2} {r2:D -> D -> (D -> Prop) -> Prop} (ho:OpR X (binaryOp op) r) (lf:Lf2 X.K r r2) (ha:PB2 X H0 a ta) (hb:PB2 X H0 b tb):PE2 X H0 (.BinOp a op b pos) (rOp r2 ta tb) :=
  PE.weak (pe_op ho ha hb) (lift_op lf)
theorem e_cmp {op:CmpOp} {r:R2} {r2:D -> D -> (D -> Prop) -> Prop} (ho:OpR X (compareOp op) r) (lf:Lf2 X.K r r2) (ha:PB2 X H0 a ta) (hb:PB2 X H0 b tb) (hm:behindInMarks op b = false):PE2 X H0 (.Compare a [op] [b] pos) (rOp r2 ta tb) :=
  PE.weak (pe_cmpR ho ha hb hm) (lift_op lf)
def rTest (t:RE) (δ:List Sl) (Q:Bool -> Prop):Prop:=t δ λd=>match d with
  | .bl k=>Q k
  | _=>False
theorem lift_test {t':TE} (h:∀ σ H Q,liftE X.K H0 t σ H Q -> t' σ H Q):∀ σ H Q,liftT X.K H0 (rTest t) σ H Q -> tTest t' σ H Q:=λσ H Q ⟨δ,G,Qd,hs,ht,k⟩=>h σ H _ ⟨δ,G,_,hs,ht,λv H' G' d n r q=>by
  cases d with
  | bl x=>exact ⟨x,by simpa only [Rep] using r,k x H' G' n q⟩
  | _=>exact q.elim⟩
theorem t_cmp {op:CmpOp} {r:R2} {r2:D -> D -> (D -> Prop) -> Prop} (ho:OpR X (compareOp op) r) (lf:Lf2 X.K r r2) (ha:PB2 X H0 a ta) (hb:PB2 X H0 b tb) (hm:behindInMarks op b = false):PT2 X H0 (.Compare a [op] [b] pos) (rTest (rOp r2 ta tb)) :=
  PT.weak (pt_cmpR ho ha hb hm) (lift_test (lift_op lf))
theorem lift_chain {r r':R2} {r2 r2':D -> D -> (D -> Prop) -> Prop} (lf:Lf2 X.K r r2) (lf':Lf2 X.K r' r2'):∀ σ H Q,liftE X.K H0 (λδ Q=>ta δ λx=>tb δ λy=>r2 x y λz=>match z with
      | .bl k=>if k = true then tc δ λu=>r2' y u Q else Q (.bl false)
      | _=>False) σ H Q -> tChain r r' (liftB X.K H0 ta) (liftB X.K H0 tb) (liftB X.K H0 tc) σ H Q :=
  λσ H Q ⟨δ,G,Qd,hs,ht,k⟩=>⟨δ,G,_,hs,ht,λv H1 G1 d1 n1 r1 q1=>⟨δ,G1,_,n1.hs,q1,λv2 H2 G2 d2 n2 r2 q2 =>
    lf H0 σ δ G2 H2 v v2 d1 d2 _ _ n2.hs (r1.mono n2.g n2.h) r2 q2 λv3 H3 G3 d3 n3 r3 q3=>by
      cases d3 with
      | bl z =>
        refine ⟨z,by simpa only [Rep] using r3,?_⟩
        cases z with
        | true =>
          rw [if_pos rfl];replace q3:tc δ λu=>r2' d2 u Qd:=q3
          exact ⟨δ,G3,_,n3.hs,q3,λv4 H4 G4 d4 n4 r4 q4=>lf' H0 σ δ G4 H4 v2 v4 d2 d4 Qd Q n4.hs (r2.mono (n3.g.trans n4.g) (n3.h.trans n4.h)) r4 q4 λv5 H5 G5 d5 n5 r5 q5=>k v5 H5 G5 d5 ((((n1.trans n2).trans n3).trans n4).trans n5) r5 q5⟩
        | false =>
          rw [if_neg Bool.false_ne_true];replace q3:Qd (.bl false):=q3;exact k _ H3 G3 _ ((n1.trans n2).trans n3) (by simp only [Rep]) q3
      | _=>exact q3.elim⟩⟩
def rChain (r2 r2':D -> D -> (D -> Prop) -> Prop) (ta tb tc:RE) (δ:List Sl) (Q:D -> Prop):Prop:=ta δ λx=>tb δ λy=>r2 x y λz=>match z with
      | .bl k=>if k = true then tc δ λu=>r2' y u Q else Q (.bl false)
      | _=>False
theorem t_chain {op op':CmpOp} {r r':R2} {r2 r2':D -> D -> (D -> Prop) -> Prop} (ho:OpR X (compareOp op) r) (ho':OpR X (compareOp op') r') (lf:Lf2 X.K r r2) (lf':Lf2 X.K r' r2') (ha:PB2 X H0 a ta) (hb:PB2 X H0 b tb) (hc:PB2 X H0 c tc)
 (hm:lastMarks [op,op'] [b,c] = false:=by with_unfolding_all rfl):PT2 X H0 (.Compare a [op,op'] [b,c] pos) (rTest (rChain r2 r2' ta tb tc)):=PT.weak (pt_chain ho ho' ha hb hc hm) (lift_test (lift_chain lf lf'))
def dI (C:Int -> Int -> Prop) (g:Int -> Int -> D) (x y:D) (Q:D -> Prop):Prop:=match x,y with
  | .int i,.int j=>C i j /\ Q (g i j)
  | _,_=>False
def dI0 (g:Int -> Int -> D) (x y:D) (Q:D -> Prop):Prop:=match x,y with
  | .int i,.int j=>Q (g i j)
  | _,_=>False
theorem lf_i {K:PySem.W.Frag} {C:Int -> Int -> Prop} {g:Int -> Int -> V} {g2:Int -> Int -> D} (hg:∀ G i j,Rep K G (g2 i j) (g i j)):Lf2 K (rI C g) (dI C g2):=λH0 σ δ G H x y dx dy Qd Q hs rx ry h k=>by
  cases dx <;> cases dy <;> first | exact h.elim | skip
  rename_i i j;obtain rfl:x = .int i:=rx;obtain rfl:y = .int j:=ry;exact ⟨i,j,rfl,rfl,h.1,k _ H G _ (Nx.refl hs) (hg G i j) h.2⟩
theorem lf_i0 {K:PySem.W.Frag} {g:Int -> Int -> V} {g2:Int -> Int -> D} (hg:∀ G i j,Rep K G (g2 i j) (g i j)):Lf2 K (rI0 g) (dI0 g2):=λH0 σ δ G H x y dx dy Qd Q hs rx ry h k=>by
  cases dx <;> cases dy <;> first | exact h.elim | skip
  rename_i i j;obtain rfl:x = .int i:=rx;obtain rfl:y = .int j:=ry;exact ⟨i,j,rfl,rfl,k _ H G _ (Nx.refl hs) (hg G i j) h⟩
theorem lf_int {K:PySem.W.Frag} {C:Int -> Int -> Prop} (g:Int -> Int -> Int):Lf2 K (rI C λi j=>.int (g i j)) (dI C λi j=>.int (g i j)):=lf_i λ_ _ _=>by simp only [Rep]
theorem lf_int0 {K:PySem.W.Frag} (g:Int -> Int -> Int):Lf2 K (rI0 λi j=>.int (g i j)) (dI0 λi j=>.int (g i j)):=lf_i0 λ_ _ _=>by simp only [Rep]
theorem lf_bl0 {K:PySem.W.Frag} (g:Int -> Int -> Bool):Lf2 K (rI0 λi j=>.bl (g i j)) (dI0 λi j=>.bl (g i j)):=lf_i0 λ_ _ _=>by simp only [Rep]
def CDv (i j:Int):Prop:=0 < j /\ j < 2 ^ 200
theorem op_fdiv2:OpR X (binaryOp .FloorDiv) (rI CDv λi j=>.int (i / j)):=opI λi j _ _ _ _ _ hc q=>by
  have e:i.fdiv j = i / j:=Int.fdiv_eq_ediv_of_nonneg i (Int.le_of_lt hc.1);have hl:j.natAbs.log2 < 200:=by
    have h0:j.natAbs ≠ 0:=by have:=hc.1;omega
    refine (Nat.log2_lt h0).mpr ?_;have:=hc.2;have h1:((j.natAbs:Nat):Int) = j:=by have:=hc.1;omega
    have h2:((j.natAbs:Nat):Int) < ((2 ^ 200:Nat):Int):=by rw [h1];exact this
    exact Int.ofNat_lt.mp h2
  refine floordiv_int (Int.ne_of_gt hc.1) ?_ (.inl (PyProof.noPylong_of_log2 (by omega)));rw [e];exact q
theorem e_add (ha:PB2 X H0 a ta) (hb:PB2 X H0 b tb):PE2 X H0 (.BinOp a .Add b pos) (rOp (dI0 λi j=>.int (i + j)) ta tb):=e_op op_add (lf_int0 _) ha hb
theorem e_sub (ha:PB2 X H0 a ta) (hb:PB2 X H0 b tb):PE2 X H0 (.BinOp a .Sub b pos) (rOp (dI0 λi j=>.int (i - j)) ta tb):=e_op op_sub (lf_int0 _) ha hb
theorem e_mul (ha:PB2 X H0 a ta) (hb:PB2 X H0 b tb):PE2 X H0 (.BinOp a .Mult b pos) (rOp (dI CMul λi j=>.int (i * j)) ta tb):=e_op op_mul (lf_int _) ha hb
theorem e_fdiv (ha:PB2 X H0 a ta) (hb:PB2 X H0 b tb):PE2 X H0 (.BinOp a .FloorDiv b pos) (rOp (dI CDv λi j=>.int (i / j)) ta tb):=e_op op_fdiv2 (lf_int _) ha hb
theorem e_mod (ha:PB2 X H0 a ta) (hb:PB2 X H0 b tb):PE2 X H0 (.BinOp a .Mod b pos) (rOp (dI (λ_ j=>0 < j) λi j=>.int (i % j)) ta tb):=e_op op_mod (lf_int _) ha hb
theorem e_pow (ha:PB2 X H0 a ta) (hb:PB2 X H0 b tb):PE2 X H0 (.BinOp a .Pow b pos) (rOp (dI CPow λi j=>.int (i ^ j.toNat)) ta tb):=e_op op_pow (lf_int _) ha hb
abbrev dLt:=dI0 λi j=>.bl (decide (i < j))
abbrev dLe:=dI0 λi j=>.bl (decide (i <= j))
abbrev dGe:=dI0 λi j=>.bl (decide (j <= i))
theorem lf_lt {K:PySem.W.Frag}:Lf2 K (rI0 λi j=>.bl (decide (i < j))) dLt:=lf_bl0 _
theorem lf_le {K:PySem.W.Frag}:Lf2 K (rI0 λi j=>.bl (decide (i <= j))) dLe:=lf_bl0 _
theorem lf_ge {K:PySem.W.Frag}:Lf2 K (rI0 λi j=>.bl (decide (j <= i))) dGe:=lf_bl0 _
def dEqS (neg:Bool) (x y:D) (Q:D -> Prop):Prop:=match x,y with
  | .int i,.int j=>Q (.bl (neg != decide (i = j)))
  | .bl i,.bl j=>Q (.bl (neg != decide (i = j)))
  | .str i,.str j=>Q (.bl (neg != decide (i = j)))
  | _,_=>False
theorem dec_inj {α β:Type} [DecidableEq α] [DecidableEq β] {f:α -> β} (hf:∀ a b,f a = f b -> a = b) (a b:α):decide (f a = f b) = decide (a = b):=by
  by_cases h:a = b
  · subst h;simp
  · rw [decide_eq_false h,decide_eq_false λz=>h (hf _ _ z)]
theorem lf_eqS {K:PySem.W.Frag}:Lf2 K rEq (dEqS false):=λH0 σ δ G H x y dx dy Qd Q hs rx ry h k=>by
  cases dx <;> cases dy <;> first | exact h.elim | skip
  · rename_i i j
    obtain rfl:x = .bl i:=rx;obtain rfl:y = .bl j:=ry;exact ⟨rfl,k _ H G _ (Nx.refl hs) (by simp only [Rep];rw [dec_inj (f:=V.bl) (λa b z=>by cases z;rfl)];simp) h⟩
  · rename_i i j
    obtain rfl:x = .int i:=rx;obtain rfl:y = .int j:=ry;exact ⟨rfl,k _ H G _ (Nx.refl hs) (by simp only [Rep];rw [dec_inj (f:=V.int) (λa b z=>by cases z;rfl)];simp) h⟩
  · rename_i i j
    obtain rfl:x = .str i:=rx;obtain rfl:y = .str j:=ry;exact ⟨rfl,k _ H G _ (Nx.refl hs) (by simp only [Rep];rw [dec_inj (f:=V.str) (λa b z=>by cases z;rfl)];simp) h⟩
theorem lf_neS {K:PySem.W.Frag}:Lf2 K rNe (dEqS true):=λH0 σ δ G H x y dx dy Qd Q hs rx ry h k=>by
  cases dx <;> cases dy <;> first | exact h.elim | skip
  · rename_i i j
    obtain rfl:x = .bl i:=rx;obtain rfl:y = .bl j:=ry;exact ⟨rfl,k _ H G _ (Nx.refl hs) (by simp only [Rep];rw [dec_inj (f:=V.bl) (λa b z=>by cases z;rfl)];simp) h⟩
  · rename_i i j
    obtain rfl:x = .int i:=rx;obtain rfl:y = .int j:=ry;exact ⟨rfl,k _ H G _ (Nx.refl hs) (by simp only [Rep];rw [dec_inj (f:=V.int) (λa b z=>by cases z;rfl)];simp) h⟩
  · rename_i i j
    obtain rfl:x = .str i:=rx;obtain rfl:y = .str j:=ry;exact ⟨rfl,k _ H G _ (Nx.refl hs) (by simp only [Rep];rw [dec_inj (f:=V.str) (λa b z=>by cases z;rfl)];simp) h⟩
end
structure Two (b:Bool) (A B:Prop):Prop where
  yes:b = true -> A
  no:b = false -> B
theorem Two.t {A B:Prop} (h:A):Two true A B:=⟨(λ_=>h),(λz=>by cases z)⟩
theorem Two.f {A B:Prop} (h:B):Two false A B:=⟨(λz=>by cases z),(λ_=>h)⟩
theorem Two.dec {p:Prop} [Decidable p] {A B:Prop} (h1:p -> A) (h2:¬ p -> B):Two (decide p) A B:=⟨λz=>h1 (of_decide_eq_true z),λz=>h2 (of_decide_eq_false z)⟩
section
variable {X:Cx} {H0:Hp} {e a b c:Expr} {t ta tb tc:RE} {u uA uB:RT} {pos:Pos} {rest:List Expr}
def rAnd (t u:RT) (δ:List Sl) (Q:Bool -> Prop):Prop:=t δ λk=>Two k (u δ Q) (Q false)
def rOr (t u:RT) (δ:List Sl) (Q:Bool -> Prop):Prop:=t δ λk=>Two k (Q true) (u δ Q)
def rNot (t:RT) (δ:List Sl) (Q:Bool -> Prop):Prop:=t δ λk=>Q (!k)
theorem PW2.pt (h:PW2 X H0 e u):PT2 X H0 e u:=PW.pt h
theorem t_and1 (ha:PT2 X H0 a uA):PW2 X H0 (.BoolOp .And [a] pos) uA:=pw_and1 ha
theorem t_or1 (ha:PT2 X H0 a uA):PW2 X H0 (.BoolOp .Or [a] pos) uA:=pw_or1 ha
theorem t_and (ha:PT2 X H0 a uA) (hb:PW2 X H0 (.BoolOp .And (b :: rest) pos) uB):PW2 X H0 (.BoolOp .And (a :: b :: rest) pos) (rAnd uA uB) :=
  PW.weak (pw_and ha hb) λσ H Q ⟨δ,G,Qd,hs,ht,k⟩=>⟨δ,G,_,hs,ht,λx H1 G1 n1 q1=>by
    cases x with
    | true=>replace q1:=q1.yes rfl;rw [if_pos rfl];exact ⟨δ,G1,Qd,n1.hs,q1,λy H2 G2 n2 q2=>k y H2 G2 (n1.trans n2) q2⟩
    | false=>replace q1:=q1.no rfl;rw [if_neg Bool.false_ne_true];exact k false H1 G1 n1 q1⟩
theorem t_or (ha:PT2 X H0 a uA) (hb:PW2 X H0 (.BoolOp .Or (b :: rest) pos) uB):PW2 X H0 (.BoolOp .Or (a :: b :: rest) pos) (rOr uA uB) :=
  PW.weak (pw_or ha hb) λσ H Q ⟨δ,G,Qd,hs,ht,k⟩=>⟨δ,G,_,hs,ht,λx H1 G1 n1 q1=>by
    cases x with
    | false=>replace q1:=q1.no rfl;rw [if_neg Bool.false_ne_true];exact ⟨δ,G1,Qd,n1.hs,q1,λy H2 G2 n2 q2=>k y H2 G2 (n1.trans n2) q2⟩
    | true=>replace q1:=q1.yes rfl;rw [if_pos rfl];exact k true H1 G1 n1 q1⟩
theorem t_not (ha:PT2 X H0 a uA):PT2 X H0 (.UnaryOp .Not a pos) (rNot uA) :=
  PT.weak (pt_not ha) λσ H Q ⟨δ,G,Qd,hs,ht,k⟩=>⟨δ,G,_,hs,ht,λx H1 G1 n1 q1=>k (!x) H1 G1 n1 q1⟩
theorem t_val (h:PE2 X H0 e t) (he:∀ whole,isTrue e X.env whole = (do let v <- whole;standAt e.pos;holding [v] (truthy v)):=by intro _;rfl):PT2 X H0 e (rTest t) :=
  PT.weak (pt_val h he) (lift_test (t':=liftE X.K H0 t) λ_ _ _ z=>z)
def bl? (d:D) (Q:Bool -> Prop):Prop:=match d with
  | .bl k=>Q k
  | _=>False
theorem bl_of {K:PySem.W.Frag} {G:Hp} {d:D} {v:V} {Q:Bool -> Prop} (h:bl? d Q) (r:Rep K G d v):∃ k,d = .bl k /\ v = .bl k /\ Q k:=by
  cases d with
  | bl k=>exact ⟨k,rfl,by simpa only [Rep] using r,h⟩
  | _=>exact h.elim
def rAndV (ta tb:RE) (δ:List Sl) (Q:D -> Prop):Prop:=ta δ λx=>bl? x λk=>Two k (tb δ Q) (Q (.bl false))
def rOrV (ta tb:RE) (δ:List Sl) (Q:D -> Prop):Prop:=ta δ λx=>bl? x λk=>Two k (Q (.bl true)) (tb δ Q)
def rNotV (ta:RE) (δ:List Sl) (Q:D -> Prop):Prop:=ta δ λx=>bl? x λk=>Q (.bl (!k))
theorem e_one {op:BoolOp} (ha:PE2 X H0 a ta):PE2 X H0 (.BoolOp op [a] pos) ta:=pe_one ha
theorem e_and (ha:PE2 X H0 a ta) (hb:PE2 X H0 (.BoolOp .And (b :: rest) pos) tb):PE2 X H0 (.BoolOp .And (a :: b :: rest) pos) (rAndV ta tb) :=
  PE.weak (pe_and ha hb) λσ H Q ⟨δ,G,Qd,hs,ht,k⟩=>⟨δ,G,_,hs,ht,λv H1 G1 d n1 r1 q1=>by
    obtain ⟨x,rfl,rfl,q1⟩:=bl_of q1 r1;refine ⟨x,rfl,?_⟩
    cases x with
    | true=>replace q1:=q1.yes rfl;rw [if_pos rfl];exact ⟨δ,G1,Qd,n1.hs,q1,λv2 H2 G2 d2 n2 r2 q2=>k v2 H2 G2 d2 (n1.trans n2) r2 q2⟩
    | false=>replace q1:=q1.no rfl;rw [if_neg Bool.false_ne_true];exact k _ H1 G1 _ n1 (by simp only [Rep]) q1⟩
theorem e_or (ha:PE2 X H0 a ta) (hb:PE2 X H0 (.BoolOp .Or (b :: rest) pos) tb):PE2 X H0 (.BoolOp .Or (a :: b :: rest) pos) (rOrV ta tb) :=
  PE.weak (pe_or ha hb) λσ H Q ⟨δ,G,Qd,hs,ht,k⟩=>⟨δ,G,_,hs,ht,λv H1 G1 d n1 r1 q1=>by
    obtain ⟨x,rfl,rfl,q1⟩:=bl_of q1 r1;refine ⟨x,rfl,?_⟩
    cases x with
    | false=>replace q1:=q1.no rfl;rw [if_neg Bool.false_ne_true];exact ⟨δ,G1,Qd,n1.hs,q1,λv2 H2 G2 d2 n2 r2 q2=>k v2 H2 G2 d2 (n1.trans n2) r2 q2⟩
    | true=>replace q1:=q1.yes rfl;rw [if_pos rfl];exact k _ H1 G1 _ n1 (by simp only [Rep]) q1⟩
theorem e_not (ha:PE2 X H0 a ta):PE2 X H0 (.UnaryOp .Not a pos) (rNotV ta) :=
  PE.weak (pe_not ha) λσ H Q ⟨δ,G,Qd,hs,ht,k⟩=>⟨δ,G,_,hs,ht,λv H1 G1 d n1 r1 q1=>by
    obtain ⟨x,rfl,rfl,q1⟩:=bl_of q1 r1
    exact ⟨x,rfl,k _ H1 G1 _ n1 (by simp only [Rep]) q1⟩⟩
def rNeg (ta:RE) (δ:List Sl) (Q:D -> Prop):Prop:=ta δ λx=>match x with
  | .int i=>Q (.int (-i))
  | _=>False
theorem e_neg (ha:PB2 X H0 a ta):PE2 X H0 (.UnaryOp .USub a pos) (rNeg ta) :=
  PE.weak (pe_un un_neg ha) λσ H Q ⟨δ,G,Qd,hs,ht,k⟩=>⟨δ,G,_,hs,ht,λv H1 G1 d n1 r1 q1=>by
    cases d with
    | int i=>exact ⟨i,r1,k _ H1 G1 _ n1 (by simp only [Rep]) q1⟩
    | _=>exact q1.elim⟩
variable {es:List Expr} {tr:RA}
def rNil (_:List Sl) (Q:List D -> Prop):Prop:=Q []
def rCons (t:RE) (r:RA) (δ:List Sl) (Q:List D -> Prop):Prop:=t δ λd=>r δ λds=>Q (d :: ds)
theorem a_nil:PA2 X H0 [] rNil:=PA.weak pa_nil λσ H Q ⟨δ,G,Qd,hs,ht,k⟩=>k [] H G [] (Nx.refl hs) Reps.nil ht
theorem a_cons (ha:PE2 X H0 e t) (hr:PA2 X H0 es tr) (hs:starEach (e :: es) X.env = (false,eval e X.env) :: starEach es X.env:=by rfl):PA2 X H0 (e :: es) (rCons t tr) :=
  PA.weak (pa_cons ha hr hs) λσ H Q ⟨δ,G,Qd,hs,ht,k⟩=>⟨δ,G,_,hs,ht,λv H1 G1 d n1 r1 q1=>⟨δ,G1,_,n1.hs,q1,λvs H2 G2 ds n2 r2 q2=>k (v :: vs) H2 G2 (d :: ds) (n1.trans n2) (Reps.cons (Rep.mono n2.g _ _ r1) r2) q2⟩⟩
def rTupD (r:RA) (δ:List Sl) (Q:D -> Prop):Prop:=r δ λds=>ds.length <= sizeLine /\ Q (.tup ds)
def rLstD (r:RA) (δ:List Sl) (Q:D -> Prop):Prop:=r δ λds=>ds.length <= sizeLine /\ Q (.lst ds)
theorem upd_mono {H:Hp} {p:Addr} {o:HO} (n:H p = none):Same H (upd H p o):=λb u q=>by rw [upd_ne (ne_of_none q n)];exact q
theorem e_tup {x1} (h:PA2 X H0 es tr):PE2 X H0 (.Tuple es x1 pos) (rTupD tr) :=
  PE.weak (pe_tup h) λσ H Q ⟨δ,G,Qd,hs,ht,k⟩=>⟨δ,G,_,hs,ht,λvs H1 G1 ds n1 r1 q1=>⟨by rw [<- r1.length];exact q1.1,λp hp=>by
    obtain ⟨h2,s2⟩:=n1.hs.laid (o:=.tup vs) hp
    exact k _ _ _ (.tup ds) ⟨h2,n1.g.trans s2,n1.h.trans (upd_mono hp)⟩ (by simp only [Rep];exact ⟨p,vs,rfl,upd_same,Reps.mono s2 _ _ r1⟩) q1.2⟩⟩
theorem n_lst (h:PA2 X H0 es tr):PN2 X H0 (.List es pos) (rLstD tr) :=
  PE.weak (pe_lst h) λσ H Q ⟨δ,G,Qd,hs,ht,k⟩=>⟨δ,G,_,hs,ht,λvs H1 G1 ds n1 r1 q1=>⟨by rw [<- r1.length];exact q1.1,λp hp =>
    k _ _ G1 (.lst ds) (n1.hs.fresh hp ⟨vs,upd_same,r1⟩) n1.g (n1.h.trans (upd_mono hp)) q1.2⟩⟩
def rDNewK (_:List Sl) (Q:D -> Prop):Prop:=Q (.dK [])
def rDNewT (_:List Sl) (Q:D -> Prop):Prop:=Q (.dT [])
theorem n_dK {pos:Pos}:PN2 X H0 (.Dict [] [] pos) rDNewK :=
  PE.weak pe_dnewK λσ H Q ⟨δ,G,Qd,hs,ht,k⟩ p hp=>k _ _ G (.dK []) (hs.fresh hp ⟨[],upd_same,by simp only [RepK]⟩) (Same.refl _) (upd_mono hp) ht
theorem n_dT {pos:Pos}:PN2 X H0 (.Dict [] [] pos) rDNewT :=
  PE.weak pe_dnewT λσ H Q ⟨δ,G,Qd,hs,ht,k⟩ p hp=>k _ _ G (.dT []) (hs.fresh hp ⟨[],upd_same,by simp only [RepT]⟩) (Same.refl _) (upd_mono hp) ht
def dIx (x y:D) (Q:D -> Prop):Prop:=match x,y with
  | .lst ds,.int i=>∃ d,atI ds i = some d /\ Q d
  | .tup ds,.int i=>∃ d,atI ds i = some d /\ Q d
  | _,_=>False
theorem atI_rep {K:PySem.W.Frag} {G:Hp} {ds:List D} {vs:List V} {i:Int} {d:D} (r:Reps K G ds vs) (h:atI ds i = some d):∃ v,atI vs i = some v /\ Rep K G d v:=by
  unfold atI at h ⊢;rw [<- r.length]
  cases q:ixN ds.length i with
  | none=>rw [q] at h;cases h
  | some j =>
    rw [q] at h;exact r.get h
theorem lf_ix {K:PySem.W.Frag}:Lf2 K (rIx K) dIx:=λH0 σ δ G H x y dx dy Qd Q hs rx ry h k=>by
  cases dx <;> cases dy <;> first | exact h.elim | skip
  · rename_i ds i
    obtain ⟨a,vs,rfl,h2,h3⟩:=rx;obtain rfl:y = .int i:=ry;obtain ⟨d,q,h'⟩:=h;obtain ⟨v,e1,r1⟩:=atI_rep h3 q;exact .inr (.inl ⟨a,vs,i,v,rfl,rfl,SqT.of h2,e1,k _ H G _ (Nx.refl hs) r1 h'⟩)
  · rename_i ds i
    obtain ⟨a,vs,rfl,h2,h3⟩:=rx;obtain rfl:y = .int i:=ry;obtain ⟨d,q,h'⟩:=h;obtain ⟨v,e1,r1⟩:=atI_rep h3 q;exact .inl ⟨a,vs,i,v,rfl,rfl,h2,e1,k _ H G _ (Nx.refl hs) r1 h'⟩
theorem e_ix (ha:PB2 X H0 a ta) (hb:PB2 X H0 b tb) (hp:PlainIx b:=by intro _ _;rfl):PE2 X H0 (.Subscript a b pos) (rOp dIx ta tb) :=
  PE.weak (pe_ix ix_seq ha hb hp) (lift_op lf_ix)
abbrev RO:=List Sl -> (Option Int -> Prop) -> Prop
def liftO (K:PySem.W.Frag) (H0:Hp) (t:RO):TO:=λσ H Q=>∃ δ G Qd,Hs K H0 σ δ G H /\ t δ Qd /\ ∀ o H' G',Nx K H0 σ δ G H G' H' -> Qd o -> Q o H'
def PO2 (X:Cx) (H0:Hp) (e:Option Expr) (t:RO):Prop:=PO X e (liftO X.K H0 t)
theorem PO.weak {X:Cx} {e:Option Expr} {t t':TO} (h:PO X e t) (k:∀ σ H Q,t' σ H Q -> t σ H Q):PO X e t':=λpins s σ H Q I hw=>h pins s σ H Q I (k σ H Q hw)
theorem o_none:PO2 X H0 none (λ_ Q=>Q none):=PO.weak po_none λσ H Q ⟨δ,G,Qd,hs,ht,k⟩=>k none H G (Nx.refl hs) ht
def rPart (t:RE) (δ:List Sl) (Q:Option Int -> Prop):Prop:=t δ λd=>match d with
  | .int i=>Q (some i)
  | _=>False
theorem o_some (h:PB2 X H0 e t):PO2 X H0 (some e) (rPart t):=PO.weak (po_some h) λσ H Q ⟨δ,G,Qd,hs,ht,k⟩=>⟨δ,G,_,hs,ht,λv H1 G1 d n1 r1 q1=>by
  cases d with
  | int i=>exact ⟨i,r1,k _ H1 G1 n1 q1⟩
  | _=>exact q1.elim⟩
def cutD (xs:List D) (lo hi:Option Int):List D:=(xs.drop (HT.sIx xs.length 0 lo)).take (HT.sIx xs.length xs.length hi - HT.sIx xs.length 0 lo)
theorem cut_rep {K:PySem.W.Frag} {G:Hp} {ds:List D} {vs:List V} (r:Reps K G ds vs) (lo hi:Option Int):Reps K G (cutD ds lo hi) (cutV vs lo hi):=by
  unfold cutD cutV;rw [<- r.length];exact (r.drop _).take _
variable {lo hi:Option Expr} {tl th:RO} {p2:Pos}
def rSlL2 (te:RE) (tl th:RO) (δ:List Sl) (Q:D -> Prop):Prop:=te δ λd=>tl δ λl=>th δ λu=>match d with
  | .lst ds=>Q (.lst (cutD ds l u))
  | _=>False
theorem n_slL (he:PB2 X H0 e t) (hl:PO2 X H0 lo tl) (hu:PO2 X H0 hi th):PN2 X H0 (.Subscript e (.Slice lo hi none p2) pos) (rSlL2 t tl th) :=
  PE.weak (pe_slice sl_list he hl hu) λσ H Q ⟨δ,G,Qd,hs,ht,k⟩=>⟨δ,G,_,hs,ht,λv H1 G1 d n1 r1 q1=>⟨δ,G1,_,n1.hs,q1,λl H2 G2 n2 q2=>⟨δ,G2,_,n2.hs,q2,λu H3 G3 n3 q3=>by
    cases d with
    | lst ds =>
      obtain ⟨a,vs,rfl,h2,h3⟩:=r1.mono (n2.g.trans n3.g) (n2.h.trans n3.h);refine ⟨a,vs,rfl,h2,λp hp=>k _ _ G3 (.lst (cutD ds l u)) (n3.hs.fresh hp ⟨_,upd_same,cut_rep h3 l u⟩) ((n1.trans n2).trans n3).g (((n1.trans n2).trans n3).h.trans (upd_mono hp)) q3⟩
    | _=>exact q3.elim⟩⟩⟩
end
section
variable {X:Cx} {H0:Hp} {e:Expr} {t:RE} {lo hi:Option Expr} {tl th:RO} {p2 pos:Pos}
def rCutT (te:RE) (tl th:RO) (δ:List Sl) (Q:D -> Prop):Prop:=te δ λd=>tl δ λl=>th δ λu=>match d with
  | .tup ds=>¬ (HT.sIx ds.length 0 l = 0 /\ HT.sIx ds.length ds.length u = ds.length) /\ Q (.tup (cutD ds l u))
  | _=>False
theorem e_slT (he:PB2 X H0 e t) (hl:PO2 X H0 lo tl) (hu:PO2 X H0 hi th):PE2 X H0 (.Subscript e (.Slice lo hi none p2) pos) (rCutT t tl th) :=
  PE.weak (pe_slice sl_tup he hl hu) λσ H Q ⟨δ,G,Qd,hs,ht,k⟩=>⟨δ,G,_,hs,ht,λv H1 G1 d n1 r1 q1=>⟨δ,G1,_,n1.hs,q1,λl H2 G2 n2 q2=>⟨δ,G2,_,n2.hs,q2,λu H3 G3 n3 q3=>by
    cases d with
    | tup ds =>
      obtain ⟨a,vs,rfl,h2,h3⟩:=r1.mono (n2.g.trans n3.g) (n2.h.trans n3.h);refine ⟨a,vs,rfl,SqT.of h2,by rw [<- h3.length];exact q3.1,λp hp=>?_⟩;obtain ⟨h4,s4⟩:=n3.hs.laid (o:=.tup (cutV vs l u)) hp;exact k _ _ _ (.tup (cutD ds l u)) ⟨h4,((n1.trans n2).trans n3).g.trans s4,((n1.trans n2).trans n3).h.trans (upd_mono hp)⟩ (by simp only [Rep];exact ⟨p,_,rfl,upd_same,Reps.mono s4 _ _ (cut_rep h3 l u)⟩) q3.2
    | _=>exact q3.elim⟩⟩⟩
end
inductive Ret where
  | val (d:D) | new (d:D) | two (a b:D) | fo (a b:D)
def RetOk (K:PySem.W.Frag) (H0 H':Hp) (v:V):Ret -> Prop
  | .val d=>Same H0 H' /\ Rep K H' d v
  | .new d=>∃ G p,v = .ref p /\ Same H0 G /\ G p = none /\ (∀ b,b ≠ p -> G b = H' b) /\ Own K G H' p d
  | .two x y=>∃ G a p q,v = .ref a /\ Same H0 G /\ G a = some (.tup [.ref p,.ref q]) /\ p ≠ q /\ G p = none /\ G q = none /\ (∀ b,b ≠ p -> b ≠ q -> G b = H' b) /\ Own K G H' p x /\ Own K G H' q y
  | .fo x y=>∃ G a vx q,v = .ref a /\ Same H0 G /\ G a = some (.tup [vx,.ref q]) /\ Rep K G x vx /\ G q = none /\ (∀ b,b ≠ q -> G b = H' b) /\ Own K G H' q y
def RetIn (K:PySem.W.Frag) (H0 H':Hp) (v:V) (δ':List Sl):Ret -> Prop
  | .val d=>∃ σ' G',Hs K H0 σ' δ' G' H' /\ Rep K G' d v
  | .new d=>RetOk K H0 H' v (.new d)
  | .two x y=>RetOk K H0 H' v (.two x y)
  | .fo x y=>RetOk K H0 H' v (.fo x y)
theorem RetIn.ok {K:PySem.W.Frag} {H0 H':Hp} {v:V} {δ':List Sl} {r:Ret} (h:RetIn K H0 H' v δ' r):RetOk K H0 H' v r:=by
  cases r with
  | val d=>obtain ⟨σ',G',hs,r⟩:=h;exact ⟨hs.base.trans hs.sub,Rep.mono hs.sub _ _ r⟩
  | new d=>exact h
  | two x y=>exact h
  | fo x y=>exact h
structure Ends2 where
  nx:List Sl -> Prop
  rt:Ret -> List Sl -> Prop
  bk:List Sl -> Prop:=λ_=>False
  ct:List Sl -> Prop:=λ_=>False
abbrev RS:=Ends2 -> List Sl -> Prop
structure Go (K:PySem.W.Frag) (H0 G:Hp) (E:Ends2) (D:Ends):Prop where
  nx:∀ σ' H' δ' G',Hs K H0 σ' δ' G' H' -> Same G G' -> E.nx δ' -> D.nx σ' H'
  rt:∀ v H' r δ',RetIn K H0 H' v δ' r -> E.rt r δ' -> D.rt v H'
  bk:∀ σ' H' δ' G',Hs K H0 σ' δ' G' H' -> Same G G' -> E.bk δ' -> D.bk σ' H'
  ct:∀ σ' H' δ' G',Hs K H0 σ' δ' G' H' -> Same G G' -> E.ct δ' -> D.ct σ' H'
theorem Go.mono {K:PySem.W.Frag} {H0 G G1:Hp} {E:Ends2} {D:Ends} (g:Go K H0 G E D) (s:Same G G1):Go K H0 G1 E D :=
  ⟨λσ' H' δ' G' h s'=>g.nx σ' H' δ' G' h (s.trans s'),g.rt,λσ' H' δ' G' h s'=>g.bk σ' H' δ' G' h (s.trans s'),λσ' H' δ' G' h s'=>g.ct σ' H' δ' G' h (s.trans s')⟩
def liftS (K:PySem.W.Frag) (H0:Hp) (t:RS):TS:=λD σ H=>∃ δ G E,Hs K H0 σ δ G H /\ t E δ /\ Go K H0 G E D
def PS2 (X:Cx) (H0:Hp) (st:Stmt) (t:RS):Prop:=PS X st (liftS X.K H0 t)
def PSs2 (X:Cx) (H0:Hp) (st:List Stmt) (t:RS):Prop:=PSs X st (liftS X.K H0 t)
section
variable {X:Cx} {H0:Hp} {e tg:Expr} {te:RE} {st:Stmt} {rest b1 b2:List Stmt} {t u:RS} {c:Expr} {tc:RT} {pos pos':Pos} {x:Str}
abbrev rNext (E:Ends2) (δ:List Sl):Prop:=E.nx δ
abbrev rSeq (t u:RS) (E:Ends2) (δ:List Sl):Prop:=t { E with nx:=u E } δ
theorem s_nil:PSs2 X H0 [] rNext:=PSs.weak pss_nil λD σ H ⟨δ,G,E,hs,ht,g⟩=>g.nx σ H δ G hs (Same.refl _) ht
theorem s_cons (h1:PS2 X H0 st t) (h2:PSs2 X H0 rest u):PSs2 X H0 (st :: rest) (rSeq t u) :=
  PSs.weak (pss_cons h1 h2) λD σ H ⟨δ,G,E,hs,ht,g⟩=>⟨δ,G,{ E with nx:=u E },hs,ht,⟨λσ' H' δ' G' h' s' q=>⟨δ',G',E,h',q,g.mono s'⟩,g.rt,g.bk,g.ct⟩⟩
theorem s_one (h1:PS2 X H0 st t):PSs2 X H0 [st] t:=PSs.weak (pss_one h1) λD σ H z=>z
def rFreeze (i:Nat) (t:RS) (E:Ends2) (δ:List Sl):Prop:=match δ[i]? with
  | some (.ow d)=>t E (δ.set i (.fr d))
  | _=>False
theorem s_freeze (i:Nat) (h:PSs2 X H0 rest t):PSs2 X H0 rest (rFreeze i t):=PSs.weak h λD σ H ⟨δ,G,E,hs,ht,g⟩=>by
  unfold rFreeze at ht
  split at ht
  · rename_i d e
    obtain ⟨G',h',s',_⟩:=hs.freeze e;exact ⟨_,G',E,h',ht,g.mono s'⟩
  · exact ht.elim
def rRet (te:RE) (E:Ends2) (δ:List Sl):Prop:=te δ λd=>E.rt (.val d) δ
theorem s_ret (he:PE2 X H0 e te):PS2 X H0 (.Return (some e) pos) (rRet te) :=
  PS.weak (ps_ret he) λD σ H ⟨δ,G,E,hs,ht,g⟩=>⟨δ,G,_,hs,ht,λv H1 G1 d n1 r1 q1=>g.rt v H1 (.val d) δ ⟨σ,G1,n1.hs,r1⟩ q1⟩
theorem ret_new {K:PySem.W.Frag} {σ:L2.St} {δ:List Sl} {G H:Hp} {i:Nat} {d:D} {p:Addr} (hs:Hs K H0 σ δ G H) (e:δ[i]? = some (.ow d)) (e1:σ[i]? = some (some (.ref p))):RetOk K H0 H (.ref p) (.new d):=by
  obtain ⟨p',e2,o⟩:=hs.ow i d e;rw [e1] at e2;cases e2;have gp:G p = none:=by
    rcases hs.ex p with ⟨_,z⟩ | ⟨z,_⟩
    · exact absurd ⟨_,e,True.intro,e1⟩ (z i)
    · exact z
  have s1:Same G (λb=>if b = p then none else H b):=λb u q=>by
    have hb:b ≠ p:=ne_of_none q gp
    show (if b = p then none else H b) = some u
    rw [if_neg hb];exact hs.sub b u q
  exact ⟨λb=>if b = p then none else H b,p,rfl,hs.base.trans s1,if_pos rfl,λb hb=>if_neg hb,o.mono s1 rfl⟩
def rRetN (te:RE) (E:Ends2) (δ:List Sl):Prop:=te δ λd=>E.rt (.new d) δ
theorem s_retN (he:PN2 X H0 e te):PS2 X H0 (.Return (some e) pos) (rRetN te) :=
  PS.weak (ps_ret he) λD σ H ⟨δ,G,E,hs,ht,g⟩=>⟨δ,G,_,hs,ht,λv H1 G1 d n1 sg sh q1=>by
    obtain ⟨p,e1,o⟩:=n1.ow 0 d rfl;simp at e1;subst e1
    exact g.rt _ H1 (.new d) δ (ret_new (i:=0) n1 rfl rfl) q1⟩
def rRetO (i:Nat) (E:Ends2) (δ:List Sl):Prop:=match δ[i]? with
  | some (.ow d)=>E.rt (.new d) δ
  | _=>False
theorem s_retO (i:Nat) (hN:X.N[i]? = some x:=by rfl) (hv:Vis X.env.scope x:=by first | exact Or.inl rfl | exact Or.inr (Or.inl rfl) | exact Or.inr (Or.inr rfl)) (hd:(x == ("__debug__" : Str)) = false:=by decide)
 (hcd:(x == ("__classdict__" : Str)) = false:=by decide):PS2 X H0 (.Return (some (.Name x pos')) pos) (rRetO i) :=
  PS.weak (ps_ret (pe_var hN hv hd hcd)) λD σ H ⟨δ,G,E,hs,ht,g⟩=>by
    unfold rRetO at ht
    split at ht
    · rename_i d e
      obtain ⟨p,e1,o⟩:=hs.ow i d e;exact ⟨_,e1,g.rt _ H (.new d) δ (ret_new hs e e1) ht⟩
    · exact ht.elim
structure rIf (c:RT) (t u:RS) (E:Ends2) (δ:List Sl):Prop where
  run:c δ λb=>Two b (t E δ) (u E δ)
theorem s_if (hc:PT2 X H0 c tc) (ha:PSs2 X H0 b1 t) (hb:PSs2 X H0 b2 u):PS2 X H0 (.If c b1 b2 pos) (rIf tc t u) :=
  PS.weak (ps_if hc ha hb) λD σ H ⟨δ,G,E,hs,ht,g⟩=>⟨δ,G,_,hs,ht.run,λk H1 G1 n1 q1=>by
    cases k with
    | true=>rw [if_pos rfl];exact ⟨δ,G1,E,n1.hs,q1.yes rfl,g.mono n1.g⟩
    | false=>rw [if_neg Bool.false_ne_true];exact ⟨δ,G1,E,n1.hs,q1.no rfl,g.mono n1.g⟩⟩
abbrev RG:=D -> List Sl -> (List Sl -> Prop) -> Prop
def liftG (K:PySem.W.Frag) (H0:Hp) (g:RG):TG:=λv σ H Q=>∃ δ G d Qd,Hs K H0 σ δ G H /\ Rep K G d v /\ g d δ Qd /\ ∀ σ' H' δ' G',Hs K H0 σ' δ' G' H' -> Same G G' -> Qd δ' -> Q σ' H'
def PG2 (X:Cx) (H0:Hp) (tg:Expr) (g:RG):Prop:=PG X tg (liftG X.K H0 g)
theorem PG.weak {X:Cx} {e:Expr} {t t':TG} (h:PG X e t) (k:∀ v σ H Q,t' v σ H Q -> t v σ H Q):PG X e t':=λpins s σ H v u Q I r hw=>h pins s σ H v u Q I r (k v σ H Q hw)
def gSet (i:Nat) (d:D) (δ:List Sl) (Q:List Sl -> Prop):Prop:=match δ[i]? with
  | some (.lk _ _)=>False
  | some _=>Q (δ.set i (.fr d))
  | none=>False
theorem gSet_of {i:Nat} {d:D} {δ:List Sl} {Q:List Sl -> Prop} (h:gSet i d δ Q):∃ l,δ[i]? = some l /\ l.locked = false /\ Q (δ.set i (.fr d)):=by
  unfold gSet at h
  split at h
  · exact h.elim
  · rename_i l n e
    refine ⟨l,e,?_,h⟩
    cases l with
    | lk p d'=>exact absurd rfl (n p d')
    | _=>rfl
  · exact h.elim
theorem g_name (i:Nat) (hN:X.N.Nodup) (hi:X.N[i]? = some x:=by rfl) (hx:Loc X.env.scope x:=by first | exact Or.inl rfl | exact Or.inr rfl) (hf:X.fn x = true \/ X.env.scope.names.lookup x = some .local:=by first | exact .inl rfl | exact .inr rfl | assumption):PG2 X H0 (.Name x pos) (gSet i) :=
  PG.weak (pg_name hN hi hx hf) λv σ H Q ⟨δ,G,d,Qd,hs,r,h,k⟩=>by
    obtain ⟨l,e,nl,q⟩:=gSet_of h;obtain ⟨G',h',s'⟩:=hs.put e nl r;exact k _ H _ G' h' s' q
def rSet (i:Nat) (te:RE) (E:Ends2) (δ:List Sl):Prop:=te δ λd=>gSet i d δ E.nx
theorem s_set (i:Nat) (hN:X.N.Nodup) (he:PE2 X H0 e te) (hi:X.N[i]? = some x:=by rfl) (hx:Loc X.env.scope x:=by first | exact Or.inl rfl | exact Or.inr rfl) (hs:swapsWith e (some (.Name x pos')) pos.line X.env = pure false:=by rfl)
 (hf:X.fn x = true \/ X.env.scope.names.lookup x = some .local:=by first | exact .inl rfl | exact .inr rfl | assumption):PS2 X H0 (.Assign [.Name x pos'] e pos) (rSet i te) :=
  PS.weak (ps_set hN hi hx he hs hf) λD σ H ⟨δ,G,E,hs,ht,g⟩=>⟨δ,G,_,hs,ht,λv H1 G1 d n1 r1 q1=>by
    obtain ⟨l,e,nl,q⟩:=gSet_of q1;obtain ⟨G',h',s'⟩:=n1.hs.put e nl r1
    exact g.nx _ H1 _ G' h' (n1.g.trans s') q⟩
def gOwn (i:Nat) (d:D) (δ:List Sl) (Q:List Sl -> Prop):Prop:=match δ[i]? with
  | some (.lk _ _)=>False
  | some _=>Q (δ.set i (.ow d))
  | none=>False
theorem gOwn_of {i:Nat} {d:D} {δ:List Sl} {Q:List Sl -> Prop} (h:gOwn i d δ Q):∃ l,δ[i]? = some l /\ l.locked = false /\ Q (δ.set i (.ow d)):=by
  unfold gOwn at h
  split at h
  · exact h.elim
  · rename_i l n e
    refine ⟨l,e,?_,h⟩
    cases l with
    | lk p d'=>exact absurd rfl (n p d')
    | _=>rfl
  · exact h.elim
def rSetN (i:Nat) (te:RE) (E:Ends2) (δ:List Sl):Prop:=te δ λd=>gOwn i d δ E.nx
theorem s_setN (i:Nat) (hN:X.N.Nodup) (he:PN2 X H0 e te) (hi:X.N[i]? = some x:=by rfl) (hx:Loc X.env.scope x:=by first | exact Or.inl rfl | exact Or.inr rfl) (hs:swapsWith e (some (.Name x pos')) pos.line X.env = pure false:=by rfl)
 (hf:X.fn x = true \/ X.env.scope.names.lookup x = some .local:=by first | exact .inl rfl | exact .inr rfl | assumption):PS2 X H0 (.Assign [.Name x pos'] e pos) (rSetN i te) :=
  PS.weak (ps_set hN hi hx he hs hf) λD σ H ⟨δ,G,E,hs,ht,g⟩=>⟨δ,G,_,hs,ht,λv H1 G1 d n1 sg sh q1=>by
    obtain ⟨l,e,nl,q⟩:=gOwn_of q1;obtain ⟨G',h',s'⟩:=n1.own e nl
    exact g.nx _ H1 _ G' h' (sg.trans s') q⟩
abbrev RGs:=List D -> List Sl -> (List Sl -> Prop) -> Prop
def liftGs (K:PySem.W.Frag) (H0:Hp) (g:RGs):TGs:=λvs σ H Q=>∃ δ G ds Qd,Hs K H0 σ δ G H /\ Reps K G ds vs /\ g ds δ Qd /\ ∀ σ' H' δ' G',Hs K H0 σ' δ' G' H' -> Same G G' -> Qd δ' -> Q σ' H'
def PGs2 (X:Cx) (H0:Hp) (ts:List Expr) (g:RGs):Prop:=PGs X ts (liftGs X.K H0 g)
theorem PGs.weak {X:Cx} {e:List Expr} {t t':TGs} (h:PGs X e t) (k:∀ v σ H Q,t' v σ H Q -> t v σ H Q):PGs X e t':=λpins s σ H v u Q I r hw=>h pins s σ H v u Q I r (k v σ H Q hw)
def gNil2 (ds:List D) (δ:List Sl) (Q:List Sl -> Prop):Prop:=match ds with
  | []=>Q δ
  | _=>False
def gCons2 (g:RG) (r:RGs) (ds:List D) (δ:List Sl) (Q:List Sl -> Prop):Prop:=match ds with
  | d :: ds=>g d δ λδ1=>r ds δ1 Q
  | []=>False
theorem gs_nil:PGs2 X H0 [] gNil2:=PGs.weak pgs_nil λvs σ H Q ⟨δ,G,ds,Qd,hs,r,h,k⟩=>by
  cases ds with
  | nil=>simp only [Reps] at r;exact ⟨r,k σ H δ G hs (Same.refl _) h⟩
  | cons d ds=>exact h.elim
variable {es:List Expr} {g:RG} {gs:RGs}
theorem gs_cons (h1:PG2 X H0 e g) (h2:PGs2 X H0 es gs) (hs:(assignEach (e :: es) X.env).map (·.2) = assign e X.env :: (assignEach es X.env).map (·.2):=by rfl):PGs2 X H0 (e :: es) (gCons2 g gs) :=
  PGs.weak (pgs_cons h1 h2 hs) λvs σ H Q ⟨δ,G,ds,Qd,hs,r,h,k⟩=>by
    cases ds with
    | nil=>exact h.elim
    | cons d ds =>
      simp only [Reps] at r;obtain ⟨v,vr,rfl,r1,r2⟩:=r;exact ⟨v,vr,rfl,δ,G,d,_,hs,r1,h,λσ1 H1 δ1 G1 h1 s1 q1=>⟨δ1,G1,ds,Qd,h1,Reps.mono s1 _ _ r2,q1,λσ2 H2 δ2 G2 h2 s2 q2=>k σ2 H2 δ2 G2 h2 (s1.trans s2) q2⟩⟩
def gTup2 (n:Nat) (gs:RGs) (d:D) (δ:List Sl) (Q:List Sl -> Prop):Prop:=match d with
  | .tup ds=>ds.length = n /\ gs ds δ Q
  | _=>False
theorem g_tup {n k:Nat} (hc:X.calm = true) (h:PGs2 X H0 es gs) (hn:(assignEach es X.env).length = n:=by rfl) (hst:(assignEach es X.env).findIdx? (·.1) = none:=by rfl):PG2 X H0 (.Tuple es k pos) (gTup2 n gs) :=
  PG.weak (pg_tup (n:=n) hc h hn hst) λv σ H Q ⟨δ,G,d,Qd,hs,r,h,k⟩=>by
    cases d with
    | tup ds =>
      simp only [Rep] at r;obtain ⟨a,vs,rfl,h2,h3⟩:=r;exact ⟨a,vs,rfl,SqT.of (hs.sub _ _ h2),by rw [<- h3.length];exact h.1,δ,G,ds,Qd,hs,h3,h.2,k⟩
    | _=>exact h.elim
def rAsg (te:RE) (g:RG) (E:Ends2) (δ:List Sl):Prop:=te δ λd=>g d δ E.nx
theorem s_asg (he:PE2 X H0 e te) (hg:PG2 X H0 tg g) (hs:swapsWithSole [tg] e pos.line X.env = pure false:=by rfl) (hw:swappedStores [tg] e X.env = pure none:=by rfl)
 (h1:(assignEach [tg] X.env).map (·.2) = [assign tg X.env]:=by rfl):PS2 X H0 (.Assign [tg] e pos) (rAsg te g) :=
  PS.weak (ps_asg he hg hs hw h1) λD σ H ⟨δ,G,E,hs,ht,g⟩=>⟨δ,G,_,hs,ht,λv H1 G1 d n1 r1 q1=>⟨δ,G1,d,E.nx,n1.hs,r1,q1,λσ' H' δ' G' h' s' q=>g.nx σ' H' δ' G' h' (n1.g.trans s') q⟩⟩
def loop (g:RG) (tb:RS) (E:Ends2):List D -> List Sl -> Prop
  | [],δ=>E.nx δ
  | d :: ds,δ=>g d δ λδ1=>tb { nx:=λδ2=>∃ δ3,Fg δ2 δ3 /\ loop g tb E ds δ3,rt:=E.rt,bk:=E.nx,ct:=λδ2=>∃ δ3,Fg δ2 δ3 /\ loop g tb E ds δ3 } δ1
def rForL (te:RE) (g:RG) (tb:RS) (E:Ends2) (δ:List Sl):Prop:=te δ λd=>match d with
  | .lst ds=>loop g tb E ds δ
  | _=>False
variable {iter:Expr} {body:List Stmt} {tb:RS}
theorem s_forL (hp:PassesOwn (model X.prog X.w) X.A X.env X.xe) (hc:X.calm = true) (hi:PE2 X H0 iter te) (hg:PG2 X H0 tg g) (hb:PSs2 X H0 body tb) (hs:∀ x,foldedSetIterable iter X.env x = pure x:=by intro _;rfl) :
 PS2 X H0 (.For tg iter body [] pos) (rForL te g tb) :=
  PS.weak (ps_for hp hc (pi_list hi) hg hb hs) λD σ H ⟨δ,G,E,hs,ht,go⟩=>⟨δ,G,_,hs,ht,λv H1 G1 d n1 r1 q1=>by
    cases d with
    | lst ds =>
      simp only [Rep] at r1;obtain ⟨a,vs,rfl,h2,h3⟩:=r1;refine ⟨a,rfl,⟨vs,n1.hs.sub.seq h2⟩,for_list (K:=X.K) (a:=a) (xs:=vs) (λi σ' H'=>∃ δ' G',Hs X.K H0 σ' δ' G' H' /\ Same G1 G' /\ loop g tb E (ds.drop i) δ') ⟨δ,G1,n1.hs,Same.refl _,q1⟩ ?_ ?_ ?_⟩
      · rintro i σ' H' _ ⟨δ',G',h',s',_⟩
        exact h'.sub.seq (s'.seq h2)
      · rintro i x σ' H' hx ⟨δ',G',h',s',q'⟩
        obtain ⟨d,ed,rd⟩:=h3.getV hx;have hil:i < ds.length:=(List.getElem?_eq_some_iff.mp ed).1;have ed':ds[i] = d:=by
          have:=List.getElem?_eq_getElem hil;rw [this] at ed;exact Option.some.inj ed
        rw [List.drop_eq_getElem_cons hil,ed'] at q';refine ⟨δ',G',d,_,h',Rep.mono s' _ _ rd,q',λσ2 H2 δ2 G2 h2' s2 q2=>⟨δ2,G2,_,h2',q2,⟨λσ3 H3 δ3 G3 h3' s3 ⟨δ4,f4,q3⟩=>⟨δ4,G3,h3'.forget f4,(s'.trans s2).trans s3,q3⟩,go.rt,λσ3 H3 δ3 G3 h3' s3 q3=>go.nx σ3 H3 δ3 G3 h3' (((n1.g.trans s').trans s2).trans s3) q3,λσ3 H3 δ3 G3 h3' s3 ⟨δ4,f4,q3⟩=>⟨δ4,G3,h3'.forget f4,(s'.trans s2).trans s3,q3⟩⟩⟩⟩
      · rintro σ' H' ⟨δ',G',h',s',q'⟩
        rw [<- h3.length,List.drop_length] at q';exact go.nx σ' H' δ' G' h' (n1.g.trans s') q'
    | _=>exact q1.elim⟩
end
section
variable {X:Cx} {H0:Hp} {e tg:Expr} {te:RE} {st:Stmt} {pos pos':Pos} {x:Str} {es:List Expr} {g:RG} {gs:RGs} {iter:Expr} {body:List Stmt} {tb:RS}
def rng (lo:Int) (n:Nat):List D:=(List.range n).map λk=>D.int (lo + (k:Nat))
theorem rng_drop (lo:Int) (n i:Nat) (h:i < n):(rng lo n).drop i = D.int (lo + i) :: (rng lo n).drop (i + 1):=by
  have hl:i < (rng lo n).length:=by simpa [rng] using h
  rw [List.drop_eq_getElem_cons hl];simp [rng]
theorem loop_range {G1 G:Hp} {E:Ends2} {Dn:Ends} {lo:Int} {n:Nat} {σ:L2.St} {δ:List Sl} {H:Hp} (hs:Hs X.K H0 σ δ G1 H) (gg:Same G G1) (go:Go X.K H0 G E Dn) (q1:loop g tb E (rng lo n) δ) :
 ∃ W:Nat -> Nat -> L2.St -> Hp -> Prop,(∃ m,W 0 m σ H) /\ ∀ i m σ H,W i m σ H ->
 ((Itr lo n).stop i H /\ Dn.nx σ H) \/ ((Itr lo n).go i H /\ ∃ N:L2.St -> Hp -> Prop,(∀ σ' H',N σ' H' -> ∃ m',m' < m /\ W (i + 1) m' σ' H') /\ ∀ x H',(Itr lo n).yld i H x H' -> liftG X.K H0 g x σ H' λσ2 H2=>liftS X.K H0 tb { Dn with nx:=N,ct:=N,bk:=Dn.nx } σ2 H2):=by
  refine for_range (λi σ' H'=>∃ δ' G',Hs X.K H0 σ' δ' G' H' /\ Same G1 G' /\ loop g tb E ((rng lo n).drop i) δ') ⟨δ,G1,hs,Same.refl _,q1⟩ ?_ ?_
  · rintro i σ' H' hx ⟨δ',G',h',s',q'⟩
    rw [rng_drop lo n i hx] at q';refine ⟨δ',G',.int (lo + i),_,h',by simp only [Rep],q',λσ2 H2 δ2 G2 h2' s2 q2=>⟨δ2,G2,_,h2',q2,⟨λσ3 H3 δ3 G3 h3' s3 ⟨δ4,f4,q3⟩=>⟨δ4,G3,h3'.forget f4,(s'.trans s2).trans s3,q3⟩,go.rt,λσ3 H3 δ3 G3 h3' s3 q3=>go.nx σ3 H3 δ3 G3 h3' (((gg.trans s').trans s2).trans s3) q3,λσ3 H3 δ3 G3 h3' s3 ⟨δ4,f4,q3⟩=>⟨δ4,G3,h3'.forget f4,(s'.trans s2).trans s3,q3⟩⟩⟩⟩
  · rintro σ' H' ⟨δ',G',h',s',q'⟩
    rw [List.drop_of_length_le (by simp [rng])] at q';exact go.nx σ' H' δ' G' h' (gg.trans s') q'
variable {tr:RA} {a1 a2:Expr}
def int1 (ds:List D) (Q:Int -> Prop):Prop:=match ds with
  | [.int j]=>Q j
  | _=>False
theorem int1_of {ds:List D} {Q:Int -> Prop} (h:int1 ds Q):∃ j,ds = [.int j] /\ Q j:=by
  unfold int1 at h
  split at h
  · exact ⟨_,rfl,h⟩
  · exact h.elim
def Small62 (j:Int):Prop:=-(2 ^ 62) <= j /\ j < 2 ^ 62
def rForR1 (tr:RA) (g:RG) (tb:RS) (E:Ends2) (δ:List Sl):Prop:=tr δ λds=>int1 ds λj=>Small62 j /\ loop g tb E (rng 0 j.toNat) δ
theorem s_forR1 {p pos2:Pos} (hp:PassesOwn (model X.prog X.w) X.A X.env X.xe) (hc:X.calm = true) (hgl:Gl X "range") (hm:X.mg "range" = none) (ha:PA2 X H0 [a1] tr) (hg:PG2 X H0 tg g) (hb:PSs2 X H0 body tb) (hst:starEach [a1] X.env = [(false,eval a1 X.env)]:=by rfl)
 (hs:∀ x,foldedSetIterable (.Call (.Name "range" p) [a1] [] pos2) X.env x = pure x:=by intro _;rfl):PS2 X H0 (.For tg (.Call (.Name "range" p) [a1] [] pos2) body [] pos) (rForR1 tr g tb) :=
  PS.weak (ps_for hp hc (pi_range1 hgl hm ha hst) hg hb hs) λD σ H ⟨δ,G,E,hs,ht,go⟩=>⟨δ,G,_,hs,ht,λvs H1 G1 ds n1 r1 q1=>by
    obtain ⟨j,rfl,⟨h1,h2⟩,q2⟩:=int1_of q1;have e:vs = [.int j]:=Reps.ints_inv (ns:=[j]) r1
    exact ⟨j,e,h1,h2,loop_range n1.hs n1.g go q2⟩⟩
end
abbrev Sp2:=List D -> (Ret -> Prop) -> Prop
def liftSp (K:PySem.W.Frag) (sp:Sp2):Sp:=λvs H Q _=>∃ ds Qd,Reps K H ds vs /\ sp ds Qd /\ ∀ v H' r,RetOk K H H' v r -> Qd r -> Q v H'
section
variable {P:Program} {w:World} {K:PySem.W.Frag} {mg:Str -> Option Value} {base:Heap}
def start2 (N:List Str) (ds:List D):List Sl:=ds.map Sl.fr ++ List.replicate (N.length - ds.length) .un
theorem fun_ok {x qual:Str} {st:Stmt} {f:Addr} {fd:FuncData} {N ps:List Str} {k:Nat} {sp:Sp2} (F:Fun K x qual st f fd) (S:FnScope N ps (defScope st)) (len:∀ ds Qd,sp ds Qd -> ds.length = ps.length)
 (hbody:∀ (cdv:Value) (A:Around) (outer:List Env) (s:Shared) (H:Hp) (E:XK),Room k (A.deeper (envOfC qual (defScope st) s.heap.objs.size f cdv)) -> ∀ ds Qd,sp ds Qd ->
 ∃ t,PSs2 (cxOf CX0 P w K mg base N qual (defScope st) f cdv A outer s H E).nox H (defBody st) t /\ t { nx:=λ_=>Qd (.val .non),rt:=λr _=>Qd r } (start2 N ds)):FnOk P w K mg base CX0 (k + 1) f fd ps (liftSp K sp):=by
  refine F.ok S (λvs H Q E h=>?_) (λcdv A outer s H vs Q E hr h=>?_)
  · obtain ⟨ds,Qd,r,h1,_⟩:=h
    rw [<- r.length];exact len ds Qd h1
  · obtain ⟨ds,Qd,r,h1,h2⟩:=h
    obtain ⟨t,ht,q⟩:=hbody cdv A outer s H E hr ds Qd h1;refine ⟨_,ht,start2 N ds,H,_,?_,q,⟨λσ' H' δ' G' hs _ q=>h2 _ H' (.val .non) ⟨hs.base.trans hs.sub,by simp only [Rep]⟩ q,λv H' r' δ' ok q=>h2 v H' r' ok.ok q,λ_ _ _ _ _ _ z=>z.elim,λ_ _ _ _ _ _ z=>z.elim⟩⟩;have e:=Hs.start r (N.length - ds.length)
    show Hs K H (vs.map some ++ List.replicate (N.length - vs.length) none) _ H H
    rw [<- r.length];exact e
end
theorem ObjOk.sub {P:Program} {w:World} {H1 H2:Hp} {h:Heap} {a:Addr} (tp:∀ b xs,H1 b = some (.tup xs) -> H2 b = some (.tup xs)) (ow:∀ b c,H1 b = some (.own c) -> H2 b = some (.own c)) {o:HO} (x:ObjOk P w H1 h a o):ObjOk P w H2 h a o :=
  x.stay (λ_ _ _ q=>q) (λb q=>ow b a q) tp
section
variable {X:Cx} {H0:Hp} {pins:List (Addr × Obj)} {σ:L2.St} {δ:List Sl} {G H:Hp} {s:Shared}
theorem Hs.nil_of (hs:Hs X.K H0 σ δ G H) {b:Addr} (n:H b = none):G b = none /\ ∀ i,¬ At σ δ i b:=by
  rcases hs.ex b with ⟨q,a⟩ | ⟨q,i,a⟩
  · exact ⟨q.trans n,a⟩
  · obtain ⟨o,e,_⟩:=hs.soft a
    rw [n] at e;cases e
theorem Hs.env0 (hs:Hs X.K H0 σ δ G H) (I:Inv X pins σ H s):Env0 X.prog X.w X.K X.mg X.base X.A X.stack s G:=by
  have e:=I.env0;refine ⟨e.frames,e.mod,λb o q=>⟨(e.bs b o q).1,(hs.nil_of (e.bs b o q).2).1⟩,e.bsz,e.funs,λb hb=>(hs.nil_of (e.frf b hb)).1,λa o q=>?_,e.bare⟩;exact ObjOk.sub (λb xs z=>(hs.hard z (λy=>y)).1) (λb c z=>(hs.hard z (λy=>y)).1) (e.hok a o (hs.sub a o q))
open Classical in
noncomputable def mix (σ:L2.St) (δ:List Sl) (H G1:Hp):Hp:=λb=>if (∃ i,At σ δ i b) then H b else G1 b
theorem mix_own {G1:Hp} {i:Nat} {b:Addr} (a:At σ δ i b):mix σ δ H G1 b = H b:=by unfold mix;exact if_pos ⟨i,a⟩
theorem mix_not {G1:Hp} {b:Addr} (a:∀ i,¬ At σ δ i b):mix σ δ H G1 b = G1 b:=by unfold mix;exact if_neg λ⟨i,z⟩=>a i z
theorem Hs.behind {Q:VK} {u:Value} {s':Shared} (hs:Hs X.K H0 σ δ G H) (I:Inv X pins σ H s) (h:CE X.stack X.prog X.w G s Q u s') :
 ∃ v G1,Inv X pins σ (mix σ δ H G1) s' /\ RelV v u /\ Q v G1 /\ (∀ i b,At σ δ i b -> G1 b = none):=by
  obtain ⟨v,G1,os,bare,un,hok,r,q⟩:=h;have ownx:∀ i b,At σ δ i b -> ∃ o ob,H b = some o /\ Soft o /\ s.heap.get? b = some ob /\ G b = none:=λi b a=>by
    obtain ⟨o,e,so⟩:=hs.soft a;have lt:=I.hok.lt e;have gb:G b = none:=by
      rcases hs.ex b with ⟨_,z⟩ | ⟨z,_⟩
      · exact absurd a (z i)
      · exact z
    obtain ⟨ob,eo⟩:∃ ob,s.heap.get? b = some ob:=by
      have:=I.hok b o e
      cases o with
      | lst xs=>obtain ⟨_,its,n,_,e⟩:=this;exact ⟨_,e⟩
      | dK xs=>obtain ⟨_,_,_,_,ob,_,_,e,_⟩:=this;exact ⟨ob,e⟩
      | dT xs=>obtain ⟨_,_,_,_,ob,_,_,e,_⟩:=this;exact ⟨ob,e⟩
      | _=>exact so.elim
    exact ⟨o,ob,e,so,eo,gb⟩
  have own1:∀ i b,At σ δ i b -> G1 b = none:=λi b a=>by
    obtain ⟨o,ob,_,_,eo,gb⟩:=ownx i b a;exact un.free b ob eo gb (by simp)
  have keepo:∀ i b,At σ δ i b -> ∀ ob,s.heap.get? b = some ob -> s'.heap.get? b = some ob:=λi b a ob eo=>by
    obtain ⟨o,_,e,_,_,gb⟩:=ownx i b a;refine un.keep b ob eo gb (λz=>?_) (by simp);rw [I.stkFree b z] at e;cases e
  have tp:∀ b xs,H b = some (.tup xs) -> mix σ δ H G1 b = some (.tup xs):=λb xs z=>by
    obtain ⟨z1,z2⟩:=hs.hard z (λy=>y);rw [mix_not z2];exact un.tups b xs z1
  refine ⟨v,G1,?_,r,q,own1⟩;have un2:Un (frs X.stack) [] H (mix σ δ H G1) s.heap s'.heap:=by
    refine ⟨λb o e n hb hx=>un.keep b o e (hs.nil_of n).1 hb hx,λb o e n hb hx=>un.slot b o e (hs.nil_of n).1 hb hx,λb o e n hx=>?_,un.there,tp,λb o u' z=>?_,λb ps z=>?_⟩
    · rw [mix_not (hs.nil_of n).2];exact un.free b o e (hs.nil_of n).1 hx
    · obtain ⟨z1,z2⟩:=hs.hard z (λy=>y)
      rw [mix_not z2];exact un.frzs b o u' z1
    · obtain ⟨z1,z2⟩:=hs.hard z (λy=>y)
      rw [mix_not z2];exact un.tbls b ps z1
  have hok2:HOk X.prog X.w (mix σ δ H G1) s'.heap:=λa o e=>by
    by_cases ha:∃ i,At σ δ i a
    · obtain ⟨i,ai⟩:=ha
      rw [mix_own ai] at e;obtain ⟨o',ob,e',so,eo,_⟩:=ownx i a ai;rw [e] at e';cases e';have x:=I.hok a o e
      cases o with
      | lst xs=>obtain ⟨z,its,n,r',e2⟩:=x;exact ⟨z,its,n,r',keepo i a ai _ e2⟩
      | dK xs=>obtain ⟨z,y,vs,r',ob',es,ep,e2,c⟩:=x;exact ⟨z,y,vs,r',ob',es,ep,keepo i a ai _ e2,c⟩
      | dT xs =>
        obtain ⟨z,y,xs',r',ob',es,ep,e2,c⟩:=x;exact ⟨z,y,xs',Paired.mapP r' λp q' z'=>⟨z'.1,tp _ _ z'.2.1,z'.2.2⟩,ob',es,ep,keepo i a ai _ e2,c⟩
      | _=>exact so.elim
    · have na:∀ i,¬ At σ δ i a:=λi z=>ha ⟨i,z⟩
      rw [mix_not na] at e;refine ObjOk.sub (H1:=G1) (λb xs z=>?_) (λb c z=>?_) (hok a o e)
      · rw [mix_not λi y=>by rw [own1 i b y] at z;cases z];exact z
      · rw [mix_not λi y=>by rw [own1 i b y] at z;cases z];exact z
  obtain ⟨hh,gg,d,t,os'⟩:=s';obtain rfl:os' = s.os:=os;exact I.call (h':=hh) (g':=gg) (d':=d) (t':=t) (ch:=[]) un2 hok2 bare (λb z=>absurd z (by simp))
theorem Hs.behind_val {G1:Hp} {d:D} {v:V} (hs:Hs X.K H0 σ δ G H) (own1:∀ i b,At σ δ i b -> G1 b = none) (ok:RetOk X.K G G1 v (.val d)):Nx X.K H0 σ δ G H G1 (mix σ δ H G1) /\ Rep X.K G1 d v:=by
  obtain ⟨s1,r⟩:=ok;have ex:∀ b,(G1 b = mix σ δ H G1 b /\ ∀ i,¬ At σ δ i b) \/ (G1 b = none /\ ∃ i,At σ δ i b):=λb=>by
    by_cases ha:∃ i,At σ δ i b
    · obtain ⟨i,ai⟩:=ha
      exact .inr ⟨own1 i b ai,i,ai⟩
    · have na:∀ i,¬ At σ δ i b:=λi z=>ha ⟨i,z⟩
      exact .inl ⟨(mix_not na).symm,na⟩
  refine ⟨⟨⟨hs.len,hs.base.trans s1,ex,λi d e=>?_,λi d e=>?_,λi p ds e=>?_,hs.ne⟩,s1,λb o e=>?_⟩,r⟩
  · obtain ⟨v,e1,r1⟩:=hs.fr i d e
    exact ⟨v,e1,Rep.mono s1 _ _ r1⟩
  · obtain ⟨p,e1,o⟩:=hs.ow i d e
    exact ⟨p,e1,o.mono s1 (mix_own ⟨_,e,True.intro,e1⟩)⟩
  · obtain ⟨e1,o⟩:=hs.lk i p ds e
    exact ⟨e1,o.mono s1 (mix_own ⟨_,e,True.intro,e1⟩)⟩
  · rcases hs.ex b with ⟨q,a⟩ | ⟨q,i,a⟩
    · rw [mix_not a];exact s1 b o (q.trans e)
    · rw [mix_own a];exact e
theorem Hs.behind_own {G1 G2:Hp} {d:D} {p:Addr} (hs:Hs X.K H0 σ δ G H) (own1:∀ i b,At σ δ i b -> G1 b = none) (s2:Same G G2) (gp:G2 p = none) (eq:∀ b,b ≠ p -> G2 b = G1 b) (o:Own X.K G2 G1 p d) :
 Hs X.K H0 (some (.ref p) :: σ) (.ow d :: δ) G2 (mix σ δ H G1) /\ Same H (mix σ δ H G1):=by
  obtain ⟨ob,eo,so⟩:=o.soft;have nap:∀ i,¬ At σ δ i p:=λi a=>by rw [own1 i p a] at eo;cases eo
  have mp:mix σ δ H G1 p = G1 p:=mix_not nap;have sm:Same H (mix σ δ H G1):=λb u e=>by
    rcases hs.ex b with ⟨q,a⟩ | ⟨q,i,a⟩
    · rw [mix_not a]
      have e2:=s2 b u (q.trans e);have hb:b ≠ p:=ne_of_none e2 gp;rw [<- eq b hb];exact e2
    · rw [mix_own a];exact e
  have a0:∀ b,At (some (.ref p) :: σ) (.ow d :: δ) 0 b ↔ b = p:=λb=>by
    rw [at_zero]
    constructor
    · rintro ⟨_,z⟩;cases z;rfl
    · rintro rfl;exact ⟨True.intro,rfl⟩
  refine ⟨⟨by simp [hs.len],hs.base.trans s2,λb=>?_,λj d' q=>?_,λj d' q=>?_,λj q' es q=>?_,λj k b a1 a2=>?_⟩,sm⟩
  · by_cases hb:b = p
    · subst hb;exact .inr ⟨gp,0,(a0 b).mpr rfl⟩
    · rcases hs.ex b with ⟨z1,z2⟩ | ⟨z1,j,z2⟩
      · refine .inl ⟨by rw [mix_not z2];exact eq b hb,λj a=>?_⟩
        cases j with
        | zero=>exact hb ((a0 b).mp a)
        | succ j=>exact z2 j (at_cons.mp a)
      · exact .inr ⟨by rw [eq b hb];exact own1 j b z2,j + 1,at_cons.mpr z2⟩
  · cases j with
    | zero=>simp at q
    | succ j =>
      obtain ⟨v,e1,r1⟩:=hs.fr j d' (by simpa using q);exact ⟨v,by simpa using e1,Rep.mono s2 _ _ r1⟩
  · cases j with
    | zero =>
      simp at q;subst q;exact ⟨p,rfl,o.mono (Same.refl _) mp⟩
    | succ j =>
      have q':δ[j]? = some (.ow d'):=by simpa using q
      obtain ⟨b,w1,w2⟩:=hs.ow j d' q';exact ⟨b,by simpa using w1,w2.mono s2 (mix_own ⟨_,q',True.intro,w1⟩)⟩
  · cases j with
    | zero=>simp at q
    | succ j =>
      have q'':δ[j]? = some (.lk q' es):=by simpa using q
      obtain ⟨w1,w2⟩:=hs.lk j q' es q'';exact ⟨by simpa using w1,w2.mono s2 (mix_own ⟨_,q'',True.intro,w1⟩)⟩
  · cases j with
    | zero =>
      cases k with
      | zero=>rfl
      | succ k =>
        have z:=(a0 b).mp a1;subst z;exact absurd (at_cons.mp a2) (nap k)
    | succ j =>
      cases k with
      | zero =>
        have z:=(a0 b).mp a2;subst z;exact absurd (at_cons.mp a1) (nap j)
      | succ k =>
        have:=hs.ne j k b (at_cons.mp a1) (at_cons.mp a2);omega
theorem Hs.behind_new {G1:Hp} {d:D} {v:V} (hs:Hs X.K H0 σ δ G H) (own1:∀ i b,At σ δ i b -> G1 b = none) (ok:RetOk X.K G G1 v (.new d)) :
 ∃ G2,Hs X.K H0 (some v :: σ) (.ow d :: δ) G2 (mix σ δ H G1) /\ Same G G2 /\ Same H (mix σ δ H G1):=by
  obtain ⟨G2,p,rfl,s2,gp,eq,o⟩:=ok;obtain ⟨h1,h2⟩:=hs.behind_own own1 s2 gp eq o;exact ⟨G2,h1,s2,h2⟩
theorem Hs.behind_two {G1:Hp} {x y:D} {v:V} (hs:Hs X.K H0 σ δ G H) (own1:∀ i b,At σ δ i b -> G1 b = none) (ok:RetOk X.K G G1 v (.two x y)) :
 ∃ G2 a p q,v = .ref a /\ G2 a = some (.tup [.ref p,.ref q]) /\ Hs X.K H0 (some (.ref p) :: some (.ref q) :: σ) (.ow x :: .ow y :: δ) G2 (mix σ δ H G1) /\ Same G G2 /\ Same H (mix σ δ H G1):=by
  obtain ⟨G2,a,p,q,rfl,s2,ga,ne,gp,gq,eq,ox,oy⟩:=ok;obtain ⟨o1,e1,_⟩:=ox.soft;have nap:∀ i,¬ At σ δ i p:=λi z=>by rw [own1 i p z] at e1;cases e1
  let G3:Hp:=λb=>if b = p then none else G1 b
  have g3:∀ b,b ≠ p -> G3 b = G1 b:=λb hb=>if_neg hb
  obtain ⟨h1,h2⟩:=hs.behind_own (G1:=G3) (G2:=G2) (d:=y) (p:=q) (λi b z=>by
      by_cases hb:b = p
      · exact if_pos hb
      · rw [g3 b hb];exact own1 i b z) s2 gq (λb hb=>by
      by_cases hp:b = p
      · subst hp;rw [gp];exact (if_pos rfl).symm
      · rw [g3 b hp];exact eq b hp hb) (oy.mono (Same.refl _) (g3 q (λz=>ne z.symm)))
  have m3:mix σ δ H G1 = upd (mix σ δ H G3) p o1:=by
    funext b
    by_cases hb:b = p
    · subst hb;rw [upd_same,mix_not nap];exact e1
    · rw [upd_ne hb]
      by_cases ha:∃ i,At σ δ i b
      · obtain ⟨i,ai⟩:=ha;rw [mix_own ai,mix_own ai]
      · rw [mix_not λi z=>ha ⟨i,z⟩,mix_not λi z=>ha ⟨i,z⟩,g3 b hb]
  have n3:mix σ δ H G3 p = none:=by rw [mix_not nap];exact if_pos rfl
  refine ⟨G2,a,p,q,rfl,ga,?_,s2,?_⟩
  · rw [m3]
    exact h1.fresh n3 (ox.mono (Same.refl _) (by rw [upd_same,e1]))
  · rw [m3];exact h2.trans (upd_mono n3)
end
structure Fn2 (P:Program) (w:World) (K:PySem.W.Frag) (mg:Str -> Option Value) (base:Heap) (k:Nat) (x:Str) (sp:Sp2):Prop where
  ex:∃ (f:Addr) (fd:FuncData) (ps:List Str),FnOk P w K mg base CX0 k f fd ps (liftSp K sp) /\ mg x = some (.ref f) /\ PySem.W.keepIn K (.ref f) = true /\ Binds K fd ps []
section
variable {X:Cx} {H0:Hp} {k:Nat} {x:Str} {sp:Sp2} {e:Expr} {es:List Expr} {tr:RA} {p pos:Pos}
theorem run_fn2 {pins:List (Addr × Obj)} {σ:L2.St} {δ:List Sl} {G H:Hp} {s:Shared} {f:Addr} {fd:FuncData} {ps:List Str} {us:List Value} {vs:List V} {ds:List D} {Qd:Ret -> Prop} {Q:Value -> Shared -> Prop}
 (F:FnOk X.prog X.w X.K X.mg X.base CX0 k f fd ps (liftSp X.K sp)) (hr:Room k X.A) (hb:Binds X.K fd ps []) (hs:Hs X.K H0 σ δ G H) (I:Inv X pins σ H s) (r:Vals vs us) (rd:Reps X.K G ds vs) (h:sp ds Qd)
 (q:∀ v G1 r u s',Inv X pins σ (mix σ δ H G1) s' -> RelV v u -> (∀ i b,At σ δ i b -> G1 b = none) -> RetOk X.K G G1 v r -> Qd r -> Q u s'):wpAny (model X.prog X.w) X.A (call (.ref f) us) Q X.xe s:=by
  have hh:liftSp X.K sp vs G (λv G1=>∃ r,RetOk X.K G G1 v r /\ Qd r) E0:=⟨ds,Qd,rd,h,λv H' r ok q=>⟨r,ok,q⟩⟩;have hl:us.length = ps.length:=by rw [<- r.length];exact F.len _ _ _ _ hh
  have hbt:BindsTo s fd ⟨us,[]⟩ (ps.zip us):=by simpa using hb s us I.kIn (by simpa using hl)
  refine wpAny_call (codeAny_mono (F.run X.A X.stack s G ⟨us,[]⟩ us vs _ E0 hr (hs.env0 I) hbt r hh) λr s' hq=>?_)
  cases r with
  | error e=>exact False.elim hq
  | ok fl =>
    cases fl with
    | ret u =>
      obtain ⟨v,G1,I1,rv,⟨r,ok,q1⟩,own1⟩:=hs.behind I hq;exact q v G1 r u s' I1 rv own1 ok q1
    | next=>exact False.elim hq
    | brk=>exact False.elim hq
    | cont=>exact False.elim hq
def retQ (Qd:D -> Prop) (r:Ret):Prop:=match r with
  | .val d=>Qd d
  | .new d=>Qd d
  | .two x y=>Qd (.tup [x,y])
  | .fo x y=>Qd (.tup [x,y])
def retN (Qd:D -> Prop) (r:Ret):Prop:=match r with
  | .new d=>Qd d
  | _=>False
def rCall (sp:Sp2) (tr:RA) (δ:List Sl) (Q:D -> Prop):Prop:=tr δ λds=>sp ds (retQ Q)
def rCallN (sp:Sp2) (tr:RA) (δ:List Sl) (Q:D -> Prop):Prop:=tr δ λds=>sp ds (retN Q)
theorem e_call (F:Fn2 X.prog X.w X.K X.mg X.base k x sp) (hr:Room k X.A) (ha:PA2 X H0 (e :: es) tr) (hg:Gl X x:=by rfl) (hdb:(x == ("__debug__" : Str)) = false:=by decide)
 (he:starEach (e :: es) X.env = (false,eval e X.env) :: starEach es X.env:=by rfl) (hpl:(backTo pos (starEach es X.env)).any (·.1) = false:=by rfl):PE2 X H0 (.Call (.Name x p) (e :: es) [] pos) (rCall sp tr):=by
  obtain ⟨f,fd,ps,F,hm,hk,hb⟩:=F.ex;intro pins s σ H Q I ⟨δ,G,Qd,hs,ht,kk⟩;refine wpAny_Call_Name_kw (ld_glob I hg hm ?_ hdb);have hA:liftA X.K H0 tr σ H (λvs H'=>∃ G' ds,Nx X.K H0 σ δ G H G' H' /\ Reps X.K G' ds vs /\ sp ds (retQ Qd)):=⟨δ,G,_,hs,ht,λvs H' G' ds n r q=>⟨G',ds,n,r,q⟩⟩;refine PySem.W.callWith_K (h₀:=X.base) I.ok.mod.kin hk (thn (ha pos pins s σ H _ I hA) λus s1 ⟨vs,H1,I1,r,G',ds,n,rd,q⟩=>⟨I1.kIn,?_⟩) he hpl;refine run_fn2 F hr hb n.hs I1 r rd q λv G1 r u s' I2 rv own1 ok q2=>?_
  cases r with
  | val d =>
    obtain ⟨n2,r2⟩:=n.hs.behind_val own1 ok;exact ⟨v,_,I2,rv,kk v _ _ d (n.trans n2) r2 q2⟩
  | new d =>
    obtain ⟨G2,n2,sg,sh⟩:=n.hs.behind_new own1 ok;obtain ⟨G3,n3,s3,r3⟩:=n2.settle;exact ⟨v,_,I2,rv,kk v _ _ d ⟨n3,(n.g.trans sg).trans s3,n.h.trans sh⟩ r3 q2⟩
  | two x y =>
    obtain ⟨G2,a,p,q,rfl,ga,n2,sg,sh⟩:=n.hs.behind_two own1 ok;obtain ⟨G3,n3,s3,r3⟩:=n2.settle;obtain ⟨G4,n4,s4,r4⟩:=n3.settle;exact ⟨_,_,I2,rv,kk _ _ _ (.tup [x,y]) ⟨n4,((n.g.trans sg).trans s3).trans s4,n.h.trans sh⟩ (by simp only [Rep];exact ⟨a,_,rfl,s4 _ _ (s3 _ _ ga),Reps.cons (Rep.mono s4 _ _ r3) (Reps.cons r4 Reps.nil)⟩) q2⟩
  | fo x y =>
    obtain ⟨G2,a,vx,q,rfl,s2,ga,rx,gq,eq,oy⟩:=ok;obtain ⟨n2,sh⟩:=n.hs.behind_own own1 s2 gq eq oy;obtain ⟨G3,n3,s3,r3⟩:=n2.settle;exact ⟨_,_,I2,rv,kk _ _ _ (.tup [x,y]) ⟨n3,(n.g.trans s2).trans s3,n.h.trans sh⟩ (by simp only [Rep];exact ⟨a,_,rfl,s3 _ _ ga,Reps.cons (Rep.mono s3 _ _ rx) (Reps.cons r3 Reps.nil)⟩) q2⟩
theorem n_call (F:Fn2 X.prog X.w X.K X.mg X.base k x sp) (hr:Room k X.A) (ha:PA2 X H0 (e :: es) tr) (hg:Gl X x:=by rfl) (hdb:(x == ("__debug__" : Str)) = false:=by decide)
 (he:starEach (e :: es) X.env = (false,eval e X.env) :: starEach es X.env:=by rfl) (hpl:(backTo pos (starEach es X.env)).any (·.1) = false:=by rfl):PN2 X H0 (.Call (.Name x p) (e :: es) [] pos) (rCallN sp tr):=by
  obtain ⟨f,fd,ps,F,hm,hk,hb⟩:=F.ex;intro pins s σ H Q I ⟨δ,G,Qd,hs,ht,kk⟩;refine wpAny_Call_Name_kw (ld_glob I hg hm ?_ hdb);have hA:liftA X.K H0 tr σ H (λvs H'=>∃ G' ds,Nx X.K H0 σ δ G H G' H' /\ Reps X.K G' ds vs /\ sp ds (retN Qd)):=⟨δ,G,_,hs,ht,λvs H' G' ds n r q=>⟨G',ds,n,r,q⟩⟩;refine PySem.W.callWith_K (h₀:=X.base) I.ok.mod.kin hk (thn (ha pos pins s σ H _ I hA) λus s1 ⟨vs,H1,I1,r,G',ds,n,rd,q⟩=>⟨I1.kIn,?_⟩) he hpl;refine run_fn2 F hr hb n.hs I1 r rd q λv G1 r u s' I2 rv own1 ok q2=>?_
  cases r with
  | val d=>exact q2.elim
  | two x y=>exact q2.elim
  | fo x y=>exact q2.elim
  | new d =>
    obtain ⟨G2,n2,sg,sh⟩:=n.hs.behind_new own1 ok;exact ⟨v,_,I2,rv,kk v _ _ d n2 (n.g.trans sg) (n.h.trans sh) q2⟩
end
section
variable {prog:Program} {w:World} {A:Around} {E:Value -> Shared -> Prop}
theorem draw_list {it t:Addr} {items:Array Value} (hne:t ≠ it):∀ (n i:Nat) (s:Shared) (Q:List Value -> Shared -> Prop),s.heap.IsListIter it t i -> s.heap.IsList t items -> i + n <= items.size ->
 (∀ h',h'.IsListIter it t (i + n) -> Heap.SameBut it s.heap h' -> Q ((items.toList.drop i).take n) { s with heap:=h' }) -> wpAny (model prog w) A (draw (.ref it) n) Q E s
  | 0,i,s,Q,hit,_,_,hQ=>by
    show wpAny _ _ (pure []) Q E s
    exact wpAny_pure (by simpa using hQ s.heap hit (Heap.SameBut.refl ..))
  | n + 1,i,s,Q,hit,ht,hle,hQ=>by
    have hlt:i < items.size:=by omega
    show wpAny _ _ (pyNext (.ref it) >>= _) Q E s
    refine wpAny_bind (wpAny_pyNext_list_item hit ht (x:=items[i]) (by simp [hlt]) λh₁ hit₁ hs₁=>?_);refine wpAny_bind (wpAny_holding (draw_list hne n (i + 1) _ _ hit₁ (ht.at λo e=>(hs₁.2 t hne).trans e) (by omega) λh₂ hit₂ hs₂=>wpAny_pure ?_));have hd:items.toList.drop i = items[i] :: items.toList.drop (i + 1):=by simp [List.drop_eq_getElem_cons,hlt]
    have:=hQ h₂ (by rw [show i + (n + 1) = i + 1 + n by omega];exact hit₂) (hs₁.trans hs₂);rw [hd,List.take_succ_cons] at this;exact this
theorem unpackItems_list {s:Shared} {t:Addr} {items:Array Value} {Q:List Value -> Shared -> Prop} (hh:A.handled = none) (ht:s.heap.IsList t items)
 (hQ:∀ h',Heap.ExtBut s.heap.objs.size s.heap h' -> Q items.toList { s with heap:=h' }):wpAny (model prog w) A (unpackItems (.ref t) items.size none) Q E s:=by
  have hlt:t ≠ s.heap.objs.size:=by obtain ⟨o,ho,_⟩:=ht;exact Nat.ne_of_lt (Heap.lt_size ho)
  unfold unpackItems;refine wpAny_bind ?_
  · unfold notIterableAtAll
    refine wpAny_bind (wpAny_specialOf ht.typeIs PySem.slot_list_iter.lookup ?_);refine wpAny_pure ?_;simp only [Bool.false_eq_true,if_false];refine wpAny_bind (wpAny_holding (wpAny_pyIter_list ht ?_));refine wpAny_bind (wpAny_holding (draw_list hlt items.size 0 _ _ ⟨_,Heap.get?_push_size _ rfl,rfl,rfl⟩ (ht.at λo e=>Heap.get?_push_of_some _ e) (by omega) λh₁ hit₁ hs₁=>?_));have hall:List.take items.size (List.drop 0 items.toList) = items.toList:=by
      rw [List.drop_zero];exact List.take_of_length_le (by simp)
    rw [hall];rw [if_neg (by simp)];have ht₁:h₁.IsList t items:=ht.at λo e=>(hs₁.2 t hlt).trans (Heap.get?_push_of_some _ e)
    refine wpAny_bind (wpAny_holding (wpAny_pyNext_list_end hh hit₁ ht₁ (by simp) λh₂ he₂=>?_));simp only [Option.isSome_none,Bool.false_eq_true,if_false];refine wpAny_pure (hQ h₂ λb o hb e=>he₂ b o hb (hs₁.extBut b o hb (Heap.get?_push_of_some _ e)))
theorem assign_Tuple_list {s:Shared} {env:Env} {elts:List Expr} {x1} {pos:Pos} {t:Addr} {items:Array Value} {Q:Unit -> Shared -> Prop} (hh:A.handled = none) (ht:s.heap.IsList t items)
 (hn:(assignEach elts env).length = items.size) (hstar:(assignEach elts env).findIdx? (·.1) = none)
 (h:∀ h',Heap.ExtBut s.heap.objs.size s.heap h' -> wpAny (model prog w) A (assignInOrder ((assignEach elts env).map (·.2)) items.toList) Q E { s with heap:=h' }) :
 wpAny (model prog w) A (assign (.Tuple elts x1 pos) env (.ref t)) Q E s:=by
  rw [PyProof.Rows.assign_Tuple];refine wpAny_bind (wpAny_standAt ?_);unfold unpack;rw [hn,hstar];exact wpAny_bind (wpAny_holding (unpackItems_list hh ht h))
end
section
variable {X:Cx} {H0:Hp} {es:List Expr} {gs:RGs} {pos:Pos}
def gLstT (K:PySem.W.Frag) (n:Nat) (t:TGs):TG:=λv σ H Q=>∃ a xs,v = .ref a /\ SqL K H a xs /\ xs.length = n /\ t xs σ H Q
theorem pg_lst {es:List Expr} {k:Nat} {t:TGs} {n:Nat} (hc:X.calm = true) (h:PGs X es t)
 (hn:(assignEach es X.env).length = n:=by rfl) (hst:(assignEach es X.env).findIdx? (·.1) = none:=by rfl):PG X (.Tuple es k pos) (gLstT X.K n t):=by
  intro pins s σ H v u Q I r hw;obtain ⟨a,xs,e1,hq,hl,hw⟩:=hw;subst e1;cases r;obtain ⟨its,rv,ht,hz⟩:=I.list hq;refine assign_Tuple_list (I.ok.hd hc) ht.isList (by simp [hn,<- hl,rv.length]) hst λh' hx=>?_
  have I1:L2.Inv X pins σ H { s with heap:=h' }:=I.kept (t':=s.toks) λb o e=>hx b o (Nat.ne_of_lt (Heap.lt_size e)) e
  exact h pins _ σ H xs _ Q I1 (by simpa using rv) hw
def gLst2 (n:Nat) (gs:RGs) (d:D) (δ:List Sl) (Q:List Sl -> Prop):Prop:=match d with
  | .lst ds=>ds.length = n /\ gs ds δ Q
  | _=>False
theorem g_lst {n k:Nat} (hc:X.calm = true) (h:PGs2 X H0 es gs) (hn:(assignEach es X.env).length = n:=by rfl) (hst:(assignEach es X.env).findIdx? (·.1) = none:=by rfl):PG2 X H0 (.Tuple es k pos) (gLst2 n gs) :=
  PG.weak (pg_lst (n:=n) hc h hn hst) λv σ H Q ⟨δ,G,d,Qd,hs,r,h,k⟩=>by
    cases d with
    | lst ds =>
      simp only [Rep] at r;obtain ⟨a,vs,rfl,h2,h3⟩:=r;exact ⟨a,vs,rfl,hs.sub.seq h2,by rw [<- h3.length];exact h.1,δ,G,ds,Qd,hs,h3,h.2,k⟩
    | _=>exact h.elim
end
section
def Ite (K:PySem.W.Frag) (a:Addr):It :=
  ⟨λi H=>∃ xs x,SqL K H a xs /\ xs[i]? = some x,λi H x H'=>∃ p y,H p = none /\ x = .ref p /\ (∀ xs,SqL K H a xs -> xs[i]? = some y) /\ H' = upd H p (.tup [.int i,y]),λi H=>∃ xs,SqL K H a xs /\ xs.length <= i⟩
theorem turn_enum {P:Program} {w:World} {K:PySem.W.Frag} {ts:List Expr} {k:Nat} {tp:Pos} (a e it:Addr) (hne:e ≠ it):Turn P w K (.Tuple ts k tp) (Ite K a) [e,it] e (λi h=>(∃ old,IsEnum h e it i old) /\ h.IsListIter it a i) where
  mem:=by simp
  obj:=λi h st b hb=>by
    obtain ⟨⟨old,h1⟩,o,h2,c,d⟩:=st
    rcases List.mem_cons.mp hb with z | z
    · subst z;exact ⟨_,h1,λv z=>by cases z⟩
    · have z:b = it:=by simpa using z
      subst z;exact ⟨o,h2,λv z=>by rw [d] at z;cases z⟩
  keep:=λi h h' st k=>by
    obtain ⟨⟨old,h1⟩,h2⟩:=st;exact ⟨⟨old,k e (by simp) _ h1⟩,h2.at λo q=>k it (by simp) o q⟩
  item:=by
    intro X hP hw hK hc i pins s σ H E I hf st hg;subst hP hw hK;obtain ⟨xs,x,hq,hx⟩:=hg;obtain ⟨its,rv,p,hz⟩:=I.list hq;obtain ⟨u,hu,ru⟩:=rv.get hx;obtain ⟨⟨old,h1⟩,h2⟩:=st;obtain ⟨f0,f1,f2,f3,f4,f5⟩:=hf e (by simp);obtain ⟨g0,g1,g2,g3,g4,g5⟩:=hf it (by simp);have fr:H s.heap.objs.size = none:=I.hok.fresh (Nat.le_refl _);refine wpAny_pyNext_enum_item h1 h2 p.isList (x:=u) (by simpa using hu) hne λh' ho hit' hT hsz hk=>⟨_,rfl,?_⟩
    have elt:e < s.heap.objs.size:=Heap.lt_size h1;have ilt:it < s.heap.objs.size:=by obtain ⟨o,q,_⟩:=h2;exact Heap.lt_size q
    refine wpAny_letOwnedTupleGo_enum ho λh3 he3 hs3=>?_
    replace hs3:Heap.SameBut e h' h3:=hs3;have kk:∀ b o,b ≠ e -> b ≠ it -> s.heap.get? b = some o -> h3.get? b = some o:=λb o hb hb' q=>(hs3.2 b hb).trans (hk b o hb hb' q)
    have nit:∀ b u,H b = some u -> b ≠ e /\ b ≠ it:=λb u q=>⟨(λz=>by rw [z,f0] at q;cases q),(λz=>by rw [z,g0] at q;cases q)⟩
    have hT3:h3.get? s.heap.objs.size = some { cls:=.type "tuple", data:=.seq #[.int i s.toks,u] }:=(hs3.2 _ (Nat.ne_of_gt elt)).trans hT;refine ⟨.ref s.heap.objs.size,upd H s.heap.objs.size (.tup [.int i,x]),?_,rfl,⟨_,x,fr,rfl,λys hy=>by rw [I.list_inj hy hq];exact hx,rfl⟩,⟨⟨u,by simpa using he3⟩,hit'.at λo q=>(hs3.2 it hne.symm).trans q⟩,λb hb=>?_⟩
    · suffices h:L2.Inv X pins σ (upd H s.heap.objs.size (.tup [.int i,x])) { s with heap:=h3,gens:=s.gens,drawn:=s.drawn,toks:=s.toks + 1 } from h
      refine I.step (g':=s.gens) (d':=s.drawn) (ch:=[e,it]) (h':=h3) (t':=s.toks + 1) (λb hb=>?_) (λb o _ _ hc e' _=>?_) (λb o _ _ hc e' _=>⟨o.slots,?_⟩) (λb o hc e' n=>?_) (λb o hc e'=>⟨o,?_⟩) (λb ys q=>?_) (λb o u' q=>?_) (λb ps q=>⟨#[],?_⟩) (λm hm=>?_) (λb o q=>?_) I.bare
      · rcases List.mem_cons.mp hb with z | z
        · subst z;exact ⟨f3,f1,f4,f5⟩
        · have z:b = it:=by simpa using z
          subst z;exact ⟨g3,g1,g4,g5⟩
      · exact kk b o (λz=>hc (by simp [z])) (λz=>hc (by simp [z])) e'
      · exact kk b o (λz=>hc (by simp [z])) (λz=>hc (by simp [z])) e'
      · rw [upd_ne (Nat.ne_of_lt (Heap.lt_size e'))];exact n
      · exact kk b o (λz=>hc (by simp [z])) (λz=>hc (by simp [z])) e'
      · rw [upd_ne (ne_of_none q fr)];exact q
      · rw [upd_ne (ne_of_none q fr)];exact q
      · rw [upd_ne (ne_of_none q fr),q];simp
      · obtain ⟨o,es,ep,ho',r⟩:=hm
        exact ⟨o,es,ep,kk _ o f1.symm g1.symm ho',r⟩
      · by_cases hb:b = s.heap.objs.size
        · subst hb
          rw [upd_same] at q;cases q;exact ⟨by show 2 <= sizeLine;decide,[.int i s.toks,u],.cons ⟨_,rfl⟩ (.cons ru .nil),⟨_,hT3,rfl,_,rfl⟩⟩
        · rw [upd_ne hb] at q
          refine (I.hok b o q).stay (λc v hc z=>?_) (λc z=>?_) (λc ys z=>?_)
          · rcases hc with y | y
            · rw [y] at z ⊢;exact kk b v (nit b _ q).1 (nit b _ q).2 z
            · exact kk c v (nit c _ y).1 (nit c _ y).2 z
          · rw [upd_ne (ne_of_none z fr)];exact z
          · rw [upd_ne (ne_of_none z fr)];exact z
    · have hb':b ≠ s.heap.objs.size:=by
        rcases List.mem_cons.mp hb with z | z
        · subst z;exact Nat.ne_of_lt elt
        · have z:b = it:=by simpa using z
          subst z;exact Nat.ne_of_lt ilt
      rw [upd_ne hb'];exact (hf b hb).1
  done:=by
    intro X hP hw hK hc i pins s σ H E I hf st hg;subst hP hw hK;obtain ⟨xs,hq,hx⟩:=hg;obtain ⟨its,rv,p,hz⟩:=I.list hq;obtain ⟨⟨old,h1⟩,h2⟩:=st;obtain ⟨f0,f1,f2,f3,f4,f5⟩:=hf it (by simp);have hl:=rv.length;exact wpAny_pyNext_enum_end (I.ok.hd hc) h1 h2 p.isList (by simp;omega) λh' eb=>⟨rfl,I.turned (t':=s.toks) (λb o hb e=>eb b o hb e) f0 f1 f3 f4 f5⟩
  self:=λ_ _ _ _ _ st h=>by
    obtain ⟨⟨old,h1⟩,_⟩:=st;exact wpAny_pyIter_enum h1 h
variable {X:Cx} {H0:Hp}
def iEnum (K:PySem.W.Frag) (ta:TA):TI:=λσ H R=>ta σ H λvs H1=>∃ a,vs = [.ref a] /\ (∃ xs,SqL K H1 a xs) /\ R (Ite K a) H1
theorem pi_enum {ts:List Expr} {k:Nat} {tp:Pos} {a:Expr} {ta:TA} {p pos:Pos} (hg:Gl X "enumerate") (hm:X.mg "enumerate" = none) (ha:PA X [a] ta) (hs:starEach [a] X.env = [(false,eval a X.env)]:=by rfl) :
 PI X (.Tuple ts k tp) (.Call (.Name "enumerate" p) [a] [] pos) (iEnum X.K ta):=by
  intro pins s σ H R I h;refine wpAny_Call_Name_kw (ld_blt I hg hm (u:=.type "enumerate") rfl ?_);refine PyProof.Rows.callWith_type1 (thn (ha pos pins s σ H _ I h) λus s1 ⟨vs,H1,I1,r1,q1⟩=>?_) hs rfl;obtain ⟨l,e,⟨xs,hq⟩,q⟩:=q1;subst e;obtain ⟨u,rfl,ru⟩:=vals1 r1;cases ru;obtain ⟨its,rv,pl,hz⟩:=I1.list hq;refine call_enumerate_list pl.isList λh' he hit hsz hk=>?_
  refine wpAny_pyIter_enum he ?_
  have I2:L2.Inv X pins σ H1 { s1 with heap:=h' }:=I1.kept (t':=s1.toks) hk;refine ⟨s1.heap.objs.size + 1,[s1.heap.objs.size + 1,s1.heap.objs.size],_,_,H1,rfl,I2,turn_enum l _ _ (Nat.succ_ne_self _),⟨⟨_,by simpa using he⟩,hit⟩,λb hb=>?_,q⟩;have hb':s1.heap.objs.size <= b:=by
    rcases List.mem_cons.mp hb with z | z
    · rw [z];exact Nat.le_succ _
    · have z:b = s1.heap.objs.size:=by simpa using z
      rw [z];exact Nat.le_refl _
  exact I1.fpOk hb' (I1.hok.fresh hb')
def enumD (n:Nat):List D -> List D
  | []=>[]
  | d :: ds=>.tup [.int n,d] :: enumD (n + 1) ds
theorem enumD_length (n:Nat) (ds:List D):(enumD n ds).length = ds.length:=by
  induction ds generalizing n with
  | nil=>rfl
  | cons d ds ih=>simp [enumD,ih]
theorem enumD_drop:∀ (n i:Nat) (ds:List D) (d:D),ds[i]? = some d -> (enumD n ds).drop i = .tup [.int (n + i:Nat),d] :: (enumD n ds).drop (i + 1)
  | n,_,[],_,h=>by simp at h
  | n,0,d' :: ds,d,h=>by simp at h;subst h;simp [enumD]
  | n,i + 1,d' :: ds,d,h=>by
    have:=enumD_drop (n + 1) i ds d (by simpa using h);simp only [enumD,List.drop_succ_cons];rw [this];simp only [Nat.add_assoc,Nat.add_comm 1 i]
def lst1 (ds:List D) (Q:List D -> Prop):Prop:=match ds with
  | [.lst xs]=>Q xs
  | _=>False
theorem lst1_of {ds:List D} {Q:List D -> Prop} (h:lst1 ds Q):∃ xs,ds = [.lst xs] /\ Q xs:=by
  unfold lst1 at h
  split at h
  · exact ⟨_,rfl,h⟩
  · exact h.elim
def rForE (tr:RA) (g:RG) (tb:RS) (E:Ends2) (δ:List Sl):Prop:=tr δ λds=>lst1 ds λxs=>loop g tb E (enumD 0 xs) δ
variable {ts:List Expr} {k:Nat} {tp p pos pos2:Pos} {a:Expr} {tr:RA} {g:RG} {tb:RS} {body:List Stmt}
theorem s_forE (hp:PassesOwn (model X.prog X.w) X.A X.env X.xe) (hc:X.calm = true) (hgl:Gl X "enumerate") (hm:X.mg "enumerate" = none) (ha:PA2 X H0 [a] tr) (hg:PG2 X H0 (.Tuple ts k tp) g) (hb:PSs2 X H0 body tb) (hst:starEach [a] X.env = [(false,eval a X.env)]:=by rfl)
 (hs:∀ x,foldedSetIterable (.Call (.Name "enumerate" p) [a] [] pos2) X.env x = pure x:=by intro _;rfl):PS2 X H0 (.For (.Tuple ts k tp) (.Call (.Name "enumerate" p) [a] [] pos2) body [] pos) (rForE tr g tb) :=
  PS.weak (ps_for hp hc (pi_enum hgl hm ha hst) hg hb hs) λD σ H ⟨δ,G,E,hs,ht,go⟩=>⟨δ,G,_,hs,ht,λvs H1 G1 ds n1 r1 q1=>by
    obtain ⟨xs,rfl,q2⟩:=lst1_of q1;simp only [Reps,Rep] at r1;obtain ⟨v,r,rfl,⟨l,ws,rfl,h2,h3⟩,rfl⟩:=r1;refine ⟨l,rfl,⟨ws,n1.hs.sub.seq h2⟩,λi m σ' H'=>m = ws.length - i /\ i <= ws.length /\ ∃ δ' G',Hs X.K H0 σ' δ' G' H' /\ Same G1 G' /\ loop g tb E ((enumD 0 xs).drop i) δ',⟨ws.length,by simp,Nat.zero_le _,δ,G1,n1.hs,Same.refl _,q2⟩,?_⟩;rintro i m σ' H' ⟨rfl,hi,δ',G',h',s',q'⟩;have sq:SqL X.K H' l ws:=h'.sub.seq (s'.seq h2)
    by_cases hlt:i < ws.length
    · have hx:ws[i]? = some ws[i]:=by simp [hlt]
      obtain ⟨d,ed,rd⟩:=h3.getV hx;rw [enumD_drop 0 i xs d ed] at q';refine .inr ⟨⟨ws,ws[i],sq,hx⟩,λσ2 H2=>∃ δ' G',Hs X.K H0 σ2 δ' G' H2 /\ Same G1 G' /\ loop g tb E ((enumD 0 xs).drop (i + 1)) δ',λσ2 H2 z=>⟨ws.length - (i + 1),by omega,rfl,hlt,z⟩,λx H2 ⟨p,y,hp,ex,hy,eh⟩=>?_⟩;subst ex eh;have ey:ws[i] = y:=by
        have:=hy ws sq;rw [hx] at this;exact Option.some.inj this
      obtain ⟨h4,s4⟩:=h'.laid (o:=.tup [.int i,y]) hp;refine ⟨δ',_,.tup [.int (0 + i:Nat),d],_,h4,?_,q',λσ2 H2 δ2 G2 h2' s2 q2=>⟨δ2,G2,_,h2',q2,⟨λσ3 H3 δ3 G3 h3' s3 ⟨δ4,f4,q3⟩=>⟨δ4,G3,h3'.forget f4,((s'.trans s4).trans s2).trans s3,q3⟩,go.rt,λσ3 H3 δ3 G3 h3' s3 q3=>go.nx σ3 H3 δ3 G3 h3' ((((n1.g.trans s').trans s4).trans s2).trans s3) q3,λσ3 H3 δ3 G3 h3' s3 ⟨δ4,f4,q3⟩=>⟨δ4,G3,h3'.forget f4,((s'.trans s4).trans s2).trans s3,q3⟩⟩⟩⟩;simp only [Rep];refine ⟨p,_,rfl,upd_same,Reps.cons (by simp only [Rep];rw [Nat.zero_add]) (Reps.cons ?_ Reps.nil)⟩;subst ey;exact Rep.mono (s'.trans s4) _ _ rd
    · have e:i = ws.length:=by omega
      subst e;refine .inl ⟨⟨ws,sq,Nat.le_refl _⟩,go.nx σ' H' δ' G' h' (n1.g.trans s') ?_⟩;rw [List.drop_of_length_le (by rw [enumD_length,h3.length];exact Nat.le_refl _)] at q'
      exact q'⟩
end
def RepsB (K:PySem.W.Frag) (G H:Hp):List D -> List V -> Prop
  | [],vs=>vs = []
  | d :: ds,vs=>∃ v r,vs = v :: r /\ RepB K G H d v /\ RepsB K G H ds r
def liftAB (K:PySem.W.Frag) (H0:Hp) (t:RA):TA:=λσ H Q=>∃ δ G Qd,Hs K H0 σ δ G H /\ t δ Qd /\ ∀ vs H' G' ds,Nx K H0 σ δ G H G' H' -> RepsB K G' H' ds vs -> Qd ds -> Q vs H'
def PAB2 (X:Cx) (H0:Hp) (es:List Expr) (t:RA):Prop:=PA X es (liftAB X.K H0 t)
section
variable {X:Cx} {H0:Hp} {e:Expr} {t:RE} {pos p:Pos} {es:List Expr} {tr:RA} {x:Str} {id T:String}
theorem ab_nil:PAB2 X H0 [] rNil:=PA.weak pa_nil λσ H Q ⟨δ,G,Qd,hs,ht,k⟩=>k [] H G [] (Nx.refl hs) rfl ht
theorem ab_cons (ha:PB2 X H0 e t) (hr:PAB2 X H0 es tr) (hs:starEach (e :: es) X.env = (false,eval e X.env) :: starEach es X.env:=by rfl):PAB2 X H0 (e :: es) (rCons t tr) :=
  PA.weak (pa_cons ha hr hs) λσ H Q ⟨δ,G,Qd,hs,ht,k⟩=>⟨δ,G,_,hs,ht,λv H1 G1 d n1 r1 q1=>⟨δ,G1,_,n1.hs,q1,λvs H2 G2 ds n2 r2 q2=>k (v :: vs) H2 G2 (d :: ds) (n1.trans n2) ⟨v,vs,rfl,r1.mono n2.g n2.h,r2⟩ q2⟩⟩
def LfC (K:PySem.W.Frag) (r:List V -> Hp -> VK -> Prop) (r2:List D -> (D -> Prop) -> Prop):Prop :=
  ∀ (H0:Hp) (σ:L2.St) (δ:List Sl) (G H:Hp) (vs:List V) (ds:List D) (Qd:D -> Prop) (Q:VK),Hs K H0 σ δ G H -> RepsB K G H ds vs -> r2 ds Qd -> (∀ v H' G' d,Nx K H0 σ δ G H G' H' -> Rep K G' d v -> Qd d -> Q v H') -> r vs H Q
def LfN (K:PySem.W.Frag) (r:List V -> Hp -> VK -> Prop) (r2:List D -> (D -> Prop) -> Prop):Prop :=
  ∀ (H0:Hp) (σ:L2.St) (δ:List Sl) (G H:Hp) (vs:List V) (ds:List D) (Qd:D -> Prop) (Q:VK),Hs K H0 σ δ G H -> RepsB K G H ds vs -> r2 ds Qd -> (∀ v H' G' d,Hs K H0 (some v :: σ) (.ow d :: δ) G' H' -> Same G G' -> Same H H' -> Qd d -> Q v H') -> r vs H Q
def rCB (r2:List D -> (D -> Prop) -> Prop) (tr:RA) (δ:List Sl) (Q:D -> Prop):Prop:=tr δ λds=>r2 ds Q
variable {r:List V -> Hp -> VK -> Prop} {r2:List D -> (D -> Prop) -> Prop}
theorem lift_cb (lf:LfC X.K r r2):∀ σ H Q,liftE X.K H0 (rCB r2 tr) σ H Q -> tCB r (liftAB X.K H0 tr) σ H Q:=λσ H Q ⟨δ,G,Qd,hs,ht,k⟩ =>
  ⟨δ,G,_,hs,ht,λvs H1 G1 ds n1 r1 q1=>lf H0 σ δ G1 H1 vs ds Qd Q n1.hs r1 q1 λv H2 G2 d n2 rr q2=>k v H2 G2 d (n1.trans n2) rr q2⟩
theorem lift_cbn (lf:LfN X.K r r2):∀ σ H Q,liftN X.K H0 (rCB r2 tr) σ H Q -> tCB r (liftAB X.K H0 tr) σ H Q:=λσ H Q ⟨δ,G,Qd,hs,ht,k⟩ =>
  ⟨δ,G,_,hs,ht,λvs H1 G1 ds n1 r1 q1=>lf H0 σ δ G1 H1 vs ds Qd Q n1.hs r1 q1 λv H2 G2 d n2 sg sh q2=>k v H2 G2 d n2 (n1.g.trans sg) (n1.h.trans sh) q2⟩
theorem e_callB (hc:CallR X (.builtin id) r) (lf:LfC X.K r r2) (hm:X.mg x = none) (hv:bootBuiltins x = some (.builtin id)) (ha:PAB2 X H0 (e :: es) tr) (hg:Gl X x:=by rfl) (hn:x ≠ "__name__" := by decide) (hdb:(x == ("__debug__" : Str)) = false:=by decide)
 (he:starEach (e :: es) X.env = (false,eval e X.env) :: starEach es X.env:=by rfl) (hpl:(backTo pos (starEach es X.env)).any (·.1) = false:=by rfl):PE2 X H0 (.Call (.Name x p) (e :: es) [] pos) (rCB r2 tr) :=
  PE.weak (pe_callB hc hg hm hv ha hn hdb he hpl) (lift_cb lf)
theorem n_callTy (hc:CallR X (.type T) r) (lf:LfN X.K r r2) (hm:X.mg x = none) (hv:bootBuiltins x = some (.type T)) (ha:PAB2 X H0 (e :: es) tr) (hg:Gl X x:=by rfl) (hn:x ≠ "__name__" := by decide) (hdb:(x == ("__debug__" : Str)) = false:=by decide)
 (he:starEach (e :: es) X.env = (false,eval e X.env) :: starEach es X.env:=by rfl) (hpl:(backTo pos (starEach es X.env)).any (·.1) = false:=by rfl):PN2 X H0 (.Call (.Name x p) (e :: es) [] pos) (rCB r2 tr) :=
  PE.weak (pe_callTy hc hg hm hv ha hn hdb he hpl) (lift_cbn lf)
def dLen (ds:List D) (Q:D -> Prop):Prop:=match ds with
  | [.lst xs]=>Q (.int xs.length)
  | [.tup xs]=>Q (.int xs.length)
  | _=>False
theorem lf_len {K:PySem.W.Frag}:LfC K (λxs H Q=>∃ p ys,xs = [.ref p] /\ (SqL K H p ys \/ SqT K H p ys) /\ Q (.int ys.length) H) dLen:=λH0 σ δ G H vs ds Qd Q hs r h k=>by
  unfold dLen at h
  split at h
  · rename_i xs
    obtain ⟨v,rr,rfl,⟨a,ws,rfl,h2,h3⟩,h4⟩:=r;obtain rfl:rr = []:=h4;exact ⟨a,ws,rfl,.inl h2,k _ H G _ (Nx.refl hs) (by simp only [Rep];rw [h3.length]) h⟩
  · rename_i xs
    obtain ⟨v,rr,rfl,⟨a,ws,rfl,h2,h3⟩,h4⟩:=r;obtain rfl:rr = []:=h4;exact ⟨a,ws,rfl,.inr (SqT.of h2),k _ H G _ (Nx.refl hs) (by simp only [Rep];rw [h3.length]) h⟩
  · exact h.elim
theorem e_len (hm:X.mg "len" = none) (ha:PAB2 X H0 (e :: es) tr) (hg:Gl X "len" := by rfl)
 (he:starEach (e :: es) X.env = (false,eval e X.env) :: starEach es X.env:=by rfl) (hpl:(backTo pos (starEach es X.env)).any (·.1) = false:=by rfl):PE2 X H0 (.Call (.Name "len" p) (e :: es) [] pos) (rCB dLen tr) :=
  e_callB call_len_seq lf_len hm PySem.boot_len ha hg (by decide) (by decide) he hpl
def dListOf (ds:List D) (Q:D -> Prop):Prop:=match ds with
  | [.lst xs]=>Q (.lst xs)
  | [.tup xs]=>Q (.lst xs)
  | _=>False
theorem lf_list {K:PySem.W.Frag}:LfN K (λxs H Q=>∃ p ys,xs = [.ref p] /\ (SqL K H p ys \/ SqT K H p ys) /\ ∀ l,H l = none -> Q (.ref l) (upd H l (.lst ys))) dListOf:=λH0 σ δ G H vs ds Qd Q hs r h k=>by
  unfold dListOf at h
  split at h
  · rename_i xs
    obtain ⟨v,rr,rfl,⟨a,ws,rfl,h2,h3⟩,h4⟩:=r;obtain rfl:rr = []:=h4;exact ⟨a,ws,rfl,.inl h2,λl hl=>k _ _ G (.lst xs) (hs.fresh hl ⟨ws,upd_same,h3⟩) (Same.refl _) (upd_mono hl) h⟩
  · rename_i xs
    obtain ⟨v,rr,rfl,⟨a,ws,rfl,h2,h3⟩,h4⟩:=r;obtain rfl:rr = []:=h4;exact ⟨a,ws,rfl,.inr (SqT.of h2),λl hl=>k _ _ G (.lst xs) (hs.fresh hl ⟨ws,upd_same,h3⟩) (Same.refl _) (upd_mono hl) h⟩
  · exact h.elim
theorem n_list (hm:X.mg "list" = none) (ha:PAB2 X H0 (e :: es) tr) (hg:Gl X "list" := by rfl)
 (he:starEach (e :: es) X.env = (false,eval e X.env) :: starEach es X.env:=by rfl) (hpl:(backTo pos (starEach es X.env)).any (·.1) = false:=by rfl):PN2 X H0 (.Call (.Name "list" p) (e :: es) [] pos) (rCB dListOf tr) :=
  n_callTy call_list_of lf_list hm rfl ha hg (by decide) (by decide) he hpl
def two? (ds:List D) (f:Int -> Int -> Int) (Q:D -> Prop):Prop:=match ds with
  | [.int i,.int j]=>Q (.int (f i j))
  | _=>False
theorem lf_two {K:PySem.W.Frag} (f:Int -> Int -> Int):LfC K (λxs H Q=>∃ i j,xs = [.int i,.int j] /\ Q (.int (f i j)) H) (λds Q=>two? ds f Q):=λH0 σ δ G H vs ds Qd Q hs r h k=>by
  replace h:two? ds f Qd:=h;unfold two? at h
  split at h
  · rename_i i j
    obtain ⟨v,rr,rfl,h1,v2,r3,rfl,h2,h4⟩:=r;obtain rfl:r3 = []:=h4;obtain rfl:v = .int i:=h1;obtain rfl:v2 = .int j:=h2;exact ⟨i,j,rfl,k _ H G _ (Nx.refl hs) (by simp only [Rep]) h⟩
  · exact h.elim
theorem e_max2 (hc:X.calm = true) (hm:X.mg "max" = none) (ha:PAB2 X H0 (e :: es) tr) (hg:Gl X "max" := by rfl)
 (he:starEach (e :: es) X.env = (false,eval e X.env) :: starEach es X.env:=by rfl) (hpl:(backTo pos (starEach es X.env)).any (·.1) = false:=by rfl):PE2 X H0 (.Call (.Name "max" p) (e :: es) [] pos) (rCB (λds Q=>two? ds (λi j=>if j > i then j else i) Q) tr) :=
  e_callB (call_max2 hc) (lf_two λi j=>if j > i then j else i) hm rfl ha hg (by decide) (by decide) he hpl
theorem e_min2 (hc:X.calm = true) (hm:X.mg "min" = none) (ha:PAB2 X H0 (e :: es) tr) (hg:Gl X "min" := by rfl)
 (he:starEach (e :: es) X.env = (false,eval e X.env) :: starEach es X.env:=by rfl) (hpl:(backTo pos (starEach es X.env)).any (·.1) = false:=by rfl):PE2 X H0 (.Call (.Name "min" p) (e :: es) [] pos) (rCB (λds Q=>two? ds (λi j=>if j < i then j else i) Q) tr) :=
  e_callB (call_min2 hc) (lf_two λi j=>if j < i then j else i) hm rfl ha hg (by decide) (by decide) he hpl
end
section
variable {X:Cx} {H0:Hp} {e:Expr} {t:RE} {pos cpos apos p:Pos} {x:Str}
def rApp (i:Nat) (te:RE) (E:Ends2) (δ:List Sl):Prop:=match δ[i]? with
  | some (.ow (.lst ds))=>te δ λd=>ds.length < sizeLine /\ E.nx (δ.set i (.ow (.lst (ds ++ [d]))))
  | _=>False
theorem s_app (i:Nat) (he:PE2 X H0 e t) (hN:X.N[i]? = some x:=by rfl) (hv:Vis X.env.scope x:=by first | exact Or.inl rfl | exact Or.inr (Or.inl rfl) | exact Or.inr (Or.inr rfl)) (hd:(x == ("__debug__" : Str)) = false:=by decide)
 (hcd:(x == ("__classdict__" : Str)) = false:=by decide)
 (hbase:attributeBase (.Name x p) "append" X.env (eval (.Name x p) X.env) = eval (.Name x p) X.env:=by rfl)
 (hfew:((backTo cpos (starEach [e] X.env)).all (λx=>!x.1) && (backToKw cpos (keywordEach [] X.env)).all (λx=>x.1.isSome)
 && decide ([e].length + ([]:List Keyword).length + (if ([]:List Keyword).isEmpty then 0 else 1) < 30)) = true:=by rfl)
 (hline:(apos.endLine == cpos.line) = true:=by rfl) (hs:starEach [e] X.env = (false,eval e X.env) :: starEach [] X.env:=by rfl) (hplain:(backTo cpos (starEach [] X.env)).any (·.1) = false:=by rfl)
 (hsw:swapsWith (.Call (.Attribute (.Name x p) "append" apos) [e] [] cpos) none pos.line X.env = pure false:=by rfl) :
 PS2 X H0 (.Expr (.Call (.Attribute (.Name x p) "append" apos) [e] [] cpos) pos) (rApp i t) :=
  PS.weak (ps_expr (pe_bm PySem.F.plainAttrs_list PySem.F.slot_list_append PySem.F.type_list_append mt_append (pe_var hN hv hd hcd) (pa_cons he pa_nil hs) hbase hfew hline hs hplain) hsw) λD σ H ⟨δ,G,E,hs,ht,go⟩=>by
    unfold rApp at ht
    split at ht
    · rename_i ds e0
      obtain ⟨q,e1,vs,h1,h2⟩:=hs.ow i _ e0;refine ⟨.ref q,e1,.inl ⟨rfl,vs,SqL.of h1⟩,δ,G,_,hs,ht,λv H1 G1 d n1 r1 q1=>?_⟩;obtain ⟨q',e1',vs',h1',h2'⟩:=n1.hs.ow i _ e0;rw [e1] at e1';cases e1';refine ⟨q,vs',v,rfl,rfl,h1',by rw [<- h2'.length];exact q1.1,?_⟩;exact go.nx _ _ _ G1 (n1.hs.write (d':=.lst (ds ++ [d])) e0 e1 ⟨_,upd_same,Reps.append h2' (Reps.cons r1 Reps.nil)⟩) n1.g q1.2
    · exact ht.elim
end
theorem loop_ind {g:RG} {tb:RS} {E:Ends2} (I:List D -> List Sl -> Prop) (fin:∀ δ,I [] δ -> E.nx δ)
 (step:∀ d r δ (L:List Sl -> Prop),(∀ δ2 δ3,I r δ3 -> Fg δ2 δ3 -> L δ2) -> I (d :: r) δ -> g d δ λδ1=>tb { nx:=L,rt:=E.rt,bk:=E.nx,ct:=L } δ1):∀ ds δ,I ds δ -> loop g tb E ds δ
  | [],δ,h=>fin δ h
  | d :: r,δ,h=>step d r δ (λδ2=>∃ δ3,Fg δ2 δ3 /\ loop g tb E r δ3) (λδ2 δ3 h' f=>⟨δ3,f,loop_ind I fin step r δ3 h'⟩) h
theorem gSet_ok {i:Nat} {d:D} {δ:List Sl} {Q:List Sl -> Prop} {l:Sl} (e:δ[i]? = some l) (nl:l.locked = false) (q:Q (δ.set i (.fr d))):gSet i d δ Q:=by
  unfold gSet;rw [e]
  cases l with
  | lk p d=>cases nl
  | _=>exact q
theorem cmulR {i j:Int} (h1 : -(2 ^ 64) < j:=by decide) (h2:j < 2 ^ 64:=by decide):CMul i j:=.inr ⟨h1,h2⟩
theorem cmulL {i j:Int} (h1 : -(2 ^ 64) < i:=by decide) (h2:i < 2 ^ 64:=by decide):CMul i j:=.inl ⟨h1,h2⟩
theorem cpow {i j:Int} (h1:0 <= j:=by decide) (h2:j <= 1000000:=by decide) (h3:i.natAbs < 2 ^ 64:=by decide):CPow i j:=⟨h1,h2,h3⟩
theorem atI_map {ns:List Int} {n:Nat} (h:n < ns.length):atI (ns.map D.int) (n:Int) = some (.int (ns.getD n 0)):=atI_nat (by simp [h])
section
variable {c:RT} {t u:RS} {E:Ends2} {δ:List Sl}
end
def RdT (t:RT) (δ:List Sl) (b:Bool):Prop:=∀ Q:Bool -> Prop,Q b -> t δ Q
def RdE (t:RE) (δ:List Sl) (d:D):Prop:=∀ Q:D -> Prop,Q d -> t δ Q
section
variable {δ:List Sl} {u v:RT} {ta tb:RE} {b1 b2:Bool}
theorem or_by (h1:RdT u δ b1) (h2:b1 = false -> RdT v δ b2):RdT (rOr u v) δ (b1 || b2):=λQ q=>h1 _ ⟨(λe=>by subst e;exact q),(λe=>by subst e;exact h2 rfl Q q)⟩
theorem and_by (h1:RdT u δ b1) (h2:b1 = true -> RdT v δ b2):RdT (rAnd u v) δ (b1 && b2):=λQ q=>h1 _ ⟨(λe=>by subst e;exact h2 rfl Q q),(λe=>by subst e;exact q)⟩
theorem not_by (h1:RdT u δ b1):RdT (rNot u) δ (!b1):=λQ q=>h1 _ q
theorem orV_by (h1:RdE ta δ (.bl b1)) (h2:b1 = false -> RdE tb δ (.bl b2)):RdE (rOrV ta tb) δ (.bl (b1 || b2)):=λQ q=>h1 _ ⟨(λe=>by subst e;exact q),(λe=>by subst e;exact h2 rfl Q q)⟩
theorem andV_by (h1:RdE ta δ (.bl b1)) (h2:b1 = true -> RdE tb δ (.bl b2)):RdE (rAndV ta tb) δ (.bl (b1 && b2)):=λQ q=>h1 _ ⟨(λe=>by subst e;exact h2 rfl Q q),(λe=>by subst e;exact q)⟩
theorem RdT.eq (h:RdT u δ b1) (e:b1 = b2):RdT u δ b2:=e ▸ h
theorem RdE.eq {d d':D} (h:RdE ta δ d) (e:d = d'):RdE ta δ d':=e ▸ h
theorem or_ff (h1:RdT u δ false) (h2:RdT v δ false):RdT (rOr u v) δ false:=or_by h1 λ_=>h2
theorem and_f (h1:RdT u δ false):RdT (rAnd u v) δ false:=λQ q=>h1 _ (Two.f q)
theorem or_t (h1:RdT u δ true):RdT (rOr u v) δ true:=λQ q=>h1 _ (Two.t q)
theorem andV_tt (h1:RdE ta δ (.bl true)) (h2:RdE tb δ (.bl true)):RdE (rAndV ta tb) δ (.bl true):=andV_by h1 λ_=>h2
theorem orV_t (h1:RdE ta δ (.bl true)):RdE (rOrV ta tb) δ (.bl true):=λQ q=>h1 _ (Two.t q)
end
section
variable {c:RT} {t u:RS} {E:Ends2} {δ:List Sl} {te:RE}
theorem if_f (h:RdT c δ false) (k:u E δ):rIf c t u E δ:=⟨h _ (Two.f k)⟩
theorem if_by {b:Bool} (h:RdT c δ b) (k1:b = true -> t E δ) (k2:b = false -> u E δ):rIf c t u E δ:=⟨h _ ⟨k1,k2⟩⟩
theorem if_p {p:Prop} [Decidable p] (h:RdT c δ (decide p)) (k1:p -> t E δ) (k2:¬ p -> u E δ):rIf c t u E δ:=⟨h _ (Two.dec k1 k2)⟩
theorem if_eq {p:Prop} [Decidable p] (h:RdT c δ (false != decide p)) (k1:p -> t E δ) (k2:¬ p -> u E δ):rIf c t u E δ:=if_p (h.eq (by cases decide p <;> rfl)) k1 k2
theorem ret_by {d:D} (h:RdE te δ d) (q:E.rt (.val d) δ):rRet te E δ:=h _ q
end
inductive Drawn:List Int -> List Int -> Prop where
  | nil:Drawn [] []
  | cons {d s:Int} {ds ss:List Int} (h0:0 <= d) (h1:d < s) (h:Drawn ds ss):Drawn (d :: ds) (s :: ss)
theorem Drawn.two {s1 s2:Int} {P:List Int -> Prop} (h:∀ a b:Int,0 <= a -> a < s1 -> 0 <= b -> b < s2 -> P [a,b]):∀ out,Drawn out [s1,s2] -> P out:=λout w=>by
  cases w with | cons a0 a1 w=>cases w with | cons b0 b1 w=>cases w with | nil=>exact h _ _ a0 a1 b0 b1
theorem Drawn.six {s1 s2 s3 s4 s5 s6:Int} {P:List Int -> Prop} (h:∀ a b c d e f:Int,0 <= a -> a < s1 -> 0 <= b -> b < s2 -> 0 <= c -> c < s3 -> 0 <= d -> d < s4 -> 0 <= e -> e < s5 -> 0 <= f -> f < s6 -> P [a,b,c,d,e,f]):∀ out,Drawn out [s1,s2,s3,s4,s5,s6] -> P out:=λout w=>by
  cases w with | cons a0 a1 w=>cases w with | cons b0 b1 w=>cases w with | cons c0 c1 w=>cases w with | cons d0 d1 w=>cases w with | cons e0 e1 w=>cases w with | cons f0 f1 w=>cases w with | nil=>exact h _ _ _ _ _ _ a0 a1 b0 b1 c0 c1 d0 d1 e0 e1 f0 f1
theorem Drawn.snoc {out ss:List Int} {d s:Int} (h:Drawn out ss) (h0:0 <= d) (h1:d < s):Drawn (out ++ [d]) (ss ++ [s]):=by
  induction h with
  | nil=>exact .cons h0 h1 .nil
  | cons a b _ ih=>exact .cons a b ih
theorem cpos {n:Int} (h:0 < n:=by decide):0 < n:=h
theorem sz1:1 <= sizeLine:=by decide
theorem sz2:2 <= sizeLine:=by decide
theorem sz3:3 <= sizeLine:=by decide
theorem sz4:4 <= sizeLine:=by decide
theorem sz5:5 <= sizeLine:=by decide
theorem sz6:6 <= sizeLine:=by decide
theorem sz9:9 <= sizeLine:=by decide
theorem sz12:12 <= sizeLine:=by decide
mutual
def eqD:D -> D -> Bool
  | .non,y=>match y with
    | .non=>true
    | _=>false
  | .bl a,y=>match y with
    | .bl b=>a == b
    | .int b=>(if a then 1 else 0) == b
    | _=>false
  | .int a,y=>match y with
    | .bl b=>a == (if b then 1 else 0)
    | .int b=>a == b
    | _=>false
  | .str a,y=>match y with
    | .str b=>a == b
    | _=>false
  | .tup xs,y=>match y with
    | .tup ys=>eqDs xs ys
    | _=>false
  | .lst xs,y=>match y with
    | .lst ys=>eqDs xs ys
    | _=>false
  | .dK _,_=>false
  | .dT _,_=>false
  | .adr _,_=>false
def eqDs:List D -> List D -> Bool
  | [],ys=>match ys with
    | []=>true
    | _=>false
  | x :: xs,ys=>match ys with
    | y :: ys=>eqD x y && eqDs xs ys
    | _=>false
end
def plainD:Nat -> D -> Bool
  | _,.non=>true
  | _,.bl _=>true
  | _,.int _=>true
  | _,.str _=>true
  | n + 1,.tup xs=>xs.all (plainD n)
  | n + 1,.lst xs=>xs.all (plainD n)
  | _,_=>false
theorem eqDs_len:∀ {xs ys:List D},eqDs xs ys = true -> xs.length = ys.length
  | [],[],_=>rfl
  | [],_ :: _,h=>by simp [eqDs] at h
  | _ :: _,[],h=>by simp [eqDs] at h
  | x :: xs,y :: ys,h=>by
    simp only [eqDs,Bool.and_eq_true] at h;simp [eqDs_len h.2]
theorem eqDs_range:∀ (xs ys:List D),xs.length = ys.length -> (List.range xs.length).all (λj=>eqD (xs.getD j .non) (ys.getD j .non)) = eqDs xs ys
  | [],[],_=>rfl
  | [],_ :: _,h=>by simp at h
  | _ :: _,[],h=>by simp at h
  | x :: xs,y :: ys,h=>by
    have ih:=eqDs_range xs ys (by simpa using h);rw [List.length_cons,List.range_succ_eq_map,List.all_cons,List.all_map,eqDs];rw [<- ih];rfl
mutual
theorem eqD_self:∀ (n:Nat) (d:D),plainD n d = true -> eqD d d = true
  | _,.non,_=>by simp [eqD]
  | _,.bl _,_=>by simp [eqD]
  | _,.int _,_=>by simp [eqD]
  | _,.str _,_=>by simp [eqD]
  | 0,.tup _,h=>by simp [plainD] at h
  | 0,.lst _,h=>by simp [plainD] at h
  | n + 1,.tup xs,h=>by simp only [plainD] at h;simp only [eqD];exact eqDs_self n xs h
  | n + 1,.lst xs,h=>by simp only [plainD] at h;simp only [eqD];exact eqDs_self n xs h
  | n,.dK _,h=>by cases n <;> simp [plainD] at h
  | n,.dT _,h=>by cases n <;> simp [plainD] at h
  | n,.adr _,h=>by cases n <;> simp [plainD] at h
theorem eqDs_self:∀ (n:Nat) (xs:List D),xs.all (plainD n) = true -> eqDs xs xs = true
  | _,[],_=>by simp [eqDs]
  | n,x :: xs,h=>by
    rw [List.all_cons,Bool.and_eq_true] at h;simp only [eqDs,Bool.and_eq_true];exact ⟨eqD_self n x h.1,eqDs_self n xs h.2⟩
end
section
variable {X:Cx} {pins:List (Addr × Obj)} {σ:L2.St} {H G:Hp} {s:Shared}
open SeqAt
theorem lst_tup_apart {K:PySem.W.Frag} {a:Addr} {xs ys:List V} (I:L2.Inv X pins σ H s) (h1:SqL X.K H a xs) (h2:SqT X.K H a ys):False:=by
  obtain ⟨its,r,pl,_⟩:=I.list h1;obtain ⟨its',r',pt,_⟩:=I.tuple h2;exact ne_of_list_tuple pl.isList pt rfl
mutual
theorem rep_eq (I:L2.Inv X pins σ H s):∀ (n:Nat) (d d':D) (v:V),plainD n d = true -> plainD n d' = true -> Rep X.K H d v -> Rep X.K H d' v -> eqD d d' = true:=λn d d' v p p' r r'=>by
  cases d with
  | adr _=>cases n <;> simp [plainD] at p
  | dK _=>cases n <;> simp [plainD] at p
  | dT _=>cases n <;> simp [plainD] at p
  | non=>cases d' <;> simp_all [Rep,eqD]
  | bl b=>cases d' <;> simp_all [Rep,eqD]
  | int b=>cases d' <;> simp_all [Rep,eqD]
  | str b=>cases d' <;> simp_all [Rep,eqD]
  | tup xs =>
    simp only [Rep] at r;obtain ⟨a,vs,rfl,h1,h2⟩:=r
    cases d' with
    | tup ys =>
      simp only [Rep] at r';obtain ⟨a',ws,e,h3,h4⟩:=r';cases e;obtain rfl:=I.tuple_inj (SqT.of h1) (SqT.of h3)
      cases n with
      | zero=>simp [plainD] at p
      | succ n =>
        simp only [plainD] at p p';simp only [eqD];exact reps_eq I n xs ys _ p p' h2 h4
    | lst ys =>
      simp only [Rep] at r';obtain ⟨a',ws,e,h3,h4⟩:=r';cases e;exact (lst_tup_apart (K:=X.K) I h3 (SqT.of h1)).elim
    | dK _=>cases n <;> simp [plainD] at p'
    | dT _=>cases n <;> simp [plainD] at p'
    | adr _=>cases n <;> simp [plainD] at p'
    | _=>simp [Rep] at r'
  | lst xs =>
    simp only [Rep] at r;obtain ⟨a,vs,rfl,h1,h2⟩:=r
    cases d' with
    | lst ys =>
      simp only [Rep] at r';obtain ⟨a',ws,e,h3,h4⟩:=r';cases e;obtain rfl:=I.list_inj h1 h3
      cases n with
      | zero=>simp [plainD] at p
      | succ n =>
        simp only [plainD] at p p';simp only [eqD];exact reps_eq I n xs ys _ p p' h2 h4
    | tup ys =>
      simp only [Rep] at r';obtain ⟨a',ws,e,h3,h4⟩:=r';cases e;exact (lst_tup_apart (K:=X.K) I h1 (SqT.of h3)).elim
    | dK _=>cases n <;> simp [plainD] at p'
    | dT _=>cases n <;> simp [plainD] at p'
    | adr _=>cases n <;> simp [plainD] at p'
    | _=>simp [Rep] at r'
termination_by n=>(n,0)
theorem reps_eq (I:L2.Inv X pins σ H s):∀ (n:Nat) (xs ys:List D) (vs:List V),xs.all (plainD n) = true -> ys.all (plainD n) = true -> Reps X.K H xs vs -> Reps X.K H ys vs -> eqDs xs ys = true
  | n,[],ys,vs,_,_,h1,h2=>by
    simp only [Reps] at h1;subst h1
    cases ys with
    | nil=>simp [eqDs]
    | cons y ys=>simp [Reps] at h2
  | n,x :: xs,ys,vs,p,p',h1,h2=>by
    simp only [Reps] at h1;obtain ⟨v,r,rfl,h3,h4⟩:=h1
    cases ys with
    | nil=>simp [Reps] at h2
    | cons y ys =>
      simp only [Reps] at h2;obtain ⟨v',r',e,h5,h6⟩:=h2;cases e;rw [List.all_cons,Bool.and_eq_true] at p p';simp only [eqDs,Bool.and_eq_true];exact ⟨rep_eq I n x y v p.1 p'.1 h3 h5,reps_eq I n xs ys r p.2 p'.2 h4 h6⟩
termination_by n xs=>(n,xs.length + 1)
end
end
section
variable {X:Cx} {pins:List (Addr × Obj)} {σ:L2.St} {H G:Hp} {s:Shared}
open SeqAt
theorem items_eq {A:Around} {n:Nat} {xs ys:List D} {vs ws:List V} {its its2:List Value} (hx:Reps X.K H xs vs) (hy:Reps X.K H ys ws) (rx:Vals vs its) (ry:Vals ws its2) (px:xs.all (plainD n) = true) (py:ys.all (plainD n) = true)
 (ih:∀ d d' v v' u u',plainD n d = true -> plainD n d' = true -> Rep X.K H d v -> Rep X.K H d' v' -> L2.RelV v u -> L2.RelV v' u' -> EqAt A s u u' (eqD d d')) :
 ∀ j (h1:j < its.toArray.size) (h2:j < its2.toArray.size),EqAt A s its.toArray[j] its2.toArray[j] (eqD (xs.getD j .non) (ys.getD j .non)):=by
  intro j h1 h2;have l1:its.length = xs.length:=by rw [<- rx.length,hx.length]
  have l2:its2.length = ys.length:=by rw [<- ry.length,hy.length]
  have h1':j < xs.length:=by simpa [l1] using h1
  have h2':j < ys.length:=by simpa [l2] using h2
  obtain ⟨v,ev,rv⟩:=hx.get (i:=j) (d:=xs[j]) (by simp [h1']);obtain ⟨v',ev',rv'⟩:=hy.get (i:=j) (d:=ys[j]) (by simp [h2']);obtain ⟨u,eu,ru⟩:=rx.get ev;obtain ⟨u',eu',ru'⟩:=ry.get ev';have e1:its.toArray[j] = u:=by
    have : its[j]? = some its[j]:=by simp [l1,h1']
    rw [this] at eu;simpa using eu
  have e2:its2.toArray[j] = u':=by
    have : its2[j]? = some its2[j]:=by simp [l2,h2']
    rw [this] at eu';simpa using eu'
  have g1:xs.getD j .non = xs[j]:=by simp [List.getD,h1']
  have g2:ys.getD j .non = ys[j]:=by simp [List.getD,h2']
  rw [e1,e2,g1,g2];exact ih _ _ v v' u u' (List.all_eq_true.mp px _ (List.getElem_mem h1')) (List.all_eq_true.mp py _ (List.getElem_mem h2')) rv rv' ru ru'
theorem lists_at {A:Around} {n:Nat} {xs ys:List D} {vs ws:List V} {a b:Addr} (I:L2.Inv X pins σ H s) (ha:SqL X.K H a vs) (hb:SqL X.K H b ws) (hx:Reps X.K H xs vs) (hy:Reps X.K H ys ws) (px:xs.all (plainD n) = true) (py:ys.all (plainD n) = true) (hu:A.units < cLine)
 (ih:∀ d d' v v' u u',plainD n d = true -> plainD n d' = true -> Rep X.K H d v -> Rep X.K H d' v' -> L2.RelV v u -> L2.RelV v' u' -> EqAt A.in1 s u u' (eqD d d')):RcAt A s (.ref a) (.ref b) (eqDs xs ys) /\ RcNeAt A s (.ref a) (.ref b) (!eqDs xs ys):=by
  obtain ⟨its,rx,pl,_⟩:=I.list ha;obtain ⟨its2,ry,pl2,_⟩:=I.list hb;have l1:its.length = xs.length:=by rw [<- rx.length,hx.length]
  have l2:its2.length = ys.length:=by rw [<- ry.length,hy.length]
  by_cases hl:xs.length = ys.length
  · have e:=eqDs_range xs ys hl
    have it:=items_eq hx hy rx ry px py ih;rw [<- e,<- l1];exact ⟨RcAt.lists pl.isList pl2.isList (by simp [l1,l2,hl]) hu it,RcNeAt.lists pl.isList pl2.isList (by simp [l1,l2,hl]) hu it⟩
  · have e:eqDs xs ys = false:=by
      cases q:eqDs xs ys with
      | false=>rfl
      | true=>exact absurd (eqDs_len q) hl
    rw [e];exact ⟨RcAt.lists_lengths pl.isList pl2.isList (by simp [l1,l2,hl]) hu,RcNeAt.lists_lengths pl.isList pl2.isList (by simp [l1,l2,hl]) hu⟩
theorem tuples_at {A:Around} {n:Nat} {xs ys:List D} {vs ws:List V} {a b:Addr} (I:L2.Inv X pins σ H s) (ha:SqT X.K H a vs) (hb:SqT X.K H b ws) (hx:Reps X.K H xs vs) (hy:Reps X.K H ys ws) (px:xs.all (plainD n) = true) (py:ys.all (plainD n) = true) (hu:A.units < cLine)
 (ih:∀ d d' v v' u u',plainD n d = true -> plainD n d' = true -> Rep X.K H d v -> Rep X.K H d' v' -> L2.RelV v u -> L2.RelV v' u' -> EqAt A.in1 s u u' (eqD d d')):RcAt A s (.ref a) (.ref b) (eqDs xs ys) /\ RcNeAt A s (.ref a) (.ref b) (!eqDs xs ys):=by
  obtain ⟨its,rx,pl,_⟩:=I.tuple ha;obtain ⟨its2,ry,pl2,_⟩:=I.tuple hb;have l1:its.length = xs.length:=by rw [<- rx.length,hx.length]
  have l2:its2.length = ys.length:=by rw [<- ry.length,hy.length]
  have it:=items_eq hx hy rx ry px py ih;have e:((List.range (min its.toArray.size its2.toArray.size)).all (λj=>eqD (xs.getD j .non) (ys.getD j .non)) && its.toArray.size == its2.toArray.size) = eqDs xs ys:=by
    simp only [List.size_toArray,l1,l2]
    by_cases hl:xs.length = ys.length
    · rw [<- eqDs_range xs ys hl,<- hl,Nat.min_self];simp
    · have e:eqDs xs ys = false:=by
        cases q:eqDs xs ys with
        | false=>rfl
        | true=>exact absurd (eqDs_len q) hl
      rw [e,beq_false_of_ne hl,Bool.and_false]
  have r1:=RcAt.tuples pl pl2 hu it;have r2:=RcNeAt.tuples pl pl2 hu it;rw [e] at r1;refine ⟨r1,?_⟩
  first | (rw [e] at r2;exact r2) | (rw [<- e];exact r2)
theorem both_at (I:L2.Inv X pins σ H s):∀ (n:Nat) (A:Around) (d d':D) (v v':V) (u u':Value),A.units + n < cLine -> plainD n d = true -> plainD n d' = true -> Rep X.K H d v -> Rep X.K H d' v' -> L2.RelV v u -> L2.RelV v' u' ->
 (RcAt A s u u' (eqD d d') /\ RcNeAt A s u u' (!eqD d d')) /\ EqAt A s u u' (eqD d d'):=by
  intro n
  induction n with
  | zero =>
    intro A d d' v v' u u' hu p p' r r' ru ru'
    cases d <;> (try simp [plainD] at p) <;> cases d' <;> (try simp [plainD] at p')
    all_goals
      simp only [Rep] at r r';subst r r';simp only [L2.RelV] at ru ru'
      first | (subst ru) | (obtain ⟨t,rfl⟩:=ru)
      first | (subst ru') | (obtain ⟨t',rfl⟩:=ru')
      simp only [eqD]
    · exact ⟨⟨.none_none,.none_none⟩,.same _⟩
    · exact ⟨⟨.none_bool _,.none_bool _⟩,.none_bool _⟩
    · exact ⟨⟨.none_int _ _,.none_int _ _⟩,.none_int _ _⟩
    · exact ⟨⟨.none_str _ _,.none_str _ _⟩,.none_str _ _⟩
    · exact ⟨⟨.bool_none _,.bool_none _⟩,.bool_none _⟩
    · exact ⟨⟨.bool_bool _ _,.bool_bool _ _⟩,.bool_bool _ _⟩
    · exact ⟨⟨.bool_int _ _ _,.bool_int _ _ _⟩,.bool_int _ _ _⟩
    · exact ⟨⟨.bool_str _ _ _,.bool_str _ _ _⟩,.bool_str _ _ _⟩
    · exact ⟨⟨.int_none _ _,.int_none _ _⟩,.int_none _ _⟩
    · exact ⟨⟨.int_bool _ _ _,.int_bool _ _ _⟩,.int_bool _ _ _⟩
    · exact ⟨⟨.int_int _ _ _ _,.int_int _ _ _ _⟩,.int_int _ _ _ _⟩
    · exact ⟨⟨.int_str _ _ _ _,.int_str _ _ _ _⟩,.int_str _ _ _ _⟩
    · exact ⟨⟨.str_none _ _,.str_none _ _⟩,.str_none _ _⟩
    · exact ⟨⟨.str_bool _ _ _,.str_bool _ _ _⟩,.str_bool _ _ _⟩
    · exact ⟨⟨.str_int _ _ _ _,.str_int _ _ _ _⟩,.str_int _ _ _ _⟩
    · exact ⟨⟨.str_str _ _ _ _,.str_str _ _ _ _⟩,.str_str _ _ _ _⟩
  | succ n ih =>
    intro A d d' v v' u u' hu p p' r r' ru ru';have hu0:A.units < cLine:=by omega
    have ihe:∀ d d' v v' u u',plainD n d = true -> plainD n d' = true -> Rep X.K H d v -> Rep X.K H d' v' -> L2.RelV v u -> L2.RelV v' u' -> EqAt A.in1 s u u' (eqD d d'):=λd d' v v' u u' a b c e f g=>(ih A.in1 d d' v v' u u' (by show A.units + 1 + n < cLine;omega) a b c e f g).2
    have refs:∀ {a b:Addr} {k:Bool},RcAt A s (.ref a) (.ref b) k -> (a = b -> k = true) -> EqAt A s (.ref a) (.ref b) k:=λ{a b k} h e=>by
      by_cases hab:a = b
      · subst hab;rw [e rfl];exact .same _
      · exact .of_refs hab h
    cases d with
    | dK _=>simp [plainD] at p
    | dT _=>simp [plainD] at p
    | adr _=>simp [plainD] at p
    | tup xs =>
      have r0:=r;simp only [Rep] at r;obtain ⟨a,vs,rfl,h1,h2⟩:=r;simp only [L2.RelV] at ru;subst ru;obtain ⟨its,rx,pt,_⟩:=I.tuple (SqT.of h1);simp only [plainD] at p
      cases d' with
      | dK _=>simp [plainD] at p'
      | dT _=>simp [plainD] at p'
      | adr _=>simp [plainD] at p'
      | tup ys =>
        have r0':=r';have p0':=p';simp only [Rep] at r';obtain ⟨b,ws,rfl,h3,h4⟩:=r';simp only [L2.RelV] at ru';subst ru';simp only [plainD] at p';have t:=tuples_at I (SqT.of h1) (SqT.of h3) h2 h4 p p' hu0 ihe;simp only [eqD];refine ⟨t,refs t.1 λe=>?_⟩;subst e;have:=rep_eq I (n + 1) (.tup xs) (.tup ys) _ (by simpa only [plainD] using p) p0' r0 r0'
        simpa only [eqD] using this
      | lst ys =>
        simp only [Rep] at r';obtain ⟨b,ws,rfl,h3,h4⟩:=r';simp only [L2.RelV] at ru';subst ru';obtain ⟨its2,ry,pl,_⟩:=I.list h3;simp only [eqD];exact ⟨⟨.tuple_list pt pl.isList hu0,.tuple_list pt pl.isList hu0⟩,.tuple_list pt pl.isList hu0⟩
      | non=>simp only [Rep] at r';subst r';simp only [L2.RelV] at ru';subst ru';simp only [eqD];exact ⟨⟨.tuple_none pt hu0,.tuple_none pt hu0⟩,.tuple_none pt hu0⟩
      | bl b=>simp only [Rep] at r';subst r';simp only [L2.RelV] at ru';subst ru';simp only [eqD];exact ⟨⟨.tuple_bool _ pt hu0,.tuple_bool _ pt hu0⟩,.tuple_bool _ pt hu0⟩
      | int b=>simp only [Rep] at r';subst r';simp only [L2.RelV] at ru';obtain ⟨t',rfl⟩:=ru';simp only [eqD];exact ⟨⟨.tuple_int _ _ pt hu0,.tuple_int _ _ pt hu0⟩,.tuple_int _ _ pt hu0⟩
      | str b=>simp only [Rep] at r';subst r';simp only [L2.RelV] at ru';obtain ⟨t',rfl⟩:=ru';simp only [eqD];exact ⟨⟨.tuple_str _ _ pt hu0,.tuple_str _ _ pt hu0⟩,.tuple_str _ _ pt hu0⟩
    | lst xs =>
      have r0:=r;simp only [Rep] at r;obtain ⟨a,vs,rfl,h1,h2⟩:=r;simp only [L2.RelV] at ru;subst ru;obtain ⟨its,rx,pl,_⟩:=I.list h1;have pt:=pl.isList;simp only [plainD] at p
      cases d' with
      | dK _=>simp [plainD] at p'
      | dT _=>simp [plainD] at p'
      | adr _=>simp [plainD] at p'
      | lst ys =>
        have r0':=r';have p0':=p';simp only [Rep] at r';obtain ⟨b,ws,rfl,h3,h4⟩:=r';simp only [L2.RelV] at ru';subst ru';simp only [plainD] at p';have t:=lists_at I h1 h3 h2 h4 p p' hu0 ihe;simp only [eqD];refine ⟨t,refs t.1 λe=>?_⟩;subst e;have:=rep_eq I (n + 1) (.lst xs) (.lst ys) _ (by simpa only [plainD] using p) p0' r0 r0'
        simpa only [eqD] using this
      | tup ys =>
        simp only [Rep] at r';obtain ⟨b,ws,rfl,h3,h4⟩:=r';simp only [L2.RelV] at ru';subst ru';obtain ⟨its2,ry,pt2,_⟩:=I.tuple (SqT.of h3);simp only [eqD];exact ⟨⟨.list_tuple pt pt2 hu0,.list_tuple pt pt2 hu0⟩,.list_tuple pt pt2 hu0⟩
      | non=>simp only [Rep] at r';subst r';simp only [L2.RelV] at ru';subst ru';simp only [eqD];exact ⟨⟨.list_none pt hu0,.list_none pt hu0⟩,.list_none pt hu0⟩
      | bl b=>simp only [Rep] at r';subst r';simp only [L2.RelV] at ru';subst ru';simp only [eqD];exact ⟨⟨.list_bool _ pt hu0,.list_bool _ pt hu0⟩,.list_bool _ pt hu0⟩
      | int b=>simp only [Rep] at r';subst r';simp only [L2.RelV] at ru';obtain ⟨t',rfl⟩:=ru';simp only [eqD];exact ⟨⟨.list_int _ _ pt hu0,.list_int _ _ pt hu0⟩,.list_int _ _ pt hu0⟩
      | str b=>simp only [Rep] at r';subst r';simp only [L2.RelV] at ru';obtain ⟨t',rfl⟩:=ru';simp only [eqD];exact ⟨⟨.list_str _ _ pt hu0,.list_str _ _ pt hu0⟩,.list_str _ _ pt hu0⟩
    | non =>
      cases d' with
      | tup ys =>
        simp only [Rep] at r r';subst r;obtain ⟨b,ws,rfl,h3,h4⟩:=r';simp only [L2.RelV] at ru ru';subst ru ru';obtain ⟨_,_,pt,_⟩:=I.tuple (SqT.of h3);simp only [eqD];exact ⟨⟨.none_tuple pt hu0,.none_tuple pt hu0⟩,.none_tuple pt hu0⟩
      | lst ys =>
        simp only [Rep] at r r';subst r;obtain ⟨b,ws,rfl,h3,h4⟩:=r';simp only [L2.RelV] at ru ru';subst ru ru';obtain ⟨_,_,pl,_⟩:=I.list h3;simp only [eqD];exact ⟨⟨.none_list pl.isList hu0,.none_list pl.isList hu0⟩,.none_list pl.isList hu0⟩
      | dK _=>simp [plainD] at p'
      | dT _=>simp [plainD] at p'
      | adr _=>simp [plainD] at p'
      | _=>exact ih A _ _ v v' u u' (by omega) (by cases n <;> rfl) (by cases n <;> rfl) r r' ru ru'
    | bl x =>
      cases d' with
      | tup ys =>
        simp only [Rep] at r r';subst r;obtain ⟨b,ws,rfl,h3,h4⟩:=r';simp only [L2.RelV] at ru ru';subst ru ru';obtain ⟨_,_,pt,_⟩:=I.tuple (SqT.of h3);simp only [eqD];exact ⟨⟨.bool_tuple _ pt hu0,.bool_tuple _ pt hu0⟩,.bool_tuple _ pt hu0⟩
      | lst ys =>
        simp only [Rep] at r r';subst r;obtain ⟨b,ws,rfl,h3,h4⟩:=r';simp only [L2.RelV] at ru ru';subst ru ru';obtain ⟨_,_,pl,_⟩:=I.list h3;simp only [eqD];exact ⟨⟨.bool_list _ pl.isList hu0,.bool_list _ pl.isList hu0⟩,.bool_list _ pl.isList hu0⟩
      | dK _=>simp [plainD] at p'
      | dT _=>simp [plainD] at p'
      | adr _=>simp [plainD] at p'
      | _=>exact ih A _ _ v v' u u' (by omega) (by cases n <;> rfl) (by cases n <;> rfl) r r' ru ru'
    | int x =>
      cases d' with
      | tup ys =>
        simp only [Rep] at r r';subst r;obtain ⟨b,ws,rfl,h3,h4⟩:=r';simp only [L2.RelV] at ru ru';obtain ⟨t,rfl⟩:=ru;subst ru';obtain ⟨_,_,pt,_⟩:=I.tuple (SqT.of h3);simp only [eqD];exact ⟨⟨.int_tuple _ _ pt hu0,.int_tuple _ _ pt hu0⟩,.int_tuple _ _ pt hu0⟩
      | lst ys =>
        simp only [Rep] at r r';subst r;obtain ⟨b,ws,rfl,h3,h4⟩:=r';simp only [L2.RelV] at ru ru';obtain ⟨t,rfl⟩:=ru;subst ru';obtain ⟨_,_,pl,_⟩:=I.list h3;simp only [eqD];exact ⟨⟨.int_list _ _ pl.isList hu0,.int_list _ _ pl.isList hu0⟩,.int_list _ _ pl.isList hu0⟩
      | dK _=>simp [plainD] at p'
      | dT _=>simp [plainD] at p'
      | adr _=>simp [plainD] at p'
      | _=>exact ih A _ _ v v' u u' (by omega) (by cases n <;> rfl) (by cases n <;> rfl) r r' ru ru'
    | str x =>
      cases d' with
      | tup ys =>
        simp only [Rep] at r r';subst r;obtain ⟨b,ws,rfl,h3,h4⟩:=r';simp only [L2.RelV] at ru ru';obtain ⟨t,rfl⟩:=ru;subst ru';obtain ⟨_,_,pt,_⟩:=I.tuple (SqT.of h3);simp only [eqD];exact ⟨⟨.str_tuple _ _ pt hu0,.str_tuple _ _ pt hu0⟩,.str_tuple _ _ pt hu0⟩
      | lst ys =>
        simp only [Rep] at r r';subst r;obtain ⟨b,ws,rfl,h3,h4⟩:=r';simp only [L2.RelV] at ru ru';obtain ⟨t,rfl⟩:=ru;subst ru';obtain ⟨_,_,pl,_⟩:=I.list h3;simp only [eqD];exact ⟨⟨.str_list _ _ pl.isList hu0,.str_list _ _ pl.isList hu0⟩,.str_list _ _ pl.isList hu0⟩
      | dK _=>simp [plainD] at p'
      | dT _=>simp [plainD] at p'
      | adr _=>simp [plainD] at p'
      | _=>exact ih A _ _ v v' u u' (by omega) (by cases n <;> rfl) (by cases n <;> rfl) r r' ru ru'
end
section
variable {X:Cx}
def rEqU (K:PySem.W.Frag) (neg:Bool):R2:=λx y H Q=>∃ d d',plainD 60 d = true /\ plainD 60 d' = true /\ Rep K H d x /\ Rep K H d' y /\ Q (.bl (neg != eqD d d')) H
theorem op_neD (hu:X.A.units + 64 < cLine):OpR X (compareOp .NotEq) (rEqU X.K true):=by
  intro pins s σ H x y v u Q I rx ry h;obtain ⟨d,d',p,p',r,r',q⟩:=h;exact (both_at I 60 X.A d d' x y v u (by omega) p p' r r' rx ry).1.2 X.prog X.w X.xe _ ⟨.bl _,H,I,rfl,by simpa using q⟩
def dEqU (neg:Bool) (x y:D) (Q:D -> Prop):Prop:=plainD 60 x = true /\ plainD 60 y = true /\ Q (.bl (neg != eqD x y))
theorem lf_eqU {K:PySem.W.Frag} {neg:Bool}:Lf2 K (rEqU K neg) (dEqU neg):=λH0 σ δ G H x y dx dy Qd Q hs rx ry h k =>
  ⟨dx,dy,h.1,h.2.1,rx.all hs.sub,ry.all hs.sub,k _ H G _ (Nx.refl hs) (by simp only [Rep]) h.2.2⟩
end
def kindD:D -> String
  | .non => "NoneType"
  | .bl _ => "bool"
  | .int _ => "int"
  | .str _ => "str"
  | .tup _ => "tuple"
  | .lst _ => "list"
  | .dK _ => "dict"
  | .dT _ => "dict"
  | .adr _ => "adr"
def noAdr (d:D) (P:Prop):Prop:=match d with
  | .adr _=>False
  | _=>P
theorem noAdr_of {d:D} {P:Prop} (h:noAdr d P):kindD d ≠ "adr" /\ P:=by
  cases d <;> first | exact h.elim | exact ⟨by simp [kindD],h⟩
def isKind (k T:String):Bool:=k == T || (k == "bool" && T == "int")
structure KindOk (K:PySem.W.Frag) (T:String):Prop where
  h:∀ k ∈ ["NoneType", "bool", "int", "str", "tuple", "list", "dict"],PySem.W.kitOne K (.type k) (.type T) = some (isKind k T)
section
variable {X:Cx} {H0:Hp} {e:Expr} {t:RE} {pos p p2:Pos} {T:String} {x:Str}
theorem isi_ok {pins:List (Addr × Obj)} {σ:L2.St} {H:Hp} {s:Shared} {d:D} {v:V} {u:Value} {Q:Value -> Shared -> Prop} {E:Value -> Shared -> Prop} {A:Around} (k:KindOk X.K T) (I:L2.Inv X pins σ H s) (nk:kindD d ≠ "adr") (r:Rep X.K H d v) (ru:L2.RelV v u) (h:∀ tk,Q (.bool (isKind (kindD d) T)) { s with toks:=tk }) :
 wpAny (model X.prog X.w) A (call (.builtin "isinstance") [u,.type T]) Q E s:=by
  cases d with
  | adr p=>exact absurd rfl nk
  | non=>simp only [Rep] at r;subst r;cases (show u = Value.none from ru);exact PySem.W.kia_one PySem.W.kitx_none I.kIn True.intro (k.h _ (by simp)) (λz=>nomatch z) h
  | bl b=>simp only [Rep] at r;subst r;cases (show u = Value.bool b from ru);exact PySem.W.kia_one PySem.W.kitx_bool I.kIn True.intro (k.h _ (by simp)) (λz=>nomatch z) h
  | int b=>simp only [Rep] at r;subst r;obtain ⟨t,q⟩:=(show ∃ t,u = Value.int b t from ru);cases q;exact PySem.W.kia_one PySem.W.kitx_int I.kIn True.intro (k.h _ (by simp)) (λz=>nomatch z) h
  | str b=>simp only [Rep] at r;subst r;obtain ⟨t,q⟩:=(show ∃ t,u = Value.str b t from ru);cases q;exact PySem.W.kia_one PySem.W.kitx_str I.kIn True.intro (k.h _ (by simp)) (λz=>nomatch z) h
  | tup xs =>
    simp only [Rep] at r;obtain ⟨a,vs,rfl,h1,_⟩:=r;cases (show u = Value.ref a from ru);obtain ⟨_,_,⟨o,h2,h3,_⟩,_⟩:=I.tuple (SqT.of h1);exact PySem.W.kia_one PySem.W.kitx_tuple I.kIn ⟨o,h2,h3⟩ (k.h _ (by simp)) (λz=>nomatch z) h
  | lst xs =>
    simp only [Rep] at r;obtain ⟨a,vs,rfl,h1,_⟩:=r;cases (show u = Value.ref a from ru);obtain ⟨_,_,⟨o,n,h2,h3,_⟩,_⟩:=I.list h1;exact PySem.W.kia_one PySem.W.kitx_list I.kIn ⟨o,h2,h3⟩ (k.h _ (by simp)) (λz=>nomatch z) h
  | dK xs =>
    simp only [Rep] at r;obtain ⟨a,vs,rfl,h1,_⟩:=r;cases (show u = Value.ref a from ru);obtain ⟨_,_,_,_,o,_,_,h2,h3,_⟩:=dk_rd I.hok h1;exact PySem.W.kia_one PySem.W.kitx_dict I.kIn ⟨o,h2,h3.1⟩ (k.h _ (by simp)) (λz=>nomatch z) h
  | dT xs =>
    simp only [Rep] at r;obtain ⟨a,vs,rfl,h1,_⟩:=r;cases (show u = Value.ref a from ru);obtain ⟨_,_,_,_,o,_,_,h2,h3,_⟩:=dt_rd I.hok h1;exact PySem.W.kia_one PySem.W.kitx_dict I.kIn ⟨o,h2,h3.1⟩ (k.h _ (by simp)) (λz=>nomatch z) h
def rIsiV (K:PySem.W.Frag) (T:String):List V -> Hp -> VK -> Prop:=λxs H Q=>∃ d v,xs = [v,.ty T] /\ kindD d ≠ "adr" /\ Rep K H d v /\ Q (.bl (isKind (kindD d) T)) H
theorem call_isi (k:KindOk X.K T):CallR X (.builtin "isinstance") (rIsiV X.K T):=by
  intro pins s σ H xs us Q I r h;obtain ⟨d,v,rfl,nk,rd,q⟩:=h
  cases r with
  | cons r1 r =>
    cases r with
    | cons r2 r =>
      cases r with
      | nil =>
        cases (show _ = Value.type T from r2);exact isi_ok k I nk rd r1 λtk=>⟨.bl _,H,I.tok _,rfl,q⟩
def rIsi (T:String) (te:RE) (δ:List Sl) (Q:D -> Prop):Prop:=te δ λd=>noAdr d (Q (.bl (isKind (kindD d) T)))
theorem e_isi (k:KindOk X.K T) (hm:X.mg "isinstance" = none) (hm2:X.mg x = none) (ha:PB2 X H0 e t) (hv:bootBuiltins x = some (.type T):=by rfl) (hg:Gl X "isinstance" := by rfl) (hg2:Gl X x:=by rfl) (hn:x ≠ "__name__" := by decide) (hdb:(x == ("__debug__" : Str)) = false:=by decide)
 (he:starEach (e :: [.Name x p2]) X.env = (false,eval e X.env) :: starEach [.Name x p2] X.env:=by rfl) (he2:starEach [.Name x p2] X.env = (false,eval (.Name x p2) X.env) :: starEach [] X.env:=by rfl)
 (hpl:(backTo pos (starEach [.Name x p2] X.env)).any (·.1) = false:=by rfl):PE2 X H0 (.Call (.Name "isinstance" p) [e,.Name x p2] [] pos) (rIsi T t) :=
  PE.weak (pe_callB (call_isi k) hg hm rfl (pa_cons ha (pa_cons (pe_bltn hg2 hm2 hv (v:=.ty T) rfl hn hdb) pa_nil he2) he) (by decide) (by decide) he hpl) λσ H Q ⟨δ,G,Qd,hs,ht,kk⟩ =>
    ⟨δ,G,_,hs,ht,λv H1 G1 d n1 r1 q1=>⟨d,v,rfl,(noAdr_of q1).1,r1.all n1.hs.sub,kk _ H1 G1 _ n1 (by simp only [Rep]) (noAdr_of q1).2⟩⟩
end
theorem vals_ints:∀ {ns:List Int} {us:List Value},Vals (ns.map V.int) us -> ∃ xs:List (Int × Tok),us = xs.map (λp=>.int p.1 p.2) /\ xs.map (·.1) = ns
  | [],us,r=>by cases r;exact ⟨[],rfl,rfl⟩
  | n :: ns,us,r=>by
    cases r with
    | cons r1 r2 =>
      obtain ⟨t,rfl⟩:=(show ∃ t,_ = Value.int n t from r1);obtain ⟨xs,rfl,h⟩:=vals_ints r2;exact ⟨(n,t) :: xs,rfl,by simp [h]⟩
theorem preSum_list (xs:List (Int × Tok)):∀ k,preSum (numAt xs.toArray) k = ((xs.take k).map (·.1)).sum
  | 0=>rfl
  | k + 1=>by
    rw [preSum,preSum_list xs k]
    by_cases h:k < xs.length
    · have e:xs.take (k + 1) = xs.take k ++ [xs[k]]:=by rw [List.take_succ];simp [h]
      rw [e,List.map_append,List.sum_append];simp [numAt,h]
    · rw [List.take_of_length_le (by omega),List.take_of_length_le (by omega)]
      simp [numAt,Nat.le_of_not_lt h]
section
variable {X:Cx} {H0:Hp} {e:Expr} {es:List Expr} {tr:RA} {pos p:Pos}
def rSumV (K:PySem.W.Frag):List V -> Hp -> VK -> Prop:=λxs H Q=>∃ a ns,xs = [.ref a] /\ SqL K H a (List.map V.int ns) /\ Q (.int ns.sum) H
theorem call_sum (hc:X.calm = true):CallR X (.builtin "sum") (rSumV X.K):=by
  intro pins s σ H xs us Q I r h;obtain ⟨a,ns,rfl,hq,q⟩:=h
  cases r with
  | cons r1 r =>
    cases r;cases (show _ = Value.ref a from r1);obtain ⟨its,rv,pl,_⟩:=I.list hq;obtain ⟨ps,rfl,hp⟩:=vals_ints rv;refine sum_intListG (xs:=ps.toArray) (I.ok.hd hc) (by simpa [intItems] using pl.isList) λh' tk t' hk=>⟨.int ns.sum,H,?_,⟨t',?_⟩,q⟩
    · exact I.kept (t':=tk) hk
    · rw [preSum_list,List.take_of_length_le (by simp),hp]
def dSum (ds:List D) (Q:D -> Prop):Prop:=∃ ns:List Int,ds = [.lst (ns.map D.int)] /\ Q (.int ns.sum)
theorem lf_sum {K:PySem.W.Frag}:LfC K (rSumV K) dSum:=λH0 σ δ G H vs ds Qd Q hs r h k=>by
  obtain ⟨ns,rfl,q⟩:=h;obtain ⟨v,rr,rfl,⟨a,ws,rfl,h2,h3⟩,h4⟩:=r;obtain rfl:rr = []:=h4;rw [Reps.ints_inv h3] at h2;exact ⟨a,ns,rfl,h2,k _ H G _ (Nx.refl hs) (by simp only [Rep]) q⟩
theorem e_sum (hc:X.calm = true) (hm:X.mg "sum" = none) (ha:PAB2 X H0 (e :: es) tr) (hg:Gl X "sum" := by rfl)
 (he:starEach (e :: es) X.env = (false,eval e X.env) :: starEach es X.env:=by rfl) (hpl:(backTo pos (starEach es X.env)).any (·.1) = false:=by rfl):PE2 X H0 (.Call (.Name "sum" p) (e :: es) [] pos) (rCB dSum tr) :=
  e_callB (call_sum hc) lf_sum hm rfl ha hg (by decide) (by decide) he hpl
end
section
variable {X:Cx} {H0:Hp} {e:Expr} {te:RE} {pos pos':Pos} {x:Str}
def rAug (f:Int -> Int -> Int) (i:Nat) (te:RE) (E:Ends2) (δ:List Sl):Prop:=match δ[i]? with
  | some (.fr (.int a))=>te δ λd=>match d with
    | .int b=>E.nx (δ.set i (.fr (.int (f a b))))
    | _=>False
  | _=>False
theorem s_aug {op:Operator} {f:Int -> Int -> Int} (ho:PIp X op (ipI f)) (i:Nat) (hN:X.N.Nodup) (he:PE2 X H0 e te) (hi:X.N[i]? = some x:=by rfl) (hx:Loc X.env.scope x:=by first | exact Or.inl rfl | exact Or.inr rfl)
 (hf:X.fn x = true \/ X.env.scope.names.lookup x = some .local:=by first | exact .inl rfl | exact .inr rfl | assumption):PS2 X H0 (.AugAssign (.Name x pos') op e pos) (rAug f i te) :=
  PS.weak (ps_aug hN hi hx he ho hf) λD σ H ⟨δ,G,E,hs,ht,g⟩=>by
    unfold rAug at ht
    split at ht
    · rename_i a ea
      obtain ⟨v,e1,r⟩:=hs.fr i _ ea;obtain rfl:v = .int a:=by simpa only [Rep] using r
      refine ⟨_,e1,δ,G,_,hs,ht,λv H1 G1 d n1 r1 q1=>?_⟩
      cases d with
      | int b =>
        obtain rfl:v = .int b:=by simpa only [Rep] using r1
        obtain ⟨G',h',s'⟩:=n1.hs.put (d:=.int (f a b)) (v:=.int (f a b)) ea rfl (by simp only [Rep]);exact ⟨a,b,rfl,rfl,g.nx _ H1 _ G' h' (n1.g.trans s') q1⟩
      | _=>exact q1.elim
    · exact ht.elim
theorem s_augadd (i:Nat) (hN:X.N.Nodup) (he:PE2 X H0 e te) (hi:X.N[i]? = some x:=by rfl) (hx:Loc X.env.scope x:=by first | exact Or.inl rfl | exact Or.inr rfl)
 (hf:X.fn x = true \/ X.env.scope.names.lookup x = some .local:=by first | exact .inl rfl | exact .inr rfl | assumption):PS2 X H0 (.AugAssign (.Name x pos') .Add e pos) (rAug (λi j=>i + j) i te):=s_aug ip_add i hN he hi hx hf
end
theorem mem7 {P:String -> Prop} (h1:P "NoneType") (h2:P "bool") (h3:P "int") (h4:P "str") (h5:P "tuple") (h6:P "list") (h7:P "dict"):∀ k ∈ ["NoneType", "bool", "int", "str", "tuple", "list", "dict"],P k:=by
  intro k hk;simp only [List.mem_cons,List.not_mem_nil,or_false] at hk
  rcases hk with rfl | rfl | rfl | rfl | rfl | rfl | rfl
  all_goals assumption
theorem kind_int (K:PySem.W.Frag):KindOk K "int" := ⟨mem7 (by first | rfl | kernel_rfl) (by first | rfl | kernel_rfl) (by first | rfl | kernel_rfl) (by first | rfl | kernel_rfl) (by first | rfl | kernel_rfl) (by first | rfl | kernel_rfl) (by first | rfl | kernel_rfl)⟩
theorem kind_bool (K:PySem.W.Frag):KindOk K "bool" := ⟨mem7 (by first | rfl | kernel_rfl) (by first | rfl | kernel_rfl) (by first | rfl | kernel_rfl) (by first | rfl | kernel_rfl) (by first | rfl | kernel_rfl) (by first | rfl | kernel_rfl) (by first | rfl | kernel_rfl)⟩
theorem kind_str (K:PySem.W.Frag):KindOk K "str" := ⟨mem7 (by first | rfl | kernel_rfl) (by first | rfl | kernel_rfl) (by first | rfl | kernel_rfl) (by first | rfl | kernel_rfl) (by first | rfl | kernel_rfl) (by first | rfl | kernel_rfl) (by first | rfl | kernel_rfl)⟩
theorem kind_tuple (K:PySem.W.Frag):KindOk K "tuple" := ⟨mem7 (by first | rfl | kernel_rfl) (by first | rfl | kernel_rfl) (by first | rfl | kernel_rfl) (by first | rfl | kernel_rfl) (by first | rfl | kernel_rfl) (by first | rfl | kernel_rfl) (by first | rfl | kernel_rfl)⟩
theorem kind_list (K:PySem.W.Frag):KindOk K "list" := ⟨mem7 (by first | rfl | kernel_rfl) (by first | rfl | kernel_rfl) (by first | rfl | kernel_rfl) (by first | rfl | kernel_rfl) (by first | rfl | kernel_rfl) (by first | rfl | kernel_rfl) (by first | rfl | kernel_rfl)⟩
theorem sIx_nat {len dflt n:Nat}:HT.sIx len dflt (some (n:Int)) = min n len:=by
  unfold HT.sIx
  first | (simp;omega) | (simp;done) | (split <;> omega) | skip
theorem cut_mid {xs:List D} {a b:Nat}:cutD xs (some (a:Int)) (some (b:Int)) = (xs.drop a).take (b - a):=by
  unfold cutD;rw [sIx_nat,sIx_nat]
  by_cases h:a <= xs.length
  · rw [Nat.min_eq_left h]
    by_cases h2:b <= xs.length
    · rw [Nat.min_eq_left h2]
    · rw [Nat.min_eq_right (by omega),List.take_of_length_le (by simp),List.take_of_length_le (by simp;omega)]
  · have e:min a xs.length = xs.length:=by omega
    rw [e,List.drop_length,List.drop_of_length_le (by omega)];simp
theorem eq_self60 {d:D} (h:plainD 60 d = true):eqD d d = true:=eqD_self 60 d h
section
variable {κ:Type} [DecidableEq κ]
def valD (kvs:List (κ × D)) (k:κ):Option D:=(kvs.find? λkv=>decide (kv.1 = k)).map (·.2)
def putD (kvs:List (κ × D)) (k:κ) (d:D):List (κ × D) :=
  if (kvs.any λkv=>decide (kv.1 = k)) = true then kvs.map (λkv=>if kv.1 = k then (kv.1,d) else kv) else kvs ++ [(k,d)]
theorem valD_nil {k:κ}:valD ([]:List (κ × D)) k = none:=rfl
theorem valD_pos {p:κ × D} {r:List (κ × D)} {k:κ} (e:p.1 = k):valD (p :: r) k = some p.2:=by simp [valD,List.find?_cons,e]
theorem valD_neg {p:κ × D} {r:List (κ × D)} {k:κ} (e:¬ p.1 = k):valD (p :: r) k = valD r k:=by simp [valD,List.find?_cons,e]
theorem valD_any (k:κ):∀ kvs:List (κ × D),(kvs.any λkv=>decide (kv.1 = k)) = (valD kvs k).isSome
  | []=>rfl
  | p :: r=>by
    rw [List.any_cons]
    by_cases e:p.1 = k
    · rw [valD_pos e];simp [e]
    · rw [valD_neg e];simp [e,valD_any k r]
theorem valD_mapNe (k j:κ) (d:D):∀ kvs:List (κ × D),valD (kvs.map λkv=>if kv.1 = k then (kv.1,d) else kv) j = (valD kvs j).map λx=>if j = k then d else x
  | []=>rfl
  | p :: r=>by
    have ih:=valD_mapNe k j d r;rw [List.map_cons]
    by_cases h1:p.1 = k
    · rw [if_pos h1]
      by_cases h2:p.1 = j
      · rw [valD_pos (p:=(p.1,d)) h2,valD_pos h2]
        simp [<- h2,h1]
      · rw [valD_neg (p:=(p.1,d)) h2,valD_neg h2,ih]
    · rw [if_neg h1]
      by_cases h2:p.1 = j
      · have : ¬ j = k:=λz=>h1 (h2.trans z)
        rw [valD_pos h2,valD_pos h2];simp [this]
      · rw [valD_neg h2,valD_neg h2,ih]
theorem valD_append (k:κ) (a b:List (κ × D)):valD (a ++ b) k = (valD a k).or (valD b k):=by
  induction a with
  | nil=>simp [valD_nil]
  | cons p r ih =>
    rw [List.cons_append]
    by_cases e:p.1 = k
    · rw [valD_pos e,valD_pos e];rfl
    · rw [valD_neg e,valD_neg e,ih]
theorem valD_put (kvs:List (κ × D)) (k j:κ) (d:D):valD (putD kvs k d) j = if j = k then some d else valD kvs j:=by
  unfold putD
  split
  · rename_i h
    rw [valD_any] at h;rw [valD_mapNe]
    by_cases e:j = k
    · subst e
      rw [if_pos rfl];obtain ⟨x,hx⟩:=Option.isSome_iff_exists.mp h;rw [hx];simp
    · rw [if_neg e]
      cases valD kvs j with
      | none=>rfl
      | some x=>simp [e]
  · rename_i h
    rw [valD_any] at h;rw [valD_append]
    by_cases e:j = k
    · subst e
      rw [if_pos rfl];have : valD kvs j = none:=by
        cases q:valD kvs j with
        | none=>rfl
        | some x=>rw [q] at h;simp at h
      rw [this,valD_pos (p:=(j,d)) rfl];rfl
    · rw [if_neg e,valD_neg (p:=(k,d)) (λz=>e z.symm),valD_nil];cases valD kvs j <;> rfl
theorem putD_length (kvs:List (κ × D)) (k:κ) (d:D):(putD kvs k d).length <= kvs.length + 1:=by
  unfold putD
  split
  · simp
  · simp
end
section
variable {K:PySem.W.Frag} {H:Hp}
theorem RepK.val:∀ {kvs:List (Key × D)} {kws:List (Key × V)},RepK K H kvs kws -> ∀ k,match valD kvs k with
    | some d=>∃ v,valV kws k = some v /\ Rep K H d v
    | none=>valV kws k = none
  | [],kws,h,k=>by simp only [RepK] at h;subst h;rfl
  | (k0,d) :: r,kws,h,k=>by
    simp only [RepK] at h;obtain ⟨v,q,rfl,h1,h2⟩:=h
    by_cases e:k0 = k
    · rw [valD_pos (p:=(k0,d)) e]
      exact ⟨v,valV_pos (p:=(k0,v)) e,h1⟩
    · rw [valD_neg (p:=(k0,d)) e,valV_neg (p:=(k0,v)) e]
      exact RepK.val h2 k
theorem RepK.valS {kvs:List (Key × D)} {kws:List (Key × V)} (h:RepK K H kvs kws) {k:Key} {d:D} (e:valD kvs k = some d):∃ v,valV kws k = some v /\ Rep K H d v:=by
  have:=h.val k;rw [e] at this;exact this
theorem RepK.valN {kvs:List (Key × D)} {kws:List (Key × V)} (h:RepK K H kvs kws) {k:Key} (e:valD kvs k = none):valV kws k = none:=by
  have:=h.val k;rw [e] at this;exact this
theorem RepK.isSome {kvs:List (Key × D)} {kws:List (Key × V)} (h:RepK K H kvs kws) (k:Key):(valV kws k).isSome = (valD kvs k).isSome:=by
  cases e:valD kvs k with
  | none=>rw [h.valN e];rfl
  | some d=>obtain ⟨v,e',_⟩:=h.valS e;rw [e'];rfl
theorem RepK.map {k:Key} {d:D} {v:V} (r:Rep K H d v):∀ {kvs:List (Key × D)} {kws:List (Key × V)},RepK K H kvs kws -> RepK K H (kvs.map λkv=>if kv.1 = k then (kv.1,d) else kv) (kws.map λkv=>if kv.1 = k then (kv.1,v) else kv)
  | [],kws,h=>by simp only [RepK] at h;subst h;simp [RepK]
  | (k0,d0) :: r0,kws,h=>by
    simp only [RepK] at h;obtain ⟨v0,q,rfl,h1,h2⟩:=h;rw [List.map_cons,List.map_cons]
    by_cases e:k0 = k
    · rw [if_pos e,if_pos e];simp only [RepK];exact ⟨v,_,rfl,r,RepK.map r h2⟩
    · rw [if_neg e,if_neg e];simp only [RepK];exact ⟨v0,_,rfl,h1,RepK.map r h2⟩
theorem RepK.append:∀ {kvs es:List (Key × D)} {kws fs:List (Key × V)},RepK K H kvs kws -> RepK K H es fs -> RepK K H (kvs ++ es) (kws ++ fs)
  | [],es,kws,fs,h,g=>by simp only [RepK] at h;subst h;exact g
  | (k0,d0) :: r0,es,kws,fs,h,g=>by
    simp only [RepK] at h;obtain ⟨v0,q,rfl,h1,h2⟩:=h;rw [List.cons_append,List.cons_append];simp only [RepK];exact ⟨v0,_,rfl,h1,RepK.append h2 g⟩
theorem RepK.put {kvs:List (Key × D)} {kws:List (Key × V)} {k:Key} {d:D} {v:V} (h:RepK K H kvs kws) (r:Rep K H d v):RepK K H (putD kvs k d) (putK kws k v):=by
  unfold putD putK;rw [valD_any,valV_any,h.isSome]
  split
  · exact h.map r
  · exact h.append (by simp only [RepK];exact ⟨v,[],rfl,r,rfl⟩)
end
section
variable {K:PySem.W.Frag} {H:Hp}
theorem RepT.val:∀ {kvs:List (List Key × D)} {kws:List (List Key × V)},RepT K H kvs kws -> ∀ k,match valD kvs k with
    | some d=>∃ v,valV kws k = some v /\ Rep K H d v
    | none=>valV kws k = none
  | [],kws,h,k=>by simp only [RepT] at h;subst h;rfl
  | (k0,d) :: r,kws,h,k=>by
    simp only [RepT] at h;obtain ⟨v,q,rfl,h1,h2⟩:=h
    by_cases e:k0 = k
    · rw [valD_pos (p:=(k0,d)) e]
      exact ⟨v,valV_pos (p:=(k0,v)) e,h1⟩
    · rw [valD_neg (p:=(k0,d)) e,valV_neg (p:=(k0,v)) e]
      exact RepT.val h2 k
theorem RepT.valS {kvs:List (List Key × D)} {kws:List (List Key × V)} (h:RepT K H kvs kws) {k:List Key} {d:D} (e:valD kvs k = some d):∃ v,valV kws k = some v /\ Rep K H d v:=by
  have:=h.val k;rw [e] at this;exact this
theorem RepT.valN {kvs:List (List Key × D)} {kws:List (List Key × V)} (h:RepT K H kvs kws) {k:List Key} (e:valD kvs k = none):valV kws k = none:=by
  have:=h.val k;rw [e] at this;exact this
theorem RepT.isSome {kvs:List (List Key × D)} {kws:List (List Key × V)} (h:RepT K H kvs kws) (k:List Key):(valV kws k).isSome = (valD kvs k).isSome:=by
  cases e:valD kvs k with
  | none=>rw [h.valN e];rfl
  | some d=>obtain ⟨v,e',_⟩:=h.valS e;rw [e'];rfl
theorem RepT.map {k:List Key} {d:D} {v:V} (r:Rep K H d v):∀ {kvs:List (List Key × D)} {kws:List (List Key × V)},RepT K H kvs kws -> RepT K H (kvs.map λkv=>if kv.1 = k then (kv.1,d) else kv) (kws.map λkv=>if kv.1 = k then (kv.1,v) else kv)
  | [],kws,h=>by simp only [RepT] at h;subst h;simp [RepT]
  | (k0,d0) :: r0,kws,h=>by
    simp only [RepT] at h;obtain ⟨v0,q,rfl,h1,h2⟩:=h;rw [List.map_cons,List.map_cons]
    by_cases e:k0 = k
    · rw [if_pos e,if_pos e];simp only [RepT];exact ⟨v,_,rfl,r,RepT.map r h2⟩
    · rw [if_neg e,if_neg e];simp only [RepT];exact ⟨v0,_,rfl,h1,RepT.map r h2⟩
theorem RepT.append:∀ {kvs es:List (List Key × D)} {kws fs:List (List Key × V)},RepT K H kvs kws -> RepT K H es fs -> RepT K H (kvs ++ es) (kws ++ fs)
  | [],es,kws,fs,h,g=>by simp only [RepT] at h;subst h;exact g
  | (k0,d0) :: r0,es,kws,fs,h,g=>by
    simp only [RepT] at h;obtain ⟨v0,q,rfl,h1,h2⟩:=h;rw [List.cons_append,List.cons_append];simp only [RepT];exact ⟨v0,_,rfl,h1,RepT.append h2 g⟩
theorem RepT.put {kvs:List (List Key × D)} {kws:List (List Key × V)} {k:List Key} {d:D} {v:V} (h:RepT K H kvs kws) (r:Rep K H d v):RepT K H (putD kvs k d) (putK kws k v):=by
  unfold putD putK;rw [valD_any,valV_any,h.isSome]
  split
  · exact h.map r
  · exact h.append (by simp only [RepT];exact ⟨v,[],rfl,r,rfl⟩)
end
theorem DGet.kr {H:Hp} {a:Addr} {kvs:List (Key × V)} {k:Key} (e:Rd H a (.dK kvs)):DGet H a (kV k) (valV kvs k):=.inl ⟨kvs,k,e,rfl,rfl⟩
theorem DGet.tr {H:Hp} {a b:Addr} {kvs:List (List Key × V)} {k:List Key} (e:Rd H a (.dT kvs)) (eb:H b = some (.tup (k.map kV))):DGet H a (.ref b) (valV kvs k):=.inr ⟨kvs,k,b,e,rfl,eb,rfl⟩
def kD:Key -> D
  | .inl i=>.int i
  | .inr x=>.str x
def dkey (y:D) (Q:Key -> Prop):Prop:=match y with
  | .int i=>Q (.inl i)
  | .str x=>Q (.inr x)
  | _=>False
def tkey (y:D) (Q:List Key -> Prop):Prop:=match y with
  | .tup ds=>∃ ks:List Key,ds = ks.map kD /\ Q ks
  | _=>False
theorem dkey_of {K:PySem.W.Frag} {G:Hp} {y:D} {v:V} {Q:Key -> Prop} (h:dkey y Q) (r:Rep K G y v):∃ k,v = kV k /\ Q k:=by
  cases y with
  | int i=>simp only [Rep] at r;exact ⟨.inl i,r,h⟩
  | str x=>simp only [Rep] at r;exact ⟨.inr x,r,h⟩
  | _=>exact h.elim
theorem Reps.keys_inv {K:PySem.W.Frag} {H:Hp}:∀ {ks:List Key} {vs:List V},Reps K H (ks.map kD) vs -> vs = ks.map kV
  | [],vs,h=>by simp only [List.map_nil,Reps] at h;exact h
  | k :: ks,vs,h=>by
    simp only [List.map_cons,Reps] at h;obtain ⟨v,r,rfl,h2,h3⟩:=h;rw [Reps.keys_inv h3]
    cases k with
    | inl i=>rw [show v = .int i by simpa only [kD,Rep] using h2];rfl
    | inr x=>rw [show v = .str x by simpa only [kD,Rep] using h2];rfl
theorem tkey_of {K:PySem.W.Frag} {G:Hp} {y:D} {v:V} {Q:List Key -> Prop} (h:tkey y Q) (r:Rep K G y v):∃ ks b,v = .ref b /\ G b = some (.tup (ks.map kV)) /\ Q ks:=by
  cases y with
  | tup ds =>
    obtain ⟨ks,rfl,q⟩:=h;simp only [Rep] at r;obtain ⟨b,vs,rfl,h1,h2⟩:=r;rw [Reps.keys_inv h2] at h1;exact ⟨ks,b,rfl,h1,q⟩
  | _=>exact h.elim
def rDGetV:R2:=λx y H Q=>∃ a v,x = .ref a /\ DGet H a y (some v) /\ Q v H
def dDGet (x y:D) (Q:D -> Prop):Prop:=match x with
  | .dK kvs=>dkey y λk=>∃ d,valD kvs k = some d /\ Q d
  | .dT kvs=>tkey y λk=>∃ d,valD kvs k = some d /\ Q d
  | _=>False
theorem lf_dget {K:PySem.W.Frag}:Lf2 K rDGetV dDGet:=λH0 σ δ G H x y dx dy Qd Q hs rx ry h k=>by
  cases dx with
  | dK kvs =>
    obtain ⟨a,kws,rfl,h1,h2⟩:=rx;replace h:dkey dy (λk=>∃ d,valD kvs k = some d /\ Qd d):=h;obtain ⟨key,rfl,d,e,q⟩:=dkey_of h (ry.all hs.sub);obtain ⟨v,e',r'⟩:=h2.valS e;refine ⟨a,v,rfl,?_,k v H G d (Nx.refl hs) r' q⟩;rw [<- e'];exact DGet.kr h1
  | dT kvs =>
    obtain ⟨a,kws,rfl,h1,h2⟩:=rx;replace h:tkey dy (λk=>∃ d,valD kvs k = some d /\ Qd d):=h;obtain ⟨key,b,rfl,hb,d,e,q⟩:=tkey_of h (ry.all hs.sub);obtain ⟨v,e',r'⟩:=h2.valS e;refine ⟨a,v,rfl,?_,k v H G d (Nx.refl hs) r' q⟩;rw [<- e'];exact DGet.tr h1 hb
  | _=>exact h.elim
def rDInV (neg:Bool):R2:=λy x H Q=>∃ a o,x = .ref a /\ DGet H a y o /\ Q (.bl (neg != o.isSome)) H
def dDIn (neg:Bool) (y x:D) (Q:D -> Prop):Prop:=match x with
  | .dK kvs=>dkey y λk=>Q (.bl (neg != (valD kvs k).isSome))
  | .dT kvs=>tkey y λk=>Q (.bl (neg != (valD kvs k).isSome))
  | _=>False
theorem lf_din {K:PySem.W.Frag} {neg:Bool}:Lf2 K (rDInV neg) (dDIn neg):=λH0 σ δ G H y x dy dx Qd Q hs ry rx h k=>by
  cases dx with
  | dK kvs =>
    obtain ⟨a,kws,rfl,h1,h2⟩:=rx;replace h:dkey dy (λk=>Qd (.bl (neg != (valD kvs k).isSome))):=h;obtain ⟨key,rfl,q⟩:=dkey_of h (ry.all hs.sub);exact ⟨a,_,rfl,DGet.kr h1,k _ H G _ (Nx.refl hs) (by simp only [Rep];rw [h2.isSome]) q⟩
  | dT kvs =>
    obtain ⟨a,kws,rfl,h1,h2⟩:=rx;replace h:tkey dy (λk=>Qd (.bl (neg != (valD kvs k).isSome))):=h;obtain ⟨key,b,rfl,hb,q⟩:=tkey_of h (ry.all hs.sub);exact ⟨a,_,rfl,DGet.tr h1 hb,k _ H G _ (Nx.refl hs) (by simp only [Rep];rw [h2.isSome]) q⟩
  | _=>exact h.elim
section
variable {X:Cx} {H0:Hp} {a b e f value o:Expr} {ta tb te tf:RE} {pos pos' apos cpos p:Pos} {x:Str}
theorem e_dget (hu:X.A.units + 1 < cLine) (ha:PB2 X H0 a ta) (hb:PB2 X H0 b tb) (hs:NoSl b:=by intro _ _;rfl):PE2 X H0 (.Subscript a b pos) (rOp dDGet ta tb) :=
  PE.weak (pe_dget hu ha hb hs) (lift_op (r:=rDGetV) lf_dget)
theorem liftB_mono {K:PySem.W.Frag} {t:RE} {σ:L2.St} {H:Hp} {Q Q':VK} (k:∀ v H,Q v H -> Q' v H) (h:liftB K H0 t σ H Q):liftB K H0 t σ H Q':=by
  obtain ⟨δ,G,Qd,hs,ht,kk⟩:=h;exact ⟨δ,G,Qd,hs,ht,λv H' G' d n r q=>k _ _ (kk v H' G' d n r q)⟩
theorem pe_in2 (hu:X.A.units + 1 < cLine) (ha:PB2 X H0 a ta) (hb:PB2 X H0 b tb):PC X .In a b (tOp (rDInV false) (liftB X.K H0 ta) (liftB X.K H0 tb)):=λpins s σ H Q I h =>
  pc_din hu ha hb pins s σ H Q I (liftB_mono (λy H1 h1=>liftB_mono (λz H2 ⟨a,o,e,g,q⟩=>⟨a,o,e,g,by simpa using q⟩) h1) h)
theorem pe_notin2 (hu:X.A.units + 1 < cLine) (ha:PB2 X H0 a ta) (hb:PB2 X H0 b tb):PC X .NotIn a b (tOp (rDInV true) (liftB X.K H0 ta) (liftB X.K H0 tb)):=λpins s σ H Q I h =>
  pc_dnotin hu ha hb pins s σ H Q I (liftB_mono (λy H1 h1=>liftB_mono (λz H2 ⟨a,o,e,g,q⟩=>⟨a,o,e,g,by simpa using q⟩) h1) h)
theorem t_din (hu:X.A.units + 1 < cLine) (ha:PB2 X H0 a ta) (hb:PB2 X H0 b tb) (h1:behindInMarks .In b = false:=by rfl):PT2 X H0 (.Compare a [.In] [b] pos) (rTest (rOp (dDIn false) ta tb)) :=
  PT.weak (pt_cmp (pe_in2 hu ha hb) h1) (lift_test (lift_op lf_din))
theorem e_dnotin (hu:X.A.units + 1 < cLine) (ha:PB2 X H0 a ta) (hb:PB2 X H0 b tb) (h1:behindInMarks .NotIn b = false:=by rfl):PE2 X H0 (.Compare a [.NotIn] [b] pos) (rOp (dDIn true) ta tb) :=
  PE.weak (pe_cmp (pe_notin2 hu ha hb) h1) (lift_op lf_din)
theorem t_dnotin (hu:X.A.units + 1 < cLine) (ha:PB2 X H0 a ta) (hb:PB2 X H0 b tb) (h1:behindInMarks .NotIn b = false:=by rfl):PT2 X H0 (.Compare a [.NotIn] [b] pos) (rTest (rOp (dDIn true) ta tb)) :=
  PT.weak (pt_cmp (pe_notin2 hu ha hb) h1) (lift_test (lift_op lf_din))
theorem getD_rep {κ:Type} [DecidableEq κ] {K:PySem.W.Frag} {G:Hp} {kvs:List (κ × D)} {kws:List (κ × V)} {k:κ} {z:D} {vz:V} (hS:∀ {d:D},valD kvs k = some d -> ∃ v,valV kws k = some v /\ Rep K G d v) (hN:valD kvs k = none -> valV kws k = none) (rz:Rep K G z vz):Rep K G ((valD kvs k).getD z) ((valV kws k).getD vz):=by
  cases e:valD kvs k with
  | none=>rw [hN e];exact rz
  | some d=>obtain ⟨v,e',r⟩:=hS e;rw [e'];exact r
def rDGet2 (ta tb tc:RE) (δ:List Sl) (Q:D -> Prop):Prop:=ta δ λx=>match x with
  | .dK kvs=>tb δ λy=>tc δ λz=>dkey y λk=>Q ((valD kvs k).getD z)
  | .dT kvs=>tb δ λy=>tc δ λz=>tkey y λk=>Q ((valD kvs k).getD z)
  | _=>False
theorem e_dget2 (hu:X.A.units + 1 < cLine) (ho:PB2 X H0 o ta) (he:PE2 X H0 e te) (hf:PE2 X H0 f tf) (m:M2 X o "get" apos e f cpos:=by exact ⟨rfl,rfl,rfl,rfl⟩):PE2 X H0 (.Call (.Attribute o "get" apos) [e,f] [] cpos) (rDGet2 ta te tf) :=
  PE.weak (pe_dget2 hu ho he hf m) λσ H Q ⟨δ,G,Qd,hs,ht,kk⟩=>⟨δ,G,_,hs,ht,λv H1 G1 d n1 r1 q1=>by
    cases d with
    | dK kvs =>
      obtain ⟨a,kws,rfl,h1,h2⟩:=r1;refine ⟨a,rfl,.inl ⟨_,h1⟩,δ,G1,_,n1.hs,q1,λvy H2 G2 dy n2 r2 q2=>⟨δ,G2,_,n2.hs,q2,λvz H3 G3 dz n3 r3 q3=>?_⟩⟩;obtain ⟨k,rfl,q⟩:=dkey_of q3 (Rep.mono n3.g _ _ r2);have h2':=RepK.mono (n2.g.trans n3.g) _ _ h2;exact ⟨_,DGet.kr (same_rd n3.h (same_rd n2.h h1)),kk _ H3 G3 _ ((n1.trans n2).trans n3) (getD_rep (λe=>h2'.valS e) (λe=>h2'.valN e) r3) q⟩
    | dT kvs =>
      obtain ⟨a,kws,rfl,h1,h2⟩:=r1;refine ⟨a,rfl,.inr ⟨_,h1⟩,δ,G1,_,n1.hs,q1,λvy H2 G2 dy n2 r2 q2=>⟨δ,G2,_,n2.hs,q2,λvz H3 G3 dz n3 r3 q3=>?_⟩⟩;obtain ⟨k,b,rfl,hb,q⟩:=tkey_of q3 (Rep.mono n3.g _ _ r2);have h2':=RepT.mono (n2.g.trans n3.g) _ _ h2;exact ⟨_,DGet.tr (same_rd n3.h (same_rd n2.h h1)) (n3.hs.sub _ _ hb),kk _ H3 G3 _ ((n1.trans n2).trans n3) (getD_rep (λe=>h2'.valS e) (λe=>h2'.valN e) r3) q⟩
    | _=>exact q1.elim⟩
def rDPut (i:Nat) (tk tv:RE) (E:Ends2) (δ:List Sl):Prop:=match δ[i]? with
  | some (.ow (.dK kvs))=>tv δ λd=>tk δ λy=>dkey y λk=>kvs.length < sizeLine /\ E.nx (δ.set i (.ow (.dK (putD kvs k d))))
  | some (.lk q (.dK kvs))=>tv δ λd=>tk δ λy=>dkey y λk=>kvs.length < sizeLine /\ E.nx (δ.set i (.lk q (.dK (putD kvs k d))))
  | some (.ow (.dT kvs))=>tv δ λd=>tk δ λy=>tkey y λk=>kvs.length < sizeLine /\ E.nx (δ.set i (.ow (.dT (putD kvs k d))))
  | _=>False
theorem s_dput (i:Nat) (hu:X.A.units + 1 < cLine) (hk:PE2 X H0 e te) (hv:PE2 X H0 value tf) (hN:X.N[i]? = some x:=by rfl) (hvs:Vis X.env.scope x:=by first | exact Or.inl rfl | exact Or.inr (Or.inl rfl) | exact Or.inr (Or.inr rfl)) (hd:(x == ("__debug__" : Str)) = false:=by decide)
 (hcd:(x == ("__classdict__" : Str)) = false:=by decide) (hs:swapsWith value (some (.Subscript (.Name x p) e pos')) pos.line X.env = pure false:=by rfl) :
 PS2 X H0 (.Assign [.Subscript (.Name x p) e pos'] value pos) (rDPut i te tf) :=
  PS.weak (ps_dput hu (pe_var hN hvs hd hcd) hk hv hs) λD σ H ⟨δ,G,E,hs,ht,go⟩=>by
    unfold rDPut at ht
    split at ht
    · rename_i kvs e0
      refine ⟨δ,G,_,hs,ht,λv H1 G1 d n1 r1 q1=>?_⟩;obtain ⟨a,e1,_⟩:=n1.hs.ow i _ e0;refine ⟨_,e1,δ,G1,_,n1.hs,q1,λy H2 G2 dy n2 r2 q2=>?_⟩;obtain ⟨a',e1',kws,h1,h2⟩:=n2.hs.ow i _ e0;rw [e1] at e1';cases e1';obtain ⟨k,rfl,hl,q⟩:=dkey_of q2 r2;exact ⟨a,_,rfl,DPut.k h1 (by rw [<- h2.length];exact hl),go.nx _ _ _ G2 (n2.hs.write (d':=.dK (putD kvs k d)) e0 e1 ⟨_,upd_same,h2.put (Rep.mono n2.g _ _ r1)⟩) (n1.g.trans n2.g) q⟩
    · rename_i b kvs e0
      refine ⟨δ,G,_,hs,ht,λv H1 G1 d n1 r1 q1=>?_⟩;obtain ⟨e1,_⟩:=n1.hs.lk i _ _ e0;refine ⟨_,e1,δ,G1,_,n1.hs,q1,λy H2 G2 dy n2 r2 q2=>?_⟩;obtain ⟨_,kws,h1,h2⟩:=n2.hs.lk i _ _ e0;obtain ⟨k,rfl,hl,q⟩:=dkey_of q2 r2;exact ⟨b,_,rfl,DPut.k h1 (by rw [<- h2.length];exact hl),go.nx _ _ _ G2 (n2.hs.writeL (d':=.dK (putD kvs k d)) e0 e1 ⟨_,upd_same,h2.put (Rep.mono n2.g _ _ r1)⟩) (n1.g.trans n2.g) q⟩
    · rename_i kvs e0
      refine ⟨δ,G,_,hs,ht,λv H1 G1 d n1 r1 q1=>?_⟩;obtain ⟨a,e1,_⟩:=n1.hs.ow i _ e0;refine ⟨_,e1,δ,G1,_,n1.hs,q1,λy H2 G2 dy n2 r2 q2=>?_⟩;obtain ⟨a',e1',kws,h1,h2⟩:=n2.hs.ow i _ e0;rw [e1] at e1';cases e1';obtain ⟨k,b,rfl,hb,hl,q⟩:=tkey_of q2 r2;exact ⟨a,_,rfl,DPut.t h1 (n2.hs.sub _ _ hb) (by rw [<- h2.length];exact hl),go.nx _ _ _ G2 (n2.hs.write (d':=.dT (putD kvs k d)) e0 e1 ⟨_,upd_same,h2.put (Rep.mono n2.g _ _ r1)⟩) (n1.g.trans n2.g) q⟩
    · exact ht.elim
def rCopyV:List V -> Hp -> VK -> Prop:=λxs H Q=>∃ a kvs,xs = [.ref a] /\ Rd H a (.dK kvs) /\ ∀ p,H p = none -> Q (.ref p) (upd H p (.dK kvs))
theorem call_dict:CallR X (.type "dict") rCopyV:=by
  intro pins s σ H xs us Q I r h;obtain ⟨a,kvs,rfl,e,q⟩:=h
  cases r with
  | cons r1 r =>
    cases r;cases (show _ = Value.ref a from r1);exact d_copyOf I e λp s' hp I'=>⟨.ref p,_,I',rfl,q p hp⟩
def dDict (ds:List D) (Q:D -> Prop):Prop:=match ds with
  | [.dK kvs]=>Q (.dK kvs)
  | _=>False
theorem lf_dict {K:PySem.W.Frag}:LfN K rCopyV dDict:=λH0 σ δ G H vs ds Qd Q hs r h k=>by
  unfold dDict at h
  split at h
  · rename_i kvs
    obtain ⟨v,rr,rfl,⟨a,kws,rfl,h2,h3⟩,h4⟩:=r;obtain rfl:rr = []:=h4;exact ⟨a,kws,rfl,h2,λl hl=>k _ _ G (.dK kvs) (hs.fresh hl ⟨kws,upd_same,h3⟩) (Same.refl _) (upd_mono hl) h⟩
  · exact h.elim
variable {es:List Expr} {tr:RA}
theorem n_dict (hm:X.mg "dict" = none) (ha:PAB2 X H0 (e :: es) tr) (hg:Gl X "dict" := by rfl)
 (he:starEach (e :: es) X.env = (false,eval e X.env) :: starEach es X.env:=by rfl) (hpl:(backTo pos (starEach es X.env)).any (·.1) = false:=by rfl):PN2 X H0 (.Call (.Name "dict" p) (e :: es) [] pos) (rCB dDict tr) :=
  n_callTy call_dict lf_dict hm rfl ha hg (by decide) (by decide) he hpl
end
open PySem PySem.Spec PyProof.Rows L2 SeqAt
section
variable {κ:Type} [DecidableEq κ]
end
theorem RepK.keys {K:PySem.W.Frag} {H:Hp}:∀ {kvs:List (Key × D)} {kws:List (Key × V)},RepK K H kvs kws -> kvs.map (·.1) = kws.map (·.1)
  | [],kws,h=>by simp only [RepK] at h;subst h;rfl
  | (k,d) :: r,kws,h=>by
    simp only [RepK] at h;obtain ⟨v,q,rfl,_,h2⟩:=h;simp [RepK.keys h2]
theorem KV.get {κ:Type}:∀ {kws:List (κ × V)} {vs:List (κ × Value)} {i:Nat} {k:κ} {v:V},KV kws vs -> kws[i]? = some (k,v) -> ∃ u,vs[i]? = some (k,u) /\ L2.RelV v u
  | _,_,_,_,_,.nil,e=>by simp at e
  | _,_,0,k,v,.cons (b:=b) h t,e=>by
    simp at e;subst e;obtain ⟨b1,b2⟩:=b;have h1:k = b1:=h.1;subst h1;exact ⟨b2,rfl,h.2⟩
  | _,_,i + 1,k,v,.cons h t,e=>by simpa using KV.get (i:=i) t (by simpa using e)
section
variable {X:Cx}
theorem putD_nodup {κ:Type} [DecidableEq κ] {kvs:List (κ × D)} {k:κ} {d:D} (h:(kvs.map (·.1)).Nodup):((putD kvs k d).map (·.1)).Nodup:=by
  unfold putD
  split
  · have e:(kvs.map λkv=>if kv.1 = k then (kv.1,d) else kv).map (·.1) = kvs.map (·.1):=by
      rw [List.map_map];apply List.map_congr_left;intro p _;simp only [Function.comp]
      split <;> rfl
    rw [e];exact h
  · rename_i hn
    rw [List.map_append,List.nodup_append];refine ⟨h,by simp,?_⟩;intro a ha b hb e;simp at hb;subst e hb;obtain ⟨p,hp,e⟩:=List.mem_map.mp ha;exact hn (List.any_eq_true.mpr ⟨p,hp,by simpa using e⟩)
theorem putD_all {κ:Type} [DecidableEq κ] {kvs:List (κ × D)} {k:κ} {d:D} {P:D -> Prop} (h:∀ p ∈ kvs,P p.2) (hd:P d):∀ p ∈ putD kvs k d,P p.2:=by
  unfold putD
  split
  · intro p hp
    obtain ⟨q,hq,rfl⟩:=List.mem_map.mp hp
    split
    · exact hd
    · exact h q hq
  · intro p hp
    rcases List.mem_append.mp hp with hp | hp
    · exact h p hp
    · have : p = (k,d):=by simpa using hp
      rw [this];exact hd
end
section
variable {X:Cx} {H0:Hp} {c:Expr} {body:List Stmt} {tc:RT} {tb:RS} {pos:Pos}
def rWhile (c:RT) (tb:RS) (E:Ends2) (δ:List Sl):Prop:=∃ W:Nat -> List Sl -> Prop,(∃ m,W m δ) /\ ∀ m δ,W m δ -> c δ λb=>Two b (tb { nx:=λδ2=>∃ δ3,Fg δ2 δ3 /\ ∃ m',m' < m /\ W m' δ3,rt:=E.rt,bk:=E.nx,ct:=λδ2=>∃ δ3,Fg δ2 δ3 /\ ∃ m',m' < m /\ W m' δ3 } δ) (E.nx δ)
theorem s_while (hp:PassesOwn (model X.prog X.w) X.A X.env X.xe) (hc:PT2 X H0 c tc) (hb:PSs2 X H0 body tb):PS2 X H0 (.While c body [] pos) (rWhile tc tb) :=
  PS.weak (ps_while hp hc hb) λD σ H ⟨δ,G,E,hs,⟨W,⟨m0,w0⟩,step⟩,go⟩ =>
    ⟨λm σ' H'=>∃ δ' G',Hs X.K H0 σ' δ' G' H' /\ Same G G' /\ W m δ',⟨m0,δ,G,hs,Same.refl _,w0⟩,λm σ' H' ⟨δ',G',h',s',w⟩=>⟨δ',G',_,h',step m δ' w,λb H1 G1 n1 q1=>by
      cases b with
      | true =>
        rw [if_pos rfl]
        refine ⟨λσ2 H2=>∃ m',m' < m /\ ∃ δ2 G2,Hs X.K H0 σ2 δ2 G2 H2 /\ Same G G2 /\ W m' δ2,λσ2 H2 z=>z,δ',G1,_,n1.hs,q1.yes rfl,⟨λσ3 H3 δ3 G3 h3 s3 ⟨δ4,f4,m',hm,w'⟩=>⟨m',hm,δ4,G3,h3.forget f4,(s'.trans n1.g).trans s3,w'⟩,go.rt,λσ3 H3 δ3 G3 h3 s3 q3=>go.nx σ3 H3 δ3 G3 h3 ((s'.trans n1.g).trans s3) q3,
          λσ3 H3 δ3 G3 h3 s3 ⟨δ4,f4,m',hm,w'⟩=>⟨m',hm,δ4,G3,h3.forget f4,(s'.trans n1.g).trans s3,w'⟩⟩⟩
      | false =>
        rw [if_neg Bool.false_ne_true]
        exact go.nx σ' H1 δ' G1 n1.hs (s'.trans n1.g) (q1.no rfl)⟩⟩
theorem while_ind {E:Ends2} {δ:List Sl} (W:Nat -> List Sl -> Prop) (m:Nat) (h0:W m δ)
 (step:∀ m δ (L:List Sl -> Prop),(∀ δ2 δ3 m',W m' δ3 -> m' < m -> Fg δ2 δ3 -> L δ2) -> W m δ -> tc δ λb=>Two b (tb { nx:=L,rt:=E.rt,bk:=E.nx,ct:=L } δ) (E.nx δ)):rWhile tc tb E δ :=
  ⟨W,⟨m,h0⟩,λm δ w=>step m δ _ (λδ2 δ3 m' w' hm f=>⟨δ3,f,m',hm,w'⟩) w⟩
end
abbrev Sp3:=List D -> D -> (D -> D -> Prop) -> Prop
def liftSp3 (K:PySem.W.Frag) (sp:Sp3):Sp:=λvs H Q _=>∃ ws p G d ds Qd,vs = ws ++ [.ref p] /\ G p = none /\ (∀ b,b ≠ p -> G b = H b) /\ Own K G H p d /\ Reps K G ds ws /\ sp ds d Qd /\
  ∀ v H' G' x d',Same G G' -> G' p = none -> (∀ b,b ≠ p -> G' b = H' b) -> Own K G' H' p d' -> Rep K G' x v -> Qd x d' -> Q v H'
def start3 (N:List Str) (ds:List D) (p:Addr) (d:D):List Sl:=ds.map Sl.fr ++ .lk p d :: List.replicate (N.length - (ds.length + 1)) .un
section
variable {K:PySem.W.Frag} {H0:Hp} {σ:L2.St} {δ:List Sl} {G H:Hp}
theorem start3_at {ds:List D} {ws:List V} {p:Addr} {d:D} (h:Reps K G ds ws) (n:Nat) (gp:G p = none) (ge:∀ b,b ≠ p -> G b = H b) (o:Own K G H p d) :
 Hs K G (ws.map some ++ some (.ref p) :: List.replicate n none) (ds.map Sl.fr ++ .lk p d :: List.replicate n .un) G H:=by
  have hl:ds.length = ws.length:=h.length;have look:∀ (i:Nat) l,(ds.map Sl.fr ++ .lk p d :: List.replicate n .un)[i]? = some l -> (∃ e,l = .fr e /\ ds[i]? = some e) \/ (i = ds.length /\ l = .lk p d) \/ l = .un:=by
    intro i l e
    rcases Nat.lt_trichotomy i ds.length with hi | hi | hi
    · rw [List.getElem?_append_left (by simpa using hi),List.getElem?_map] at e
      cases q:ds[i]? with
      | none=>rw [q] at e;cases e
      | some d'=>rw [q] at e;exact .inl ⟨d',(Option.some.inj e).symm,rfl⟩
    · subst hi
      rw [List.getElem?_append_right (by simp)] at e;simp at e;exact .inr (.inl ⟨rfl,e.symm⟩)
    · rw [List.getElem?_append_right (by simp;omega)] at e
      obtain ⟨k,hk⟩:∃ k,i - (ds.map Sl.fr).length = k + 1:=⟨i - ds.length - 1,by simp;omega⟩;rw [hk,List.getElem?_cons_succ] at e;exact .inr (.inr (List.eq_of_mem_replicate (List.mem_of_getElem? e)))
  have atp:(ws.map some ++ some (.ref p) :: List.replicate n none)[ds.length]? = some (some (.ref p)):=by
    rw [List.getElem?_append_right (by simp [hl])];simp [hl]
  have ati:∀ i b,At (ws.map some ++ some (.ref p) :: List.replicate n none) (ds.map Sl.fr ++ .lk p d :: List.replicate n .un) i b ↔ i = ds.length /\ b = p:=by
    intro i b
    constructor
    · rintro ⟨l,e1,e2,e3⟩
      rcases look i l e1 with ⟨e,rfl,_⟩ | ⟨rfl,rfl⟩ | rfl
      · exact e2.elim
      · rw [atp] at e3;cases e3;exact ⟨rfl,rfl⟩
      · exact e2.elim
    · rintro ⟨rfl,rfl⟩
      refine ⟨.lk b d,?_,True.intro,atp⟩;rw [List.getElem?_append_right (by simp)];simp
  refine ⟨by simp [hl],Same.refl _,λb=>?_,λi d' e=>?_,λi d' e=>?_,λi q d' e=>?_,λi j b a1 a2=>?_⟩
  · by_cases hb:b = p
    · subst hb;exact .inr ⟨gp,_,(ati _ b).mpr ⟨rfl,rfl⟩⟩
    · exact .inl ⟨ge b hb,λi a=>hb ((ati i b).mp a).2⟩
  · rcases look i _ e with ⟨e',z,q⟩ | ⟨_,z⟩ | z
    · cases z
      obtain ⟨v,e1,r⟩:=h.get q;refine ⟨v,?_,r⟩;have hi:i < ws.length:=(List.getElem?_eq_some_iff.mp e1).1;rw [List.getElem?_append_left (by simpa using hi),List.getElem?_map,e1];rfl
    · cases z
    · cases z
  · rcases look i _ e with ⟨e',z,q⟩ | ⟨_,z⟩ | z <;> cases z
  · rcases look i _ e with ⟨e',z,_⟩ | ⟨hi,z⟩ | z
    · cases z
    · cases z;subst hi;exact ⟨atp,o⟩
    · cases z
  · rw [((ati i b).mp a1).1,((ati j b).mp a2).1]
theorem Hs.close {j:Nat} {p:Addr} {d:D} (h:Hs K H0 σ δ G H) (e:δ[j]? = some (.lk p d)):∃ G',Same G G' /\ Same H0 G' /\ G' p = none /\ (∀ b,b ≠ p -> G' b = H b) /\ Own K G' H p d:=by
  obtain ⟨e1,o⟩:=h.lk j p d e;have gp:G p = none:=by
    rcases h.ex p with ⟨_,z⟩ | ⟨z,_⟩
    · exact absurd ⟨_,e,True.intro,e1⟩ (z j)
    · exact z
  have s1:Same G (λb=>if b = p then none else H b):=λb u q=>by
    have hb:b ≠ p:=ne_of_none q gp
    show (if b = p then none else H b) = some u
    rw [if_neg hb];exact h.sub b u q
  exact ⟨_,s1,h.base.trans s1,if_pos rfl,λb hb=>if_neg hb,o.mono s1 rfl⟩
end
section
variable {P:Program} {w:World} {K:PySem.W.Frag} {mg:Str -> Option Value} {base:Heap}
theorem fun3_ok {x qual:Str} {st:Stmt} {f:Addr} {fd:FuncData} {N ps:List Str} {k:Nat} {sp:Sp3} (F:Fun K x qual st f fd) (S:FnScope N ps (defScope st)) (len:∀ ds d Qd,sp ds d Qd -> ds.length + 1 = ps.length)
 (hbody:∀ (cdv:Value) (A:Around) (outer:List Env) (s:Shared) (H G:Hp) (E:XK) (p:Addr),Room k (A.deeper (envOfC qual (defScope st) s.heap.objs.size f cdv)) -> ∀ ds d Qd,sp ds d Qd ->
 ∃ t,PSs2 (cxOf CX0 P w K mg base N qual (defScope st) f cdv A outer s H E).nox G (defBody st) t /\
 t { nx:=λδ=>∃ d',δ[ds.length]? = some (.lk p d') /\ Qd .non d',rt:=λr δ=>∃ x d',r = .val x /\ δ[ds.length]? = some (.lk p d') /\ Qd x d' } (start3 N ds p d)):FnOk P w K mg base CX0 (k + 1) f fd ps (liftSp3 K sp):=by
  refine F.ok S (λvs H Q E h=>?_) (λcdv A outer s H vs Q E hr h=>?_)
  · obtain ⟨ws,p,G,d,ds,Qd,rfl,_,_,_,r,h1,_⟩:=h
    rw [List.length_append,<- r.length];exact len ds d Qd h1
  · obtain ⟨ws,p,G,d,ds,Qd,rfl,gp,ge,o,r,h1,h2⟩:=h
    obtain ⟨t,ht,q⟩:=hbody cdv A outer s H G E p hr ds d Qd h1;refine ⟨_,ht,start3 N ds p d,G,_,?_,q,⟨λσ' H' δ' G' hs _ ⟨d',e,q⟩=>?_,λv H' r' δ' ok ⟨x,d',er,e,q⟩=>?_,λ_ _ _ _ _ _ z=>z.elim,λ_ _ _ _ _ _ z=>z.elim⟩⟩
    · have e:=start3_at r (N.length - (ds.length + 1)) gp ge o
      show Hs K G ((ws ++ [V.ref p]).map some ++ List.replicate (N.length - (ws ++ [V.ref p]).length) none) _ G H
      have e1:(ws ++ [V.ref p]).length = ds.length + 1:=by rw [List.length_append,<- r.length];rfl
      rw [e1,List.map_append,List.append_assoc];exact e
    · obtain ⟨G2,s1,s0,g0,g1,o1⟩:=hs.close e
      exact h2 _ H' G2 .non d' s0 g0 g1 o1 (by simp only [Rep]) q
    · subst er
      obtain ⟨σ',G',hs,rr⟩:=ok;obtain ⟨G2,s1,s0,g0,g1,o1⟩:=hs.close e;exact h2 v H' G2 x d' s0 g0 g1 o1 (Rep.mono s1 _ _ rr) q
end
section
variable {X:Cx} {H0:Hp} {pins:List (Addr × Obj)} {σ:L2.St} {δ:List Sl} {G H:Hp} {s:Shared}
theorem Hs.lend {i:Nat} {l:Sl} {p:Addr} {d:D} (h:Hs X.K H0 σ δ G H) (e:δ[i]? = some l) (hm:l.mine) (e1:σ[i]? = some (some (.ref p))) (o:Own X.K G H p d) :
 G p = none /\ ∃ Gf,Hs X.K H0 σ (δ.set i (.fr d)) Gf H /\ (∀ b,b ≠ p -> Gf b = G b) /\ Gf p = H p /\ Same G Gf:=by
  have ai:At σ δ i p:=⟨_,e,hm,e1⟩;have hi:i < δ.length:=ai.lt;obtain ⟨ob,eo,_⟩:=o.soft;have gp:G p = none:=by
    rcases h.ex p with ⟨_,z⟩ | ⟨z,_⟩
    · exact absurd ai (z i)
    · exact z
  have s1:Same G (upd G p ob):=λb u q=>by rw [upd_ne (ne_of_none q gp)];exact q
  have r:Rep X.K (upd G p ob) d (.ref p):=o.rep s1 (by rw [upd_same,eo]);refine ⟨gp,upd G p ob,⟨by rw [List.length_set];exact h.len,h.base.trans s1,λb=>?_,λj d' q=>?_,λj d' q=>?_,λj q' es q=>?_,λj k b a1 a2=>?_⟩,λb hb=>upd_ne hb,by rw [upd_same,eo],s1⟩
  · by_cases hb:b = p
    · subst hb
      refine .inl ⟨by rw [upd_same,eo],λj a=>?_⟩
      by_cases hj:j = i
      · subst hj;exact at_selfD a
      · exact hj (h.ne _ _ _ ((at_setD hj).mp a) ai)
    · rcases h.ex b with ⟨z1,z2⟩ | ⟨z1,j,z2⟩
      · refine .inl ⟨by rw [upd_ne hb];exact z1,λj a=>?_⟩
        by_cases hj:j = i
        · subst hj;exact at_selfD a
        · exact z2 j ((at_setD hj).mp a)
      · have hj:j ≠ i:=λz=>hb (by
          subst z;obtain ⟨_,_,_,w⟩:=z2
          rw [e1] at w;cases w;rfl)
        exact .inr ⟨by rw [upd_ne hb];exact z1,j,(at_setD hj).mpr z2⟩
  · by_cases hj:j = i
    · subst hj
      rw [List.getElem?_set_self hi] at q;cases q;exact ⟨_,e1,r⟩
    · rw [List.getElem?_set_ne (Ne.symm hj)] at q
      obtain ⟨v,w1,w2⟩:=h.fr j d' q;exact ⟨v,w1,Rep.mono s1 _ _ w2⟩
  · by_cases hj:j = i
    · subst hj
      rw [List.getElem?_set_self hi] at q;cases q
    · rw [List.getElem?_set_ne (Ne.symm hj)] at q
      obtain ⟨v,w1,w2⟩:=h.ow j d' q;exact ⟨v,w1,w2.mono s1 rfl⟩
  · by_cases hj:j = i
    · subst hj
      rw [List.getElem?_set_self hi] at q;cases q
    · rw [List.getElem?_set_ne (Ne.symm hj)] at q
      obtain ⟨w1,w2⟩:=h.lk j q' es q;exact ⟨w1,w2.mono s1 rfl⟩
  · have hj:j ≠ i:=λz=>by subst z;exact at_selfD a1
    have hk:k ≠ i:=λz=>by subst z;exact at_selfD a2
    exact h.ne j k b ((at_setD hj).mp a1) ((at_setD hk).mp a2)
theorem Hs.back {i:Nat} {l l':Sl} {p:Addr} {d d':D} {G1 G2:Hp} (h:Hs X.K H0 σ δ G H) (e:δ[i]? = some l) (hm:l.mine) (e1:σ[i]? = some (some (.ref p)))
 (hl':l' = .ow d' \/ l' = .lk p d') (own1:∀ j b,At σ (δ.set i (.fr d)) j b -> G1 b = none) (s2:Same G G2) (gp:G2 p = none) (ge:∀ b,b ≠ p -> G2 b = G1 b) (o:Own X.K G2 G1 p d') :
 Hs X.K H0 σ (δ.set i l') G2 (mix σ (δ.set i (.fr d)) H G1):=by
  have ai:At σ δ i p:=⟨_,e,hm,e1⟩;have hi:i < δ.length:=ai.lt
  have hm':l'.mine:=by rcases hl' with rfl | rfl <;> exact True.intro
  have atf:∀ j b,At σ (δ.set i (.fr d)) j b ↔ j ≠ i /\ At σ δ j b:=λj b=>by
    by_cases hj:j = i
    · subst hj;exact ⟨(λa=>(at_selfD a).elim),(λz=>absurd rfl z.1)⟩
    · rw [at_setD hj];exact ⟨(λa=>⟨hj,a⟩),(λz=>z.2)⟩
  have atn:∀ j b,At σ (δ.set i l') j b ↔ At σ δ j b:=λj b=>by
    by_cases hj:j = i
    · subst hj
      constructor
      · rintro ⟨_,_,_,z⟩;exact ⟨_,e,hm,z⟩
      · rintro ⟨_,_,_,z⟩;exact ⟨_,List.getElem?_set_self hi,hm',z⟩
    · exact at_setD hj
  have atp:∀ j,At σ δ j p -> j = i:=λj a=>h.ne _ _ _ a ai
  have np:∀ j,¬ At σ (δ.set i (.fr d)) j p:=λj a=>((atf j p).mp a).1 (atp j ((atf j p).mp a).2)
  have mp:mix σ (δ.set i (.fr d)) H G1 p = G1 p:=mix_not np;refine ⟨by rw [List.length_set];exact h.len,h.base.trans s2,λb=>?_,λj d2 q=>?_,λj d2 q=>?_,λj q' d2 q=>?_,λj k b a1 a2=>h.ne j k b ((atn j b).mp a1) ((atn k b).mp a2)⟩
  · by_cases hb:b = p
    · subst hb;exact .inr ⟨gp,i,(atn i b).mpr ai⟩
    · by_cases ha:∃ j,At σ (δ.set i (.fr d)) j b
      · obtain ⟨j,a⟩:=ha
        exact .inr ⟨by rw [ge b hb];exact own1 j b a,j,(atn j b).mpr ((atf j b).mp a).2⟩
      · have na:∀ j,¬ At σ (δ.set i (.fr d)) j b:=λj z=>ha ⟨j,z⟩
        refine .inl ⟨by rw [mix_not na];exact ge b hb,λj a=>?_⟩;have a':=(atn j b).mp a
        by_cases hj:j = i
        · subst hj
          obtain ⟨_,_,_,z⟩:=a';rw [e1] at z;cases z;exact hb rfl
        · exact na j ((atf j b).mpr ⟨hj,a'⟩)
  · by_cases hj:j = i
    · subst hj;rw [List.getElem?_set_self hi] at q;rcases hl' with rfl | rfl <;> cases q
    · rw [List.getElem?_set_ne (Ne.symm hj)] at q
      obtain ⟨v,w1,w2⟩:=h.fr j d2 q;exact ⟨v,w1,Rep.mono s2 _ _ w2⟩
  · by_cases hj:j = i
    · subst hj;rw [List.getElem?_set_self hi] at q
      rcases hl' with rfl | rfl
      · cases q;exact ⟨p,e1,o.mono (Same.refl _) mp⟩
      · cases q
    · rw [List.getElem?_set_ne (Ne.symm hj)] at q
      obtain ⟨b,w1,w2⟩:=h.ow j d2 q;exact ⟨b,w1,w2.mono s2 (mix_own ((atf j b).mpr ⟨hj,⟨_,q,True.intro,w1⟩⟩))⟩
  · by_cases hj:j = i
    · subst hj;rw [List.getElem?_set_self hi] at q
      rcases hl' with rfl | rfl
      · cases q
      · cases q;exact ⟨e1,o.mono (Same.refl _) mp⟩
    · rw [List.getElem?_set_ne (Ne.symm hj)] at q
      obtain ⟨w1,w2⟩:=h.lk j q' d2 q;exact ⟨w1,w2.mono s2 (mix_own ((atf j q').mpr ⟨hj,⟨_,q,True.intro,w1⟩⟩))⟩
end
structure Fn3 (P:Program) (w:World) (K:PySem.W.Frag) (mg:Str -> Option Value) (base:Heap) (k:Nat) (x:Str) (sp:Sp3):Prop where
  ex:∃ (f:Addr) (fd:FuncData) (ps:List Str),FnOk P w K mg base CX0 k f fd ps (liftSp3 K sp) /\ mg x = some (.ref f) /\ PySem.W.keepIn K (.ref f) = true /\ Binds K fd ps []
def liftAL (K:PySem.W.Frag) (H0:Hp) (i:Nat) (tr:RA):TA:=λσ H Q=>∃ δ G Qd a,Hs K H0 σ δ G H /\ σ[i]? = some (some (.ref a)) /\ tr δ Qd /\ ∀ ws H' G' ds,Nx K H0 σ δ G H G' H' -> Reps K G' ds ws -> Qd ds -> Q (ws ++ [.ref a]) H'
def PAL (X:Cx) (H0:Hp) (i:Nat) (es:List Expr) (tr:RA):Prop:=PA X es (liftAL X.K H0 i tr)
section
variable {X:Cx} {H0:Hp} {k:Nat} {x:Str} {sp:Sp3} {e:Expr} {es:List Expr} {t:RE} {tr:RA} {p pos:Pos} {i:Nat}
theorem al_nil (i:Nat) (hN:X.N[i]? = some x:=by rfl) (hv:Vis X.env.scope x:=by first | exact Or.inl rfl | exact Or.inr (Or.inl rfl) | exact Or.inr (Or.inr rfl)) (hd:(x == ("__debug__" : Str)) = false:=by decide)
 (hcd:(x == ("__classdict__" : Str)) = false:=by decide) (hs:starEach [.Name x p] X.env = (false,eval (.Name x p) X.env) :: starEach [] X.env:=by rfl):PAL X H0 i [.Name x p] rNil :=
  PA.weak (pa_cons (pe_var hN hv hd hcd) pa_nil hs) λσ H Q ⟨δ,G,Qd,a,hs,e1,ht,k⟩=>⟨_,e1,k [] H G [] (Nx.refl hs) Reps.nil ht⟩
theorem al_cons (ha:PE2 X H0 e t) (hr:PAL X H0 i es tr) (hs:starEach (e :: es) X.env = (false,eval e X.env) :: starEach es X.env:=by rfl):PAL X H0 i (e :: es) (rCons t tr) :=
  PA.weak (pa_cons ha hr hs) λσ H Q ⟨δ,G,Qd,a,hs,e1,ht,k⟩=>⟨δ,G,_,hs,ht,λv H1 G1 d n1 r1 q1=>⟨δ,G1,_,a,n1.hs,e1,q1,λvs H2 G2 ds n2 r2 q2=>k (v :: vs) H2 G2 (d :: ds) (n1.trans n2) (Reps.cons (Rep.mono n2.g _ _ r1) r2) q2⟩⟩
def rLend (i:Nat) (sp:Sp3) (tr:RA) (δ:List Sl) (Q:D -> List Sl -> Prop):Prop:=match δ[i]? with
  | some (.ow d)=>tr δ λds=>sp ds d λx d'=>Q x (δ.set i (.ow d'))
  | some (.lk q d)=>tr δ λds=>sp ds d λx d'=>Q x (δ.set i (.lk q d'))
  | _=>False
def liftL (K:PySem.W.Frag) (H0:Hp) (t:List Sl -> (D -> List Sl -> Prop) -> Prop):TE:=λσ H Q=>∃ δ G Qd,Hs K H0 σ δ G H /\ t δ Qd /\ ∀ v H' δ' G' x,Hs K H0 σ δ' G' H' -> Same G G' -> Rep K G' x v -> Qd x δ' -> Q v H'
theorem rLend_of {δ:List Sl} {Qd:D -> List Sl -> Prop} (h:rLend i sp tr δ Qd):∃ l d,δ[i]? = some l /\ ((l = .ow d /\ tr δ λds=>sp ds d λx d'=>Qd x (δ.set i (.ow d'))) \/ ∃ q,l = .lk q d /\ tr δ λds=>sp ds d λx d'=>Qd x (δ.set i (.lk q d'))):=by
  unfold rLend at h
  split at h
  · rename_i d e;exact ⟨_,d,e,.inl ⟨rfl,h⟩⟩
  · rename_i q d e;exact ⟨_,d,e,.inr ⟨q,rfl,h⟩⟩
  · exact h.elim
theorem pe_lend (F:Fn3 X.prog X.w X.K X.mg X.base k x sp) (hr:Room k X.A) (ha:PAL X H0 i (e :: es) tr) (hg:Gl X x:=by rfl) (hdb:(x == ("__debug__" : Str)) = false:=by decide)
 (he:starEach (e :: es) X.env = (false,eval e X.env) :: starEach es X.env:=by rfl) (hpl:(backTo pos (starEach es X.env)).any (·.1) = false:=by rfl):PE X (.Call (.Name x p) (e :: es) [] pos) (liftL X.K H0 (rLend i sp tr)):=by
  obtain ⟨f,fd,ps,F,hm,hk,hb⟩:=F.ex;intro pins s σ H Q I ⟨δ,G,Qd,hs,ht,kk⟩;refine wpAny_Call_Name_kw (ld_glob I hg hm ?_ hdb);obtain ⟨l,d,el,hl⟩:=rLend_of ht;obtain ⟨p0,e1,hmine,new,hnew,ht⟩:∃ p0,σ[i]? = some (some (.ref p0)) /\ l.mine /\ ∃ new:D -> Sl,(∀ d',new d' = .ow d' \/ new d' = .lk p0 d') /\ tr δ λds=>sp ds d λx d'=>Qd x (δ.set i (new d')):=by
    rcases hl with ⟨rfl,h⟩ | ⟨q,rfl,h⟩
    · obtain ⟨p0,e1,_⟩:=hs.ow i d el
      exact ⟨p0,e1,True.intro,λd'=>.ow d',λ_=>.inl rfl,h⟩
    · obtain ⟨e1,_⟩:=hs.lk i q d el
      exact ⟨q,e1,True.intro,λd'=>.lk q d',λ_=>.inr rfl,h⟩
  have own:∀ {G' H':Hp},Hs X.K H0 σ δ G' H' -> Own X.K G' H' p0 d:=λ{G' H'} hs'=>by
    rcases hl with ⟨rfl,_⟩ | ⟨q,rfl,_⟩
    · obtain ⟨p1,e2,o⟩:=hs'.ow i d el
      rw [e1] at e2;cases e2;exact o
    · obtain ⟨e2,o⟩:=hs'.lk i q d el
      rw [e1] at e2;cases e2;exact o
  have hA:liftAL X.K H0 i tr σ H (λvs H'=>∃ ws G' ds,vs = ws ++ [.ref p0] /\ Nx X.K H0 σ δ G H G' H' /\ Reps X.K G' ds ws /\ sp ds d λx d'=>Qd x (δ.set i (new d'))):=⟨δ,G,_,p0,hs,e1,ht,λws H' G' ds n r q=>⟨ws,G',ds,rfl,n,r,q⟩⟩;refine PySem.W.callWith_K (h₀:=X.base) I.ok.mod.kin hk (thn (ha pos pins s σ H _ I hA) λus s1 ⟨vs,H1,I1,r,ws,G1,ds,ev,n,rd,q⟩=>⟨I1.kIn,?_⟩) he hpl;subst ev;obtain ⟨gp,Gf,hf,gne,gpe,sf⟩:=n.hs.lend el hmine e1 (own n.hs);have hh:liftSp3 X.K sp (ws ++ [.ref p0]) Gf (λv Gl=>∃ G2 x d',Same G1 G2 /\ G2 p0 = none /\ (∀ b,b ≠ p0 -> G2 b = Gl b) /\ Own X.K G2 Gl p0 d' /\ Rep X.K G2 x v /\ Qd x (δ.set i (new d'))) E0 :=
    ⟨ws,p0,G1,d,ds,_,rfl,gp,λb hb=>(gne b hb).symm,(own n.hs).mono (Same.refl _) gpe,rd,q,λv H' G' x d' h1 h2 h3 h4 h5 h6=>⟨G',x,d',h1,h2,h3,h4,h5,h6⟩⟩
  have hlen:us.length = ps.length:=by rw [<- r.length];exact F.len _ _ _ _ hh
  have hbt:BindsTo s1 fd ⟨us,[]⟩ (ps.zip us):=by simpa using hb s1 us I1.kIn (by simpa using hlen)
  refine wpAny_call (codeAny_mono (F.run X.A X.stack s1 Gf ⟨us,[]⟩ us _ _ E0 hr (hf.env0 I1) hbt r hh) λr s' hq=>?_)
  cases r with
  | error e=>exact False.elim hq
  | ok fl =>
    cases fl with
    | ret u =>
      obtain ⟨v,Gl,I2,rv,⟨G2,x2,d',h1,h2,h3,h4,h5,h6⟩,own1⟩:=hf.behind I1 hq;have hb2:=n.hs.back (l':=new d') (d:=d) el hmine e1 (hnew d') own1 h1 h2 h3 h4;exact ⟨v,_,I2,rv,kk v _ _ G2 x2 hb2 (n.g.trans h1) h5 h6⟩
    | next=>exact False.elim hq
    | brk=>exact False.elim hq
    | cont=>exact False.elim hq
variable {tg:Expr} {g:RG}
def rAsgL (i:Nat) (sp:Sp3) (tr:RA) (g:RG) (E:Ends2) (δ:List Sl):Prop:=rLend i sp tr δ λx δ'=>g x δ' E.nx
theorem s_asgL (F:Fn3 X.prog X.w X.K X.mg X.base k x sp) (hr:Room k X.A) (ha:PAL X H0 i (e :: es) tr) (hgt:PG2 X H0 tg g) (hg:Gl X x:=by rfl) (hdb:(x == ("__debug__" : Str)) = false:=by decide)
 (he:starEach (e :: es) X.env = (false,eval e X.env) :: starEach es X.env:=by rfl) (hpl:(backTo p (starEach es X.env)).any (·.1) = false:=by rfl) {p2:Pos}
 (hs:swapsWithSole [tg] (.Call (.Name x p2) (e :: es) [] p) pos.line X.env = pure false:=by rfl) (hw:swappedStores [tg] (.Call (.Name x p2) (e :: es) [] p) X.env = pure none:=by rfl)
 (h1:(assignEach [tg] X.env).map (·.2) = [assign tg X.env]:=by rfl):PS2 X H0 (.Assign [tg] (.Call (.Name x p2) (e :: es) [] p) pos) (rAsgL i sp tr g) :=
  PS.weak (ps_asg (pe_lend F hr ha hg hdb he hpl) hgt hs hw h1) λD σ H ⟨δ,G,E,hs,ht,go⟩=>⟨δ,G,_,hs,ht,λv H1 δ1 G1 x h1 s1 r1 q1=>⟨δ1,G1,x,E.nx,h1,r1,q1,λσ' H' δ' G' h' s' q=>go.nx σ' H' δ' G' h' (s1.trans s') q⟩⟩
end
theorem perm_map_inv {α β:Type} (f:α -> β) {xs ys:List β} (h:xs.Perm ys):∀ L:List α,ys = L.map f -> ∃ L':List α,L'.Perm L /\ xs = L'.map f:=by
  induction h with
  | nil=>intro L e;cases L with
    | nil=>exact ⟨[],.refl _,rfl⟩
    | cons a L=>cases e
  | cons x _ ih =>
    intro L e
    cases L with
    | nil=>cases e
    | cons a L =>
      cases e;obtain ⟨L',p,rfl⟩:=ih L rfl;exact ⟨a :: L',p.cons a,rfl⟩
  | swap x y l =>
    intro L e
    cases L with
    | nil=>cases e
    | cons a L =>
      cases L with
      | nil=>cases e
      | cons b L=>cases e;exact ⟨b :: a :: L,.swap _ _ _,rfl⟩
  | trans _ _ ih1 ih2 =>
    intro L e;obtain ⟨L2,p2,e2⟩:=ih2 L e;obtain ⟨L1,p1,e1⟩:=ih1 L2 e2;exact ⟨L1,p1.trans p2,e1⟩
section
variable {X:Cx} {pins:List (Addr × Obj)} {σ:L2.St} {H:Hp} {s:Shared} {h':Heap}
theorem Inv.track {a:Addr} {o:HO} {t':Nat} (I:L2.Inv X pins σ H s) (f:FpOk X pins H a) (k:∀ b u,b ≠ a -> s.heap.get? b = some u -> h'.get? b = some u)
 (new:ObjOk X.prog X.w (upd H a o) h' a o):L2.Inv X pins σ (upd H a o) { s with heap:=h',toks:=t' }:=by
  obtain ⟨f0,f1,f2,f3,f4,f5⟩:=f;have na:∀ b u,H b = some u -> b ≠ a:=λb u e z=>by rw [z,f0] at e;cases e
  refine I.step (g':=s.gens) (d':=s.drawn) (ch:=[a]) (λb hb=>?_) (λb o _ _ hc e _=>k b o (λz=>hc (by simp [z])) e) (λb o _ _ hc e _=>⟨o.slots,k b o (λz=>hc (by simp [z])) e⟩) (λb o hc e n=>?_)
    (λb o hc e=>⟨o,k b o (λz=>hc (by simp [z])) e⟩) (λb xs e=>?_) (λb o u e=>?_) (λb ps e=>⟨#[],?_⟩) (λm hm=>?_) (λb u e=>?_) I.bare
  · have e:b = a:=by simpa using hb
    subst e;exact ⟨f3,f1,f4,f5⟩
  · rw [upd_ne (λz=>hc (by simp [z]))];exact n
  · rw [upd_ne (na b _ e)];exact e
  · rw [upd_ne (na b _ e)];exact e
  · rw [upd_ne (na b _ e),e];simp
  · obtain ⟨o,es,ep,ho,r⟩:=hm
    exact ⟨o,es,ep,k _ o f1.symm ho,r⟩
  · by_cases hb:b = a
    · subst hb
      rw [upd_same] at e;cases e;exact new
    · rw [upd_ne hb] at e
      refine (I.hok b u e).stay (λc v hc z=>?_) (λc z=>?_) (λc ys z=>?_)
      · rcases hc with y | y
        · rw [y] at z ⊢;exact k b v hb z
        · exact k c v (na c _ y) z
      · rw [upd_ne (na _ _ z)];exact z
      · rw [upd_ne (na _ _ z)];exact z
theorem key_call {k:Nat} {f:Addr} {fd:FuncData} {ps:List Str} {sp:Sp2} {d:D} {v:V} {u:Value} {Qd:Ret -> Prop} {E:Value -> Shared -> Prop} (F:FnOk X.prog X.w X.K X.mg X.base CX0 k f fd ps (liftSp X.K sp)) (hr:Room (k + 2) X.A) (hb:Binds X.K fd ps [])
 (I:L2.Inv X pins σ H s) (rd:Rep X.K H d v) (ru:L2.RelV v u) (h:sp [d] Qd) :
 wpAny (model X.prog X.w) X.A.in1.in1 (call (.ref f) [u]) (λku s'=>∃ v' H' r,L2.Inv X pins σ H' s' /\ L2.RelV v' ku /\ RetOk X.K H H' v' r /\ Qd r) E s:=by
  have hh:liftSp X.K sp [v] H (λv' H'=>∃ r,RetOk X.K H H' v' r /\ Qd r) E0:=⟨[d],Qd,Reps.cons rd Reps.nil,h,λv H' r ok q=>⟨r,ok,q⟩⟩;have hl:[u].length = ps.length:=by
    have:=F.len _ _ _ _ hh
    simpa using this
  have hbt:BindsTo s fd ⟨[u],[]⟩ (ps.zip [u]):=by simpa using hb s [u] I.kIn (by simpa using hl)
  refine wpAny_call (codeAny_mono (F.run X.A.in1.in1 X.stack s H ⟨[u],[]⟩ [u] [v] _ E0 hr.in1.in1 I.env0.in1.in1 hbt (.cons ru .nil) hh) λr s' hq=>?_)
  cases r with
  | error e=>exact False.elim hq
  | ok fl =>
    cases fl with
    | ret u' =>
      obtain ⟨v',H',I',rv,r,ok,q⟩:=I.after hq;exact ⟨v',H',r,I',rv,ok,q⟩
    | next=>exact False.elim hq
    | brk=>exact False.elim hq
    | cont=>exact False.elim hq
theorem pin_swap {b:Addr} {o o':Obj} {t':Nat} (I:L2.Inv X ((b,o) :: pins) σ H s) (hex:b ∈ X.ex \/ X.s₀.heap.objs.size <= b) (hc:∀ x c,X.env.cells.lookup x = some c -> c ≠ b) (hp:∀ p ∈ X.pn ++ pins,p.1 ≠ b)
 (k:∀ c u,c ≠ b -> s.heap.get? c = some u -> h'.get? c = some u) (nb:h'.get? b = some o') (nc:∀ v,o'.data ≠ .cell v):L2.Inv X ((b,o') :: pins) σ H { s with heap:=h',toks:=t' }:=by
  obtain ⟨p1,p2,p3,p4,p5⟩:=I.pin (b,o) (List.mem_append_right _ (.head _));have I0:L2.Inv X pins σ H s:=I.pins_of λp hp=>I.pin p (List.mem_append_right _ (.tail _ hp))
  have I1:=I0.turned (h':=h') (t':=t') (it:=b) k p2 p3 hex hc hp;refine I1.pins_of λp hp'=>?_
  rcases List.mem_cons.mp hp' with rfl | hp'
  · exact ⟨nb,p2,p3,p4,nc⟩
  · exact I1.pin p (List.mem_append_right _ hp')
end
structure Out (X:Cx) (pins:List (Addr × Obj)) (b:Addr):Prop where
  l:b ≠ X.env.locals
  f:b ∉ X.fs
  x:b ∈ X.ex \/ X.s₀.heap.objs.size <= b
  c:∀ x c,X.env.cells.lookup x = some c -> c ≠ b
  p:∀ p ∈ X.pn ++ pins,p.1 ≠ b
theorem Out.fp {X:Cx} {pins:List (Addr × Obj)} {b:Addr} {H:Hp} (o:Out X pins b) (h:H b = none):FpOk X pins H b:=⟨h,o.l,o.f,o.x,o.c,o.p⟩
theorem out_of {X:Cx} {pins:List (Addr × Obj)} {σ:L2.St} {H:Hp} {s:Shared} {b:Addr} (I:L2.Inv X pins σ H s) (hb:s.heap.objs.size <= b):Out X pins b:=by
  obtain ⟨_,a1,a2,a3,a4,a5⟩:=I.fpOk (H':=λ_=>none) hb rfl;exact ⟨a1,a2,a3,a4,a5⟩
def Sorts (prog:Program) (w:World) (A:Around) (s:Shared) (keys items:Array Value) (R:Array Keyed -> Prop):Prop :=
  ∀ (E:Value -> Shared -> Prop) (Q:Unit × SortSt -> Shared -> Prop),(∀ (st:SortSt) (tk:Nat),(arrOf st).Perm (keys.zip items) -> failedOf st = none -> R (arrOf st) -> Q ((),st) { s with toks:=tk }) ->
    wpAny (model prog w) A (if items.size < 2 then pure general' else keyKind' keys) (λkind s1=>wpAny (model prog w) A ((if items.size < 2 then pure () else sortRuns').run (SortSt.mk' kind (keys.zip items) #[] 7 none)) Q E s1) E s
section
variable {X:Cx} {pins:List (Addr × Obj)} {σ:L2.St} {H:Hp} {s:Shared} {A:Around} {E:Value -> Shared -> Prop} {P:PySem.Fin -> Shared -> Prop} {kS a:Addr} {kA:Array Value} {e e1:Nat}
theorem cell_no {T:String} {xs:Array Value} {n:Nat}:∀ v,(seqObj T xs n).data ≠ .cell v:=λv z=>by cases z
theorem sort_tail {st:SortSt} (I:L2.Inv X ((kS,seqObj "list" kA e) :: (a,seqObj "list" #[] e1) :: pins) σ H s) (oK:Out X ((a,seqObj "list" #[] e1) :: pins) kS) (oD:Out X pins a) (hk:kA.size <= sizeLine) (ha:(arrOf st).size <= sizeLine) (hf:failedOf st = none)
 (h:∀ h' tk c,L2.Inv X pins σ H { s with heap:=h',toks:=tk } -> h'.get? a = some (seqObj "list" ((arrOf st).map (·.2)) c) -> H a = none -> P (.done (.ret .none)) { s with heap:=h',toks:=tk }) :
 wpAny (model X.prog X.w) A (ksk_tail a false e1 (.ref kS) st) P E s:=by
  have nk:=(I.pin (kS,seqObj "list" kA e) (List.mem_append_right _ (.head _))).1;have nd:=I.pin (a,seqObj "list" #[] e1) (List.mem_append_right _ (.tail _ (.head _)));have hDk:a ≠ kS:=oK.p (a,seqObj "list" #[] e1) (List.mem_append_right _ (.head _));have s1:=Heap.SameBut.update s.heap kS (Obj.mapSeq λ_=>(#[]:Array Value));obtain ⟨c1,hc1⟩:∃ c1,(s.heap.update kS (Obj.mapSeq λ_=>(#[]:Array Value))).get? kS = some (seqObj "list" #[] c1):=⟨_,get?_update_seq nk λ_=>#[]⟩;have na1:(s.heap.update kS (Obj.mapSeq λ_=>(#[]:Array Value))).get? a = some (seqObj "list" #[] e1):=(s1.2 a hDk).trans nd.1;obtain ⟨out,hout⟩:∃ out:Array Value,out = (arrOf st).map (·.2):=⟨_,rfl⟩;have hos:out.size <= sizeLine:=by rw [hout];simpa using ha
  have s2:=Heap.SameBut.update (s.heap.update kS (Obj.mapSeq λ_=>(#[]:Array Value))) a (Obj.mapSeq λ_=>out);obtain ⟨c2,hc2⟩:∃ c2,((s.heap.update kS (Obj.mapSeq λ_=>(#[]:Array Value))).update a (Obj.mapSeq λ_=>out)).get? a = some (seqObj "list" out c2):=⟨_,get?_update_seq na1 λ_=>out⟩;rw [<- hout] at h
  have go:wpAny (model X.prog X.w) A (do
      Builtin.List.listUpdate (.ref kS) λ_=>#[]
      letGo ((arrOf st).map (·.1)).toList (failedOf st).toList
      let touched:=(<- seqEpoch a) != e1
      Builtin.List.listUpdate (.ref a) λ_=>out
      if let some e:=failedOf st then rule "list.sort.comparison-raised"; throw e
      if touched then rule "list.sort.modified"; raiseError "ValueError" "list modified during sort"
      ret .none) P E s:=by
    refine wpAny_bind (listUpdate_at nk rfl ?_ hk (Nat.zero_le _));refine wpAny_bind (wpAny_letGo ?_);refine wpAny_bind (seqEpoch_at na1 rfl ?_);refine wpAny_bind (listUpdate_at na1 rfl ?_ (Nat.zero_le _) (Nat.le_succ_of_le hos));rw [hf];simp only [bne_self_eq_false,Bool.false_eq_true,if_false];have I1:=pin_swap (h':=s.heap.update kS (Obj.mapSeq λ_=>(#[]:Array Value))) (t':=s.toks) I oK.x oK.c oK.p (λc u hc q=>(s1.2 c hc).trans q) hc1 cell_no
    have I2:L2.Inv X pins σ H { s with heap:=s.heap.update kS (Obj.mapSeq λ_=>(#[]:Array Value)),toks:=s.toks }:=I1.pins_of λp hp=>I1.pin p (List.mem_append_right _ (.tail _ (.tail _ hp)))
    have I3:=I2.turned (h':=(s.heap.update kS (Obj.mapSeq λ_=>(#[]:Array Value))).update a (Obj.mapSeq λ_=>out)) (t':=s.toks) (it:=a) (λb u hb q=>(s2.2 b hb).trans q) nd.2.1 oD.l oD.x oD.c oD.p;exact wpAny_pure (h _ _ c2 I3 hc2 nd.2.1)
  rw [hout] at go;exact go
end
section
variable {X:Cx} {pins:List (Addr × Obj)} {σ:L2.St} {H:Hp} {s:Shared} {E:Value -> Shared -> Prop} {P:PySem.Fin -> Shared -> Prop} {kS a:Addr} {e1:Nat}
theorem sort_rest {k:Nat} {f:Addr} {fd:FuncData} {ps:List Str} {sp:Sp2} {kf:D -> D} {ds:List D} {vs:List V} {its:List Value} {R:List D -> Prop}
 (F:FnOk X.prog X.w X.K X.mg X.base CX0 k f fd ps (liftSp X.K sp)) (hr:Room (k + 2) X.A) (hb:Binds X.K fd ps []) (hsp:∀ d ∈ ds,sp [d] λr=>r = .val (kf d))
 (I:L2.Inv X ((kS,seqObj "list" #[] 0) :: (a,seqObj "list" #[] e1) :: pins) σ H s) (oK:Out X ((a,seqObj "list" #[] e1) :: pins) kS) (oD:Out X pins a) {G0:Hp} (rv:Vals vs its) (rd:Reps X.K H ds vs) (rd0:Reps X.K G0 ds vs) (hz:ds.length <= sizeLine)
 (sorts:∀ (pins':List (Addr × Obj)) (H':Hp) (s':Shared) (keys:List Value) (ws:List V),L2.Inv X pins' σ H' s' -> Same H H' -> Vals ws keys -> Reps X.K H' (ds.map kf) ws -> Sorts X.prog X.w X.A.in1.in1 s' keys.toArray its.toArray λout=>∀ L:List (D × Value × Value),L.Perm (ds.zip (keys.zip its)) -> out.toList = L.map (·.2) -> R (L.map (·.1)))
 (h:∀ H' s' c (out:List Value) (ovs:List V) (ods:List D),L2.Inv X pins σ H' s' -> Same H H' -> H' a = none -> s'.heap.get? a = some (seqObj "list" out.toArray c) -> ods.Perm ds -> R ods -> Vals ovs out -> Reps X.K G0 ods ovs -> P (.done (.ret .none)) s') :
 wpAny (model X.prog X.w) X.A.in1.in1 (ksk_rest a (.ref f) false its.toArray e1 (.ref kS)) P E s:=by
  have l1:ds.length = vs.length:=rd.length;have l2:vs.length = its.length:=rv.length;unfold ksk_rest;refine wpAny_bind (wpAny_rule ?_);rw [List.forIn_toArray]
  refine wpAny_bind (ksk_fold (λi s'=>∃ Hi kA e ws,L2.Inv X ((kS,seqObj "list" kA e) :: (a,seqObj "list" #[] e1) :: pins) σ Hi s' /\ Same H Hi /\ Vals ws kA.toList /\ Reps X.K Hi ((ds.take i).map kf) ws) its 0 s
    ⟨H,#[],0,[],I,Same.refl _,.nil,by simp [Reps]⟩ ?step ?done)
  case step =>
    rintro j x s' hx ⟨Hi,kA,e,ws,Ii,sm,rk,rr⟩;simp only [Nat.zero_add] at rr ⊢;have hj:j < its.length:=(List.getElem?_eq_some_iff.mp hx).1;have ed:ds[j]? = some ds[j]:=by simp [show j < ds.length by omega]
    generalize ds[j] = d at ed;obtain ⟨v,ev,rep⟩:=rd.get ed;obtain ⟨u,eu,ru⟩:=rv.get ev;rw [hx] at eu;cases eu;have hz2:kA.size <= ds.length:=by
      have h1:ws.length = kA.size:=by simpa using rk.length
      have h2:=rr.length;rw [List.length_map,List.length_take] at h2;omega
    refine wpAny_bind (wpAny_attempt (wpAny_mono (key_call (E:=λ_ _=>False) F hr hb Ii (Rep.mono sm _ _ rep) ru (hsp d (List.mem_of_getElem? ed))) (λku s'' he=>?_) λ_ _ hF=>hF.elim));obtain ⟨v',H',r,I',rv2,ok,er⟩:=he;subst er;obtain ⟨sm2,rep2⟩:=ok
    try dsimp only
    have nk:=(I'.pin (kS,seqObj "list" kA e) (List.mem_append_right _ (.head _))).1;have s1:=Heap.SameBut.update s''.heap kS (Obj.mapSeq (·.push ku));obtain ⟨c2,hc2⟩:∃ c2,(s''.heap.update kS (Obj.mapSeq (·.push ku))).get? kS = some (seqObj "list" (kA.push ku) c2):=⟨_,get?_update_seq nk (·.push ku)⟩;refine wpAny_bind (listUpdate_at nk rfl ?_ (Nat.le_trans hz2 hz) (Nat.le_trans (Nat.le_of_eq (Array.size_push ..)) (Nat.succ_le_succ (Nat.le_trans hz2 hz))));have I2:=pin_swap (h':=s''.heap.update kS (Obj.mapSeq (·.push ku))) (t':=s''.toks) I' oK.x oK.c oK.p (λc u hc q=>(s1.2 c hc).trans q) hc2 cell_no;refine wpAny_pure ⟨rfl,H',kA.push ku,c2,ws ++ [v'],I2,sm.trans sm2,?_,?_⟩
    · rw [Array.toList_push];exact rk.append (.cons rv2 .nil)
    · have ek:ds.take (j + 1) = ds.take j ++ [d]:=by rw [List.take_add_one,ed];rfl
      rw [ek,List.map_append];exact Reps.append (Reps.mono sm2 _ _ rr) (Reps.cons rep2 Reps.nil)
  case done =>
    rintro s' ⟨Hi,kA,e,ws,Ii,sm,rk,rr⟩;have et:ds.take (0 + its.length) = ds:=List.take_of_length_le (by omega);rw [et] at rr;have nk:=(Ii.pin (kS,seqObj "list" kA e) (List.mem_append_right _ (.head _))).1;have lk:kA.size = ds.length:=by
      have h1:ws.length = kA.size:=by simpa using rk.length
      have h2:=rr.length;rw [List.length_map] at h2;omega
    try dsimp only
    refine wpAny_bind (listItems_at nk rfl ?_);have so:=sorts _ Hi s' kA.toList ws Ii sm rk rr;simp only [Array.toArray_toList] at so;unfold ksk_end;dsimp only;simp only [Bool.false_eq_true,if_false]
    have go:(∀ (st:SortSt) (tk:Nat),(arrOf st).Perm (kA.zip its.toArray) -> failedOf st = none -> (∀ L:List (D × Value × Value),L.Perm (ds.zip (kA.toList.zip its)) -> (arrOf st).toList = L.map (·.2) -> R (L.map (·.1))) -> wpAny (model X.prog X.w) X.A.in1.in1 (ksk_tail a false e1 (.ref kS) st) P E { s' with toks:=tk }) -> wpAny (model X.prog X.w) X.A.in1.in1 (do
        let κ <- if its.toArray.size < 2 then pure general' else keyKind' kA
        let p <- (if its.toArray.size < 2 then pure () else sortRuns').run (SortSt.mk' κ (kA.zip its.toArray) #[] 7 none)
        ksk_tail a false e1 (.ref kS) p.2) P E s':=λhh=>by
      have g1:wpAny (model X.prog X.w) X.A.in1.in1 ((if its.toArray.size < 2 then pure general' else keyKind' kA) >>= λκ=>(if its.toArray.size < 2 then pure () else sortRuns').run (SortSt.mk' κ (kA.zip its.toArray) #[] 7 none) >>= λp=>ksk_tail a false e1 (.ref kS) p.2) P E s' :=
        wpAny_bind (wpAny_mono (so E (λp s2=>wpAny (model X.prog X.w) X.A.in1.in1 (ksk_tail a false e1 (.ref kS) p.2) P E s2) hh) (λκ s1 h1=>wpAny_bind (wpAny_mono h1 (λp s2 h2=>h2) λ_ _ z=>z)) λ_ _ z=>z)
      by_cases h2:its.toArray.size < 2
      · simp only [if_pos h2] at g1 ⊢;exact g1
      · simp only [if_neg h2] at g1 ⊢;exact g1
    have fin:wpAny (model X.prog X.w) X.A.in1.in1 (do
        let κ <- if its.toArray.size < 2 then pure general' else keyKind' kA
        let p <- (if its.toArray.size < 2 then pure () else sortRuns').run (SortSt.mk' κ (kA.zip its.toArray) #[] 7 none)
        ksk_tail a false e1 (.ref kS) p.2) P E s' -> wpAny (model X.prog X.w) X.A.in1.in1 _ P E s':=λz=>z
    refine fin (go λst tk hp hf hR=>?_);have hpl:(arrOf st).toList.Perm (kA.toList.zip its):=by
      have:=Array.perm_iff_toList_perm.mp hp
      simpa using this
    have hmap:(ds.zip (kA.toList.zip its)).map (·.2) = kA.toList.zip its:=by
      rw [List.map_snd_zip];rw [List.length_zip,Array.length_toList];omega
    obtain ⟨L,pL,eL⟩:=perm_map_inv (·.2) hpl (ds.zip (kA.toList.zip its)) hmap.symm;have hsz:(arrOf st).size <= sizeLine:=by
      have:=hpl.length_eq;rw [List.length_zip,Array.length_toList,Array.length_toList] at this;omega
    refine sort_tail (s:={ s' with toks:=tk }) (Ii.tok tk) oK oD (by omega) hsz hf λh' tk' c I' hc hn=>?_
    have hall:∀ (as:List D) (bs:List Value) (cs:List V) (es:List Value),Reps X.K G0 as cs -> Vals cs bs -> es.length = as.length -> ∀ q ∈ as.zip (es.zip bs),∃ v,Rep X.K G0 q.1 v /\ L2.RelV v q.2.2:=by
      intro as
      induction as with
      | nil=>intro bs cs es _ _ _ q hq;exact nomatch hq
      | cons d as ih =>
        intro bs cs es r1 r2 hl q hq;simp only [Reps] at r1;obtain ⟨v,r,rfl,h1,h2⟩:=r1
        cases r2 with
        | cons r3 r4 =>
          cases es with
          | nil=>cases hl
          | cons x es =>
            rcases List.mem_cons.mp hq with rfl | hq
            · exact ⟨v,h1,r3⟩
            · exact ih _ _ es h2 r4 (by simpa using hl) q hq
    have hq:∀ q ∈ L,∃ v,Rep X.K G0 q.1 v /\ L2.RelV v q.2.2:=λq hq=>hall ds its vs kA.toList rd0 rv (by rw [Array.length_toList];omega) q (pL.mem_iff.mp hq)
    have hov:∀ L':List (D × Value × Value),(∀ q ∈ L',∃ v,Rep X.K G0 q.1 v /\ L2.RelV v q.2.2) -> ∃ ovs,Vals ovs (L'.map λq=>q.2.2) /\ Reps X.K G0 (L'.map (·.1)) ovs:=by
      intro L'
      induction L' with
      | nil=>intro _;exact ⟨[],.nil,Reps.nil⟩
      | cons q L' ih =>
        intro hq;obtain ⟨v,h1,h2⟩:=hq q (.head _);obtain ⟨ovs,h3,h4⟩:=ih λq hq'=>hq q (.tail _ hq')
        exact ⟨v :: ovs,.cons h2 h3,Reps.cons h1 h4⟩
    obtain ⟨ovs,o1,o2⟩:=hov L hq;have hout:(arrOf st).map (·.2) = (L.map λq=>q.2.2).toArray:=by
      apply Array.toList_inj.mp;rw [Array.toList_map,eL,List.map_map];rfl
    rw [hout] at hc;have hperm:(L.map (·.1)).Perm ds:=by
      have:=pL.map (·.1)
      rw [List.map_fst_zip (by have e:kA.toList.length = kA.size:=(by simp);rw [List.length_zip,e];omega)] at this
      exact this
    exact h Hi _ c (L.map λq=>q.2.2) ovs (L.map (·.1)) I' sm hn hc hperm (hR L (by simpa using pL) (by simpa using eL)) o1 o2
theorem sorted_key {k:Nat} {f l:Addr} {fd:FuncData} {ps:List Str} {sp:Sp2} {kf:D -> D} {ds:List D} {vs:List V} {R:List D -> Prop} {Q:VK}
 (F:FnOk X.prog X.w X.K X.mg X.base CX0 k f fd ps (liftSp X.K sp)) (hr:Room (k + 2) X.A) (hb:Binds X.K fd ps []) (hsp:∀ d ∈ ds,sp [d] λr=>r = .val (kf d))
 {G0:Hp} (I:L2.Inv X pins σ H s) (hl:SqL X.K H l vs) (rd:Reps X.K H ds vs) (rd0:Reps X.K G0 ds vs)
 (sorts:∀ (pins':List (Addr × Obj)) (H':Hp) (s':Shared) (keys its:List Value) (ws:List V),L2.Inv X pins' σ H' s' -> Same H H' -> Vals ws keys -> Reps X.K H' (ds.map kf) ws -> Vals vs its -> Sorts X.prog X.w X.A.in1.in1 s' keys.toArray its.toArray λout=>∀ L:List (D × Value × Value),L.Perm (ds.zip (keys.zip its)) -> out.toList = L.map (·.2) -> R (L.map (·.1)))
 (h:∀ H' a (ovs:List V) (ods:List D),Same H H' -> H' a = none -> ods.Perm ds -> R ods -> Reps X.K G0 ods ovs -> Q (.ref a) (upd H' a (.lst ovs))) :
 wpAny (model X.prog X.w) X.A (call (.builtin "sorted") [.ref l] [(Str.ofString "key", .ref f)]) (EP X pins σ Q) X.xe s:=by
  obtain ⟨its,rv,pl,hz⟩:=I.list hl;have hlen:its.length <= sizeLine:=by rw [<- rv.length];exact hz
  refine call_function_entry_kw kind_sorted plain_sorted entry_sorted (ksk_s1 _ _) ?_;unfold Builtin.«sorted»;refine wpAny_bind (m:=checkCount "sorted" 1 1 _) (wpAny_pure ?_);refine wpAny_bind (collect_list pl.isList ?_ hlen);refine wpAny_bind (wpAny_newList ?_ hlen);have hsz:((s.heap.push (seqObj "list" #[] 0)).update s.heap.objs.size (Obj.mapSeq (· ++ its.toArray))).objs.size = s.heap.objs.size + 1:=by
    rw [Heap.size_update,size_push']
  have hoL:(((s.heap.push (seqObj "list" #[] 0)).update s.heap.objs.size (Obj.mapSeq (· ++ its.toArray))).push (seqObj "list" its.toArray 0)).get? (s.heap.objs.size + 1) = some (seqObj "list" its.toArray 0):=by
    rw [<- hsz];exact Heap.get?_push_size _ rfl
  have keep:∀ b o,s.heap.get? b = some o -> (((s.heap.push (seqObj "list" #[] 0)).update s.heap.objs.size (Obj.mapSeq (· ++ its.toArray))).push (seqObj "list" its.toArray 0)).get? b = some o:=λb o q=>by
    have hlt:b < s.heap.objs.size:=Heap.lt_size q;rw [Heap.get?_push_ne _ _ _ (by rw [hsz];exact Nat.ne_of_lt (Nat.lt_succ_of_lt hlt)),Heap.get?_update_ne _ _ _ _ (Nat.ne_of_lt hlt),Heap.get?_push_ne _ _ _ (Nat.ne_of_lt hlt)];exact q
  have hsz2:(((s.heap.push (seqObj "list" #[] 0)).update s.heap.objs.size (Obj.mapSeq (· ++ its.toArray))).push (seqObj "list" its.toArray 0)).objs.size = s.heap.objs.size + 2:=by rw [size_push',hsz]
  generalize hh2:((s.heap.push (seqObj "list" #[] 0)).update s.heap.objs.size (Obj.mapSeq (· ++ its.toArray))).push (seqObj "list" its.toArray 0) = h2 at hoL keep hsz2
  show wpAny _ _ _ _ _ { s with heap:=h2 }
  dsimp only;rw [hsz]
  have I1:L2.Inv X pins σ H { s with heap:=h2,toks:=s.toks }:=I.kept (t':=s.toks) keep;have oD:Out X pins (s.heap.objs.size + 1):=out_of I (Nat.le_succ _);have nD:H (s.heap.objs.size + 1) = none:=I.hok.fresh (Nat.le_succ _);generalize s.heap.objs.size + 1 = a at hoL oD nD;refine wpAny_bind (wpAny_holding (wpAny_call_entry_kw slot_list_sort ⟨_,hoL,rfl⟩ entry_list_sort ?body (ksk_l1 _ _)))
  case body =>
    show wpAny (model X.prog X.w) X.A.in1.in1 (Builtin.«list.sort» ⟨[.ref a],[(Str.ofString "key", .ref f)]⟩) _ _ _
    rw [ksk_t1];have s1:=Heap.SameBut.update h2 a (Obj.mapSeq λ_=>(#[]:Array Value));obtain ⟨e1,ho1⟩:∃ e1,(h2.update a (Obj.mapSeq λ_=>(#[]:Array Value))).get? a = some (seqObj "list" #[] e1):=⟨_,get?_update_seq hoL λ_=>#[]⟩
    have I2:L2.Inv X pins σ H { s with heap:=h2.update a (Obj.mapSeq λ_=>(#[]:Array Value)),toks:=s.toks }:=I1.turned (s:={ s with heap:=h2,toks:=s.toks }) (h':=h2.update a (Obj.mapSeq λ_=>(#[]:Array Value))) (t':=s.toks) (it:=a) (λb u hb q=>(s1.2 b hb).trans q) nD oD.l oD.x oD.c oD.p
    have I2':L2.Inv X ((a,seqObj "list" #[] e1) :: pins) σ H { s with heap:=h2.update a (Obj.mapSeq λ_=>(#[]:Array Value)),toks:=s.toks }:=I2.pins_of λp hp=>by
      rcases List.mem_cons.mp hp with rfl | hp
      · exact ⟨ho1,nD,oD.l,oD.f,cell_no⟩
      · exact I2.pin p (List.mem_append_right _ hp)
    unfold ksk_tree;refine wpAny_bind (listItems_at hoL rfl ?_);refine wpAny_bind (listUpdate_at hoL rfl ?_ (by simpa using hlen) (Nat.zero_le _));refine wpAny_bind (seqEpoch_at ho1 rfl ?_);refine wpAny_bind (wpAny_newTuple ?_ (by simpa using hlen));refine wpAny_bind (wpAny_newList ?_ (Nat.zero_le _));refine wpAny_holding ?_;have k3:∀ b u,(h2.update a (Obj.mapSeq λ_=>(#[]:Array Value))).get? b = some u -> ((h2.update a (Obj.mapSeq λ_=>(#[]:Array Value))).push (seqObj "tuple" its.toArray 0)).get? b = some u:=λb u q=>Heap.get?_push_of_some _ q
    have I3:=I2'.kept (h':=(h2.update a (Obj.mapSeq λ_=>(#[]:Array Value))).push (seqObj "tuple" its.toArray 0)) (t':=s.toks) k3;have oK:=out_of I3 (Nat.le_refl _);have nK:H ((h2.update a (Obj.mapSeq λ_=>(#[]:Array Value))).push (seqObj "tuple" its.toArray 0)).objs.size = none:=I3.hok.fresh (Nat.le_refl _);have I4:=I3.kept (h':=((h2.update a (Obj.mapSeq λ_=>(#[]:Array Value))).push (seqObj "tuple" its.toArray 0)).push (seqObj "list" #[] 0)) (t':=s.toks) λb u q=>Heap.get?_push_of_some _ q
    have I4':L2.Inv X ((((h2.update a (Obj.mapSeq λ_=>(#[]:Array Value))).push (seqObj "tuple" its.toArray 0)).objs.size,seqObj "list" #[] 0) :: (a,seqObj "list" #[] e1) :: pins) σ H { s with heap:=((h2.update a (Obj.mapSeq λ_=>(#[]:Array Value))).push (seqObj "tuple" its.toArray 0)).push (seqObj "list" #[] 0),toks:=s.toks }:=I4.pins_of λp hp=>by
      rcases List.mem_cons.mp hp with rfl | hp
      · exact ⟨Heap.get?_push_size _ rfl,nK,oK.l,oK.f,cell_no⟩
      · exact I4.pin p (List.mem_append_right _ hp)
    refine sort_rest F hr hb hsp I4' oK oD rv rd rd0 (by rw [rd.length];exact hz) (λpins' H' s' keys ws i1 i2 i3 i4=>sorts pins' H' s' keys its ws i1 i2 i3 i4 rv) λH' s' c out ovs ods i1 i2 i3 i4 i5 i6 i7 i8=>?_
    have i9:L2.Inv X pins σ (upd H' a (.lst ovs)) { s' with heap:=s'.heap,toks:=s'.toks }:=Inv.track i1 (oD.fp i3) (λb u _ q=>q) ⟨by
      have e1:=i8.length;have e2:=i5.length_eq;have e3:=rd.length
      omega,out,c,i7,i4⟩
    exact ⟨_,rfl,wpAny_pure ⟨_,rfl,.ref a,_,i9,rfl,h H' a ovs ods i2 i3 i5 i6 i8⟩⟩
end
section
variable {K:PySem.W.Frag} {H0:Hp} {σ:L2.St} {δ:List Sl} {G H H':Hp}
open Classical in
noncomputable def grown (G H H':Hp):Hp:=λb=>if H b = none then H' b else G b
theorem Hs.grow (h:Hs K H0 σ δ G H) (sm:Same H H'):Hs K H0 σ δ (grown G H H') H' /\ Same G (grown G H H'):=by
  have s1:Same G (grown G H H'):=λb u q=>by
    unfold grown;rw [if_neg (by rw [h.sub b u q];exact λz=>by cases z)];exact q
  have own:∀ i p,At σ δ i p -> H' p = H p:=λi p a=>by
    obtain ⟨o,e,_⟩:=h.soft a;rw [e];exact sm p o e
  refine ⟨⟨h.len,h.base.trans s1,λb=>?_,λi d e=>?_,λi d e=>?_,λi p d e=>?_,h.ne⟩,s1⟩
  · cases q:H b with
    | none =>
      refine .inl ⟨by unfold grown;rw [if_pos q],λi a=>?_⟩;obtain ⟨o,e,_⟩:=h.soft a;rw [q] at e;cases e
    | some o =>
      have e1:grown G H H' b = G b:=by unfold grown;rw [if_neg (by rw [q];exact λz=>by cases z)]
      rcases h.ex b with ⟨z1,z2⟩ | ⟨z1,z2⟩
      · exact .inl ⟨by rw [e1,z1,q,sm b o q],z2⟩
      · exact .inr ⟨by rw [e1];exact z1,z2⟩
  · obtain ⟨v,e1,r⟩:=h.fr i d e
    exact ⟨v,e1,Rep.mono s1 _ _ r⟩
  · obtain ⟨p,e1,o⟩:=h.ow i d e
    exact ⟨p,e1,o.mono s1 (own i p ⟨_,e,True.intro,e1⟩)⟩
  · obtain ⟨e1,o⟩:=h.lk i p d e
    exact ⟨e1,o.mono s1 (own i p ⟨_,e,True.intro,e1⟩)⟩
end
abbrev SR:=List D -> (D -> D) -> (List D -> Prop) -> Prop
def SortRule (X:Cx) (S:SR):Prop:=∀ ds kf R,S ds kf R -> ∀ (σ:L2.St) (pins':List (Addr × Obj)) (H':Hp) (s':Shared) (keys its:List Value) (ws vs:List V),L2.Inv X pins' σ H' s' -> Vals ws keys -> Reps X.K H' (ds.map kf) ws -> Vals vs its -> Reps X.K H' ds vs ->
  Sorts X.prog X.w X.A.in1.in1 s' keys.toArray its.toArray λout=>∀ L:List (D × Value × Value),L.Perm (ds.zip (keys.zip its)) -> out.toList = L.map (·.2) -> R (L.map (·.1))
section
variable {X:Cx} {H0:Hp} {k:Nat} {fx:Str} {sp:Sp2} {e:Expr} {te:RE} {p p2 pos kp:Pos} {S:SR}
def rSortK (S:SR) (sp:Sp2) (te:RE) (δ:List Sl) (Q:D -> Prop):Prop:=te δ λd=>match d with
  | .lst ds=>∃ (kf:D -> D) (R:List D -> Prop),(∀ d ∈ ds,sp [d] λr=>r = .val (kf d)) /\ S ds kf R /\ ∀ ods:List D,ods.Perm ds -> R ods -> Q (.lst ods)
  | _=>False
theorem n_sortK (sr:SortRule X S) (F:Fn2 X.prog X.w X.K X.mg X.base k fx sp) (hr:Room (k + 2) X.A) (hm:X.mg "sorted" = none) (ha:PE2 X H0 e te) (hg:Gl X "sorted" := by rfl) (hgf:Gl X fx:=by rfl) (hdb:(fx == ("__debug__" : Str)) = false:=by decide)
 (he1:starEach [e] X.env = (false,eval e X.env) :: starEach [] X.env:=by rfl)
 (he:backTo pos (starEach [e] X.env) = (false,eval e X.env) :: backTo pos (starEach [] X.env):=by rfl) (hplain:(backTo pos (starEach [e] X.env)).any (·.1) = false:=by rfl)
 (hall:(backToKw pos (keywordEach [⟨some "key", .Name fx p2,kp⟩] X.env)).all (·.1.isSome) = true:=by rfl) (hkw:(backToKw pos (keywordEach [⟨some "key", .Name fx p2,kp⟩] X.env)).any (·.1.isNone) = false:=by rfl)
 (hks:(backToKw pos (keywordEach [⟨some "key", .Name fx p2,kp⟩] X.env)).filterMap (·.1) = [Str.ofString "key"]:=by rfl) :
 PN2 X H0 (.Call (.Name "sorted" p) [e] [⟨some "key", .Name fx p2,kp⟩] pos) (rSortK S sp te):=by
  obtain ⟨f,fd,ps,F,hmf,hk,hb⟩:=F.ex;intro pins s σ H Q I ⟨δ,G,Qd,hs,ht,kk⟩;refine wpAny_Call_Name_kw (ld_blt I hg hm rfl ?_ (by decide) (by decide))
  have hA:liftE X.K H0 te σ H (λv H'=>∃ G' d,Nx X.K H0 σ δ G H G' H' /\ Rep X.K G' d v /\ (match d with | .lst ds=>∃ (kf:D -> D) (R:List D -> Prop),(∀ d ∈ ds,sp [d] λr=>r = .val (kf d)) /\ S ds kf R /\ ∀ ods:List D,ods.Perm ds -> R ods -> Qd (.lst ods) | _=>False)) :=
    ⟨δ,G,_,hs,ht,λv H' G' d n r q=>⟨G',d,n,r,q⟩⟩
  have ha':=pa_cons (te:=liftE X.K H0 te) ha pa_nil he1
  refine callWith_kw (thn (ha' pos pins s σ H (λvs H'=>∃ v,vs = [v] /\ ∃ G' d,Nx X.K H0 σ δ G H G' H' /\ Rep X.K G' d v /\ (match d with | .lst ds=>∃ (kf:D -> D) (R:List D -> Prop),(∀ d ∈ ds,sp [d] λr=>r = .val (kf d)) /\ S ds kf R /\ ∀ ods:List D,ods.Perm ds -> R ods -> Qd (.lst ods) | _=>False)) I ?_) λus s1 ⟨vs,H1,I1,r,v,ev,G1,d,n,rd,q⟩=>?_) he hplain hall hkw
  · obtain ⟨δ',G',Qd',h1,h2,h3⟩:=hA
    exact ⟨δ',G',Qd',h1,h2,λv H' G2 d n r q=>⟨v,rfl,h3 v H' G2 d n r q⟩⟩
  · subst ev
    cases d with
    | lst ds =>
      obtain ⟨kf,R,hsp,hS,hQ⟩:=q;simp only [Rep] at rd;obtain ⟨l,vs,rfl,hl,rr⟩:=rd
      cases r with
      | cons r1 r2 =>
        cases r2;cases (show _ = Value.ref l from r1);refine kws_cons (ld_glob I1 hgf hmf (kws_nil ?_) hdb);rw [hks]
        show wpAny _ _ (call (.builtin "sorted") [.ref l] [(Str.ofString "key", .ref f)]) _ _ _
        refine sorted_key F hr hb hsp I1 (n.hs.sub.seq hl) (Reps.mono n.hs.sub _ _ rr) rr (λpins' H' s' keys its ws i1 i2 i3 i4 i5=>sr ds kf R hS σ pins' H' s' keys its ws vs i1 i3 i4 i5 (Reps.mono (n.hs.sub.trans i2) _ _ rr)) λH' a ovs ods sm hn hp hR r9=>?_
        obtain ⟨g1,g2⟩:=n.hs.grow sm;exact kk _ _ _ (.lst ods) (g1.fresh hn ⟨ovs,upd_same,Reps.mono g2 _ _ r9⟩) (n.g.trans g2) ((n.h.trans sm).trans (upd_mono hn)) (hQ ods hp hR)
    | _=>exact q.elim
end
theorem lex_irr:∀ a:List Int,HT.lexLt a a = false
  | []=>rfl
  | x :: a=>by rw [HT.lexLt_cons,if_pos rfl];exact lex_irr a
theorem lex_tot:∀ a b:List Int,a ≠ b -> HT.lexLt a b = false -> HT.lexLt b a = true
  | [],[],h,_=>(h rfl).elim
  | [],_ :: _,_,h=>by cases h
  | _ :: _,[],_,_=>rfl
  | x :: a,y :: b,n,h=>by
    rw [HT.lexLt_cons] at h ⊢
    by_cases e:x = y
    · subst e
      rw [if_pos rfl] at h ⊢;exact lex_tot a b (λz=>n (by rw [z])) h
    · rw [if_neg e] at h
      rw [if_neg (λz=>e z.symm)];simp only [decide_eq_false_iff_not,decide_eq_true_eq] at h ⊢;omega
theorem lex_trans:∀ a b c:List Int,HT.lexLt a b = true -> HT.lexLt b c = true -> HT.lexLt a c = true
  | [],[],_,h,_=>by cases h
  | [],_ :: _,[],_,h=>by cases h
  | [],_ :: _,_ :: _,_,_=>rfl
  | _ :: _,[],_,h,_=>by cases h
  | _ :: _,_ :: _,[],_,h=>by cases h
  | x :: a,y :: b,z :: c,h,h'=>by
    rw [HT.lexLt_cons] at h h' ⊢
    by_cases e:x = y
    · subst e
      rw [if_pos rfl] at h
      by_cases e2:x = z
      · rw [if_pos e2] at h' ⊢;exact lex_trans a b c h h'
      · rw [if_neg e2] at h' ⊢;exact h'
    · rw [if_neg e] at h
      by_cases e2:y = z
      · subst e2;rw [if_neg e];exact h
      · rw [if_neg e2] at h'
        simp only [decide_eq_true_eq] at h h';rw [if_neg (by omega)];simp only [decide_eq_true_eq];omega
theorem lex_asym {a b:List Int} (h:HT.lexLt a b = true):HT.lexLt b a = false:=by
  cases e:HT.lexLt b a with
  | false=>rfl
  | true=>have:=lex_trans _ _ _ h e;rw [lex_irr] at this;cases this
theorem lex_le {a b c:List Int} (h:HT.lexLt b a = false) (h':HT.lexLt c b = false):HT.lexLt c a = false:=by
  cases e:HT.lexLt c a with
  | false=>rfl
  | true =>
    by_cases e1:b = c
    · subst e1;rw [h] at e;cases e
    · have:=lex_tot c b (λz=>e1 z.symm) h'
      have:=lex_trans _ _ _ this e;rw [h] at this;cases this
def IK (h:Heap) (v:Value) (zs:List Int):Prop:=∃ a its,v = .ref a /\ IsTup h a its /\ IntsAre its.toList zs
theorem ints_fn:∀ {vs:List Value} {xs ys:List Int},IntsAre vs xs -> IntsAre vs ys -> xs = ys
  | _,_,_,.nil,.nil=>rfl
  | _,_,_,.cons n t r,.cons _ _ r'=>by rw [ints_fn r r']
theorem IK.fn {h:Heap} {v:Value} {xs ys:List Int} (a:IK h v xs) (b:IK h v ys):xs = ys:=by
  obtain ⟨a1,i1,rfl,t1,r1⟩:=a;obtain ⟨a2,i2,e,t2,r2⟩:=b;cases e;obtain ⟨o1,g1,_,n1,d1⟩:=t1;obtain ⟨o2,g2,_,n2,d2⟩:=t2;rw [g1] at g2;cases g2;rw [d1] at d2;cases d2;exact ints_fn r1 r2
open Classical in
noncomputable def kz (h:Heap) (v:Value):List Int:=if e:∃ zs,IK h v zs then e.choose else []
theorem kz_eq {h:Heap} {v:Value} {zs:List Int} (a:IK h v zs):kz h v = zs:=by
  have e:∃ zs,IK h v zs:=⟨zs,a⟩;unfold kz;rw [dif_pos e];exact e.choose_spec.fn a
section
variable {prog:Program} {w:World} {A:Around} {E:Value -> Shared -> Prop} {s:Shared}
theorem ints_length:∀ {vs:List Value} {xs:List Int},IntsAre vs xs -> vs.length = xs.length
  | _,_,.nil=>rfl
  | _,_,.cons n t r=>by rw [List.length_cons,List.length_cons,ints_length r]
theorem lex_run {Q:Bool -> Shared -> Prop}:∀ (vs us:List Value) (xs ys:List Int) (i:Nat),IntsAre vs xs -> IntsAre us ys -> Q (HT.lexLt xs ys) s -> PySem.W.KatLex prog w A true (decide (xs.length < ys.length)) Q (vs.zip us) i s
  | [],us,_,ys,i,.nil,r,h=>by
    cases r with
    | nil=>exact h
    | cons n t r =>
      rw [List.zip_nil_left];refine PySem.W.kat_nil ?_;rw [decide_eq_true (by simp)];exact h
  | _ :: vs,[],_,_,i,.cons n t r,.nil,h=>by
    rw [List.zip_nil_right];refine PySem.W.kat_nil ?_;rw [decide_eq_false (by simp)];exact h
  | _ :: vs,_ :: us,_,_,i,.cons (ns:=xs) n t r,.cons (ns:=ys) m u r',h=>by
    rw [HT.lexLt_cons] at h;refine PySem.W.kat_cons (wpAny_eqBool_int ?_)
    by_cases e:n = m
    · rw [if_pos e] at h
      rw [show (n == m) = true by simpa using e];refine PySem.W.kat_yes ?_;have:=lex_run vs us xs ys (i + 1) r r' h;rw [show decide ((n :: xs).length < (m :: ys).length) = decide (xs.length < ys.length) by simp];exact this
    · rw [if_neg e] at h
      rw [show (n == m) = false by simpa using e];refine PySem.W.kat_no ?_
      cases hb:(true && i == 0) with
      | true=>exact oneLt_int h
      | false=>exact PySem.W.kat_one _ _ (wpAny_lt_int h)
theorem lt_run {x y:Value} {xs ys:List Int} {Q:Bool -> Shared -> Prop} (hx:IK s.heap x xs) (hy:IK s.heap y ys) (h:Q (HT.lexLt xs ys) s):wpAny (model prog w) A (keyLt' (tuples' true) x y) Q E s:=by
  obtain ⟨a1,i1,rfl,⟨o1,g1,_,n1,d1⟩,r1⟩:=hx;obtain ⟨a2,i2,rfl,⟨o2,g2,_,n2,d2⟩,r2⟩:=hy;refine PySem.W.kat_lt g1 d1 g2 d2 ?_;have:=lex_run (prog:=prog) (w:=w) (A:=A) (s:=s) i1.toList i2.toList xs ys 0 r1 r2 h;rw [<- ints_length r1,<- ints_length r2] at this
  simpa using this
theorem ord_keys (L:List Keyed) (hk:∀ x ∈ L,∃ zs,IK s.heap x.1 zs) :
 T.Ord prog w A s (tuples' true) (λx=>x ∈ L) (λx y=>HT.lexLt (kz s.heap x.1) (kz s.heap y.1)) where
  run x y hx hy E Q h:=by
    obtain ⟨xs,ix⟩:=hk x hx;obtain ⟨ys,iy⟩:=hk y hy;rw [kz_eq ix,kz_eq iy] at h;exact lt_run ix iy h
  asym x y _ _ h:=lex_asym h
  le x y z _ _ _ h h':=lex_le h h'
end
section
variable {X:Cx} {pins:List (Addr × Obj)} {σ:L2.St} {H:Hp} {s:Shared}
theorem ints_vals {K:PySem.W.Frag} {H:Hp}:∀ {zs:List Int} {vs:List V} {us:List Value},Reps K H (zs.map D.int) vs -> Vals vs us -> IntsAre us zs
  | [],_,us,r,t=>by
    simp only [List.map_nil,Reps] at r;subst r;cases t;exact .nil
  | z :: zs,_,us,r,t=>by
    simp only [List.map_cons,Reps] at r;obtain ⟨v,vs,rfl,h1,h2⟩:=r;simp only [Rep] at h1;subst h1
    cases t with
    | cons q r =>
      obtain ⟨tk,rfl⟩:=q;exact .cons _ _ (ints_vals h2 r)
theorem ik_of (I:L2.Inv X pins σ H s) {zs:List Int} {v:V} {u:Value} (r:Rep X.K H (.tup (zs.map D.int)) v) (q:L2.RelV v u):IK s.heap u zs:=by
  simp only [Rep] at r;obtain ⟨a,vs,rfl,e,r⟩:=r;obtain ⟨_,its,t,ht⟩:=I.hok a _ e;exact ⟨a,its.toArray,q,ht,by simpa using ints_vals r t⟩
theorem iks_of (I:L2.Inv X pins σ H s):∀ {zss:List (List Int)} {vs:List V} {us:List Value},Reps X.K H (zss.map λzs=>D.tup (zs.map D.int)) vs -> Vals vs us -> zss.length = us.length /\ ∀ (i:Nat) zs u,zss[i]? = some zs -> us[i]? = some u -> IK s.heap u zs
  | [],_,us,r,t=>by
    simp only [List.map_nil,Reps] at r;subst r;cases t;exact ⟨rfl,λi zs u e _=>by simp at e⟩
  | z :: zss,_,us,r,t=>by
    simp only [List.map_cons,Reps] at r;obtain ⟨v,vs,rfl,h1,h2⟩:=r
    cases t with
    | cons q r =>
      obtain ⟨l,g⟩:=iks_of I h2 r;refine ⟨by rw [List.length_cons,List.length_cons,l],λi zs u e1 e2=>?_⟩
      cases i with
      | zero =>
        simp only [List.getElem?_cons_zero,Option.some.injEq] at e1 e2;subst e1;subst e2;exact ik_of I h1 q
      | succ i =>
        simp only [List.getElem?_cons_succ] at e1 e2;exact g i zs u e1 e2
theorem katTups_of {h:Heap}:∀ (zss:List (List Int)) (us:List Value),zss.length = us.length -> (∀ zs ∈ zss,zs ≠ []) -> (∀ (i:Nat) zs u,zss[i]? = some zs -> us[i]? = some u -> IK h u zs) -> ∃ fs,PySem.W.KatTups h us fs /\ fs.length = us.length /\ ∀ f ∈ fs,∃ i t,f = Value.int i t
  | [],[],_,_,_=>⟨[],.nil,rfl,λf hf=>nomatch hf⟩
  | [],_ :: _,e,_,_=>by cases e
  | _ :: _,[],e,_,_=>by cases e
  | zs :: zss,u :: us,e,hn,hk=>by
    obtain ⟨fs,t,l,hf⟩:=katTups_of zss us (by simpa using e) (λzs h=>hn zs (.tail _ h)) λi zs u e1 e2=>hk (i + 1) zs u (by simpa using e1) (by simpa using e2)
    obtain ⟨a,its,rfl,⟨o,g,c,n,d⟩,r⟩:=hk 0 zs u rfl rfl
    cases hz:zs with
    | nil=>exact (hn zs (.head _) hz).elim
    | cons z zr =>
      subst hz;obtain ⟨its⟩:=its
      cases r with
      | cons _ tk r =>
        refine ⟨.int z tk :: fs,.cons g c d rfl t,by rw [List.length_cons,List.length_cons,l],λf hq=>?_⟩
        rcases List.mem_cons.mp hq with rfl | hq
        · exact ⟨z,tk,rfl⟩
        · exact hf f hq
end
def SLex:SR:=λds kf R=>∃ key:D -> List Int,(∀ d ∈ ds,kf d = .tup ((key d).map D.int) /\ key d ≠ []) /\ (ds.map key).Nodup /\ R = λods=>ods.Pairwise λa b=>HT.lexLt (key a) (key b) = true
theorem zip_get {α β:Type} {xs:List α} {ys:List β} {p:α × β} (h:p ∈ xs.zip ys):∃ i:Nat,xs[i]? = some p.1 /\ ys[i]? = some p.2:=by
  obtain ⟨i,hi,e⟩:=List.mem_iff_getElem.mp h;refine ⟨i,?_,?_⟩
  · rw [List.getElem?_eq_getElem (by rw [List.length_zip] at hi;omega),<- e];simp
  · rw [List.getElem?_eq_getElem (by rw [List.length_zip] at hi;omega),<- e];simp
theorem pw_short {α:Type} {R:α -> α -> Prop} (l:List α) (h:l.length < 2):l.Pairwise R:=by
  cases l with
  | nil=>exact .nil
  | cons x l =>
    cases l with
    | nil=>exact List.pairwise_singleton _ _
    | cons y l=>exact absurd h (Nat.not_lt_of_le (Nat.le_add_left 2 l.length))
theorem sort_lex {X:Cx}:SortRule X SLex:=λds kf R ⟨key,hkf,nd,e⟩ σ pins' H' s' keys its ws vs I r1 r2 r3 r4 E Q k=>by
  have h1:=r3.length;have h2:=r4.length;have hm:ds.map kf = (ds.map key).map λzs=>D.tup (zs.map D.int):=by
    rw [List.map_map];exact List.map_congr_left λd hd=>(hkf d hd).1
  rw [hm] at r2;obtain ⟨hl,hik⟩:=iks_of I r2 r1;rw [List.length_map] at hl;have hR:∀ out:Array Keyed,out.toList.Pairwise (λx y=>HT.lexLt (kz s'.heap y.1) (kz s'.heap x.1) = false) -> ∀ L:List (D × Value × Value),L.Perm (ds.zip (keys.zip its)) -> out.toList = L.map (·.2) -> R (L.map (·.1)):=by
    intro out hp L pL eL;rw [e];have hq:∀ q ∈ L,kz s'.heap q.2.1 = key q.1:=λq hq=>by
      obtain ⟨i,g1,g2⟩:=zip_get (pL.mem_iff.mp hq);obtain ⟨j,g3,g4⟩:=zip_get (List.mem_of_getElem? g2);have g5:keys[i]? = some q.2.1:=by
        obtain ⟨b1,b2⟩:=List.getElem?_eq_some_iff.mp g2;rw [List.getElem_zip] at b2;rw [List.getElem?_eq_getElem (by rw [List.length_zip] at b1;omega),<- b2]
      exact kz_eq (hik i (key q.1) q.2.1 (by rw [List.getElem?_map,g1];rfl) g5)
    have nd2:(L.map λq=>key q.1).Nodup:=by
      have : (L.map λq=>key q.1).Perm (ds.map key):=by
        have h9:((ds.zip (keys.zip its)).map λq=>key q.1) = ds.map key:=by
          have : ((ds.zip (keys.zip its)).map λq=>key q.1) = ((ds.zip (keys.zip its)).map Prod.fst).map key:=by rw [List.map_map];rfl
          rw [this,List.map_fst_zip];rw [List.length_zip];omega
        rw [<- h9];exact pL.map _
      exact this.nodup_iff.mpr nd
    rw [eL,List.pairwise_map] at hp;rw [List.Nodup,List.pairwise_map] at nd2;dsimp only;rw [List.pairwise_map];refine (hp.and nd2).imp_of_mem λ{a b} ha hb h=>?_
    have h3:=h.1;rw [hq a ha,hq b hb] at h3;exact lex_tot _ _ (λz=>h.2 z.symm) h3
  by_cases h:its.toArray.size < 2
  · rw [if_pos h]
    refine wpAny_pure ?_;rw [if_pos h,StateT.run_pure];refine wpAny_pure (k (SortSt.mk' general' (keys.toArray.zip its.toArray) #[] 7 none) s'.toks (Array.Perm.refl _) rfl (hR _ ?_));have hz:(keys.toArray.zip its.toArray).toList.length < 2:=by
      simp at h ⊢;omega
    show List.Pairwise _ (keys.toArray.zip its.toArray).toList
    exact pw_short _ hz
  · rw [if_neg h]
    have h':2 <= its.length:=by simpa using h
    obtain ⟨fs,kt,lf,hf⟩:=katTups_of (ds.map key) keys (by rw [List.length_map];exact hl) (λzs hz=>by
      obtain ⟨d,hd,rfl⟩:=List.mem_map.mp hz
      exact (hkf d hd).2) hik
    refine PySem.W.kat_kind kt (by omega) (T:=Value.type "int") (λv hv=>?_) rfl ?_
    · obtain ⟨i,t,rfl⟩:=hf v hv
      exact .now
    rw [if_neg h];have hid:∀ x ∈ keys.zip its,∃ (i:Nat) (d:D),ds[i]? = some d /\ keys[i]? = some x.1 /\ its[i]? = some x.2 /\ IK s'.heap x.1 (key d):=λx hx=>by
      obtain ⟨i,g1,g2⟩:=zip_get hx;have hi:i < ds.length:=by
        have:=(List.getElem?_eq_some_iff.mp g1).1;omega
      exact ⟨i,ds[i],List.getElem?_eq_getElem hi,g1,g2,hik i _ _ (by rw [List.getElem?_map,List.getElem?_eq_getElem hi];rfl) g1⟩
    have hz:(keys.toArray.zip its.toArray).toList = keys.zip its:=by simp
    have O:=ord_keys (prog:=X.prog) (w:=X.w) (A:=X.A.in1.in1) (s:=s') (keys.zip its) (λx hx=>by obtain ⟨i,d,_,_,_,q⟩:=hid x hx;exact ⟨_,q⟩);have W:=T.wpS_sortRuns (E:=E) (st:=SortSt.mk' (tuples' true) (keys.toArray.zip its.toArray) #[] 7 none) (Q:=λ_ st=>Q ((),st) s') O ⟨rfl,rfl,λx hx=>by rw [<- hz];exact hx⟩ rfl λst' p1 p2 p3=>k st' s'.toks (Array.perm_iff_toList_perm.mpr p1) p3 (hR _ p2)
    exact wpAny_mono W (λr s2 hq=>by obtain ⟨rfl,q⟩:=hq;exact q) λ_ _ z=>z
section
variable {X:Cx} {H0:Hp} {a b e:Expr} {ta tb:RE} {pos:Pos}
def rCatL (K:PySem.W.Frag):R2:=λx y H Q=>∃ l b xs zs,x = .ref l /\ y = .ref b /\ SqL K H l xs /\ SqL K H b zs /\ xs.length + zs.length <= sizeLine /\ ∀ p,H p = none -> Q (.ref p) (upd H p (.lst (xs ++ zs)))
theorem op_catL:OpR X (binaryOp .Add) (rCatL X.K):=by
  intro pins s σ H x y v u Q I rx ry h;obtain ⟨l,b,xs,zs,rfl,rfl,hl,hb,hz,q⟩:=h;cases rx;cases ry;obtain ⟨its,r,⟨⟨cls,dd,data,sl⟩,n,ho,hc,hd,hs⟩,z⟩:=I.list hl;obtain ⟨its2,r2,⟨⟨cls2,dd2,data2,sl2⟩,n2,ho2,hc2,hd2,hs2⟩,z2⟩:=I.list hb;simp only at hc hd hs hc2 hd2 hs2;subst hc hd hs hc2 hd2 hs2;have e:its.toArray ++ its2.toArray = (its ++ its2).toArray:=by simp
  have l1:=r.length;have l2:=r2.length;refine concat_meets ⟨_,ho,rfl⟩ ⟨_,ho2,rfl⟩ noFill_list_add seq_list_add PySem.F.slot_list_add PySem.F.entry_list_add (PySem.F.args_list_add_2 _ _) (list_addW l b its.toArray its2.toArray n n2 none none sl sl2 (by simp;omega)) ⟨ho,ho2,?_⟩;rw [e];exact ⟨.ref _,_,I.lnew (t':=s.toks) (r.append r2) (by rw [List.length_append];omega),rfl,q _ I.fresh⟩
def rCat2 (ta tb:RE) (δ:List Sl) (Q:D -> Prop):Prop:=ta δ λx=>tb δ λy=>match x,y with
  | .lst xs,.lst ys=>xs.length + ys.length <= sizeLine /\ Q (.lst (xs ++ ys))
  | _,_=>False
theorem n_cat (ha:PB2 X H0 a ta) (hb:PB2 X H0 b tb):PN2 X H0 (.BinOp a .Add b pos) (rCat2 ta tb) :=
  PE.weak (pe_op op_catL ha hb) λσ H Q ⟨δ,G,Qd,hs,ht,k⟩=>⟨δ,G,_,hs,ht,λv H1 G1 d n1 r1 q1=>⟨δ,G1,_,n1.hs,q1,λv2 H2 G2 d2 n2 r2 q2=>by
    cases d with
    | lst xs =>
      cases d2 with
      | lst ys =>
        obtain ⟨hz,q⟩:=q2;obtain ⟨a,vs,rfl,h2,h3⟩:=r1.mono n2.g n2.h;obtain ⟨b,ws,rfl,g2,g3⟩:=r2;refine ⟨a,b,vs,ws,rfl,rfl,h2,g2,by rw [<- h3.length,<- g3.length];exact hz,λp hp=>k _ _ G2 (.lst (xs ++ ys)) (n2.hs.fresh hp ⟨_,upd_same,Reps.append h3 g3⟩) (n1.trans n2).g ((n1.trans n2).h.trans (upd_mono hp)) q⟩
      | _=>exact q2.elim
    | _=>exact q2.elim⟩⟩
variable {x:Str} {p apos cpos:Pos}
end
open Classical in
noncomputable def kzc (keys:List Value) (ks:List (List Int)) (u:Value):List Int:=if e:∃ (zs:List Int) (i:Nat),keys[i]? = some u /\ ks[i]? = some zs then e.choose else []
theorem kzc_eq {keys:List Value} {ks:List (List Int)} (fn:∀ (i j:Nat) u x y,keys[i]? = some u -> keys[j]? = some u -> ks[i]? = some x -> ks[j]? = some y -> x = y) {u:Value} {zs:List Int} {i:Nat} (h1:keys[i]? = some u) (h2:ks[i]? = some zs):kzc keys ks u = zs:=by
  have e:∃ (zs:List Int) (i:Nat),keys[i]? = some u /\ ks[i]? = some zs:=⟨zs,i,h1,h2⟩;unfold kzc;rw [dif_pos e];obtain ⟨j,g1,g2⟩:=e.choose_spec;exact fn j i u _ _ g1 h1 g2 h2
theorem sorts_weak {prog:Program} {w:World} {A:Around} {s':Shared} {keys its:List Value} {ds:List D} {key:D -> List Int} {κ:SortKind} (hl:ds.length = keys.length) (hl2:its.length = ds.length)
 (fn:∀ (i j:Nat) u x y,keys[i]? = some u -> keys[j]? = some u -> (ds.map key)[i]? = some x -> (ds.map key)[j]? = some y -> x = y)
 (kind:2 <= its.length -> ∀ (E:Value -> Shared -> Prop) (Q:SortKind -> Shared -> Prop),Q κ s' -> wpAny (model prog w) A (keyKind' keys.toArray) Q E s')
 (run:∀ (i j:Nat) u v x y,keys[i]? = some u -> keys[j]? = some v -> (ds.map key)[i]? = some x -> (ds.map key)[j]? = some y -> ∀ (E:Value -> Shared -> Prop) (Q:Bool -> Shared -> Prop),Q (HT.lexLt x y) s' -> wpAny (model prog w) A (keyLt' κ u v) Q E s') :
 Sorts prog w A s' keys.toArray its.toArray λout=>∀ L:List (D × Value × Value),L.Perm (ds.zip (keys.zip its)) -> out.toList = L.map (·.2) -> (L.map (·.1)).Pairwise λa b=>HT.lexLt (key b) (key a) = false:=λE Q k=>by
  have gk:∀ {i:Nat} {d:D},ds[i]? = some d -> (ds.map key)[i]? = some (key d):=λh=>by rw [List.getElem?_map,h];rfl
  have hR:∀ out:Array Keyed,out.toList.Pairwise (λx y=>HT.lexLt (kzc keys (ds.map key) y.1) (kzc keys (ds.map key) x.1) = false) -> ∀ L:List (D × Value × Value),L.Perm (ds.zip (keys.zip its)) -> out.toList = L.map (·.2) -> (L.map (·.1)).Pairwise λa b=>HT.lexLt (key b) (key a) = false:=by
    intro out hp L pL eL;have hq:∀ q ∈ L,kzc keys (ds.map key) q.2.1 = key q.1:=λq hq=>by
      obtain ⟨i,g1,g2⟩:=zip_get (pL.mem_iff.mp hq);have g5:keys[i]? = some q.2.1:=by
        obtain ⟨b1,b2⟩:=List.getElem?_eq_some_iff.mp g2;rw [List.getElem_zip] at b2;rw [List.getElem?_eq_getElem (by rw [List.length_zip] at b1;omega),<- b2]
      exact kzc_eq fn g5 (gk g1)
    rw [eL,List.pairwise_map] at hp;rw [List.pairwise_map];refine hp.imp_of_mem λ{a b} ha hb h=>?_
    rw [hq a ha,hq b hb] at h;exact h
  by_cases h:its.toArray.size < 2
  · rw [if_pos h]
    refine wpAny_pure ?_;rw [if_pos h,StateT.run_pure];refine wpAny_pure (k (SortSt.mk' general' (keys.toArray.zip its.toArray) #[] 7 none) s'.toks (Array.Perm.refl _) rfl (hR _ ?_));have hz:(keys.toArray.zip its.toArray).toList.length < 2:=by
      simp at h ⊢;omega
    show List.Pairwise _ (keys.toArray.zip its.toArray).toList
    exact pw_short _ hz
  · rw [if_neg h]
    refine kind (by simpa using h) E _ ?_;rw [if_neg h];have hid:∀ x ∈ keys.zip its,∃ (i:Nat) (d:D),ds[i]? = some d /\ keys[i]? = some x.1:=λx hx=>by
      obtain ⟨i,g1,g2⟩:=zip_get hx;have hi:i < ds.length:=by
        have:=(List.getElem?_eq_some_iff.mp g1).1;omega
      exact ⟨i,ds[i],List.getElem?_eq_getElem hi,g1⟩
    have hz:(keys.toArray.zip its.toArray).toList = keys.zip its:=by simp
    have O:T.Ord prog w A s' κ (λx=>x ∈ keys.zip its) (λx y=>HT.lexLt (kzc keys (ds.map key) x.1) (kzc keys (ds.map key) y.1)) :=
      { run:=λx y hx hy E Q h=>by
          obtain ⟨i,d,a1,a2⟩:=hid x hx;obtain ⟨j,d',b1,b2⟩:=hid y hy;rw [kzc_eq fn a2 (gk a1),kzc_eq fn b2 (gk b1)] at h;exact run i j _ _ _ _ a2 b2 (gk a1) (gk b1) E Q h
        asym:=λx y _ _ h=>lex_asym h
        le:=λx y z _ _ _ h h'=>lex_le h h' }
    have W:=T.wpS_sortRuns (E:=E) (st:=SortSt.mk' κ (keys.toArray.zip its.toArray) #[] 7 none) (Q:=λ_ st=>Q ((),st) s') O ⟨rfl,rfl,λx hx=>by rw [<- hz];exact hx⟩ rfl λst' p1 p2 p3=>k st' s'.toks (Array.perm_iff_toList_perm.mpr p1) p3 (hR _ p2)
    exact wpAny_mono W (λr s2 hq=>by obtain ⟨rfl,q⟩:=hq;exact q) λ_ _ z=>z
def SortsP (K:PySem.W.Frag) (H:Hp) (vs:List V) (ds:List D) (R:List D -> Prop) (X:Cx):Prop:=∀ (A:Around) (σ:L2.St) (pins:List (Addr × Obj)) (s:Shared) (its:List Value),L2.Inv X pins σ H s -> Vals vs its ->
  Sorts X.prog X.w A s its.toArray its.toArray λout=>∀ L:List (D × Value × Value),L.Perm (ds.zip (its.zip its)) -> out.toList = L.map (·.2) -> R (L.map (·.1))
theorem zip3 {α β γ:Type}:∀ (ds:List α) (vs:List β) (us:List γ),ds.length = vs.length -> vs.length = us.length -> (ds.zip (vs.zip us)).map (λq=>(q.1,q.2.2,q.2.2)) = ds.zip (us.zip us)
  | [],[],[],_,_=>rfl
  | _ :: ds,_ :: vs,_ :: us,h1,h2=>by simp [zip3 ds vs us (by simpa using h1) (by simpa using h2)]
  | [],_ :: _,_,h,_=>by cases h
  | _ :: _,[],_,h,_=>by cases h
  | _,[],_ :: _,_,h=>by cases h
  | _,_ :: _,[],_,h=>by cases h
theorem zip3b {α β γ:Type}:∀ (ds:List α) (vs:List β) (us:List γ),ds.length = vs.length -> vs.length = us.length -> (ds.zip (vs.zip us)).map (λq=>(q.1,q.2.1)) = ds.zip vs
  | [],[],[],_,_=>rfl
  | _ :: ds,_ :: vs,_ :: us,h1,h2=>by simp [zip3b ds vs us (by simpa using h1) (by simpa using h2)]
  | [],_ :: _,_,h,_=>by cases h
  | _ :: _,[],_,h,_=>by cases h
  | _,[],_ :: _,_,h=>by cases h
  | _,_ :: _,[],_,h=>by cases h
section
variable {X:Cx} {pins:List (Addr × Obj)} {σ:L2.St} {H:Hp} {s:Shared}
theorem sorted_col {x:Value} {ds:List D} {vs:List V} {R:List D -> Prop} {Q:VK} (hlen0:ds.length = vs.length) (hz:vs.length <= sizeLine)
 (col:∀ (A:Around) (Q':List Value -> Shared -> Prop) (E':Value -> Shared -> Prop),A.handled = X.A.handled -> (∀ its s1,L2.Inv X pins σ H s1 -> Vals vs its -> Q' its s1) -> wpAny (model X.prog X.w) A (collect x) Q' E' s) (sorts:SortsP X.K H vs ds R X)
 (h:∀ a (L:List (D × V)),H a = none -> L.Perm (ds.zip vs) -> R (L.map (·.1)) -> Q (.ref a) (upd H a (.lst (L.map (·.2))))) :
 wpAny (model X.prog X.w) X.A (call (.builtin "sorted") [x]) (EP X pins σ Q) X.xe s:=by
  refine Calls.call_function_entry kind_sorted plain_sorted entry_sorted (args_sorted1 _) ?_;unfold Builtin.«sorted»;refine wpAny_bind (m:=checkCount "sorted" 1 1 _) (wpAny_pure ?_);refine wpAny_bind (col _ _ _ rfl λits s I rv=>?_);have hl2:=rv.length;have hlen:its.length <= sizeLine:=by rw [<- rv.length];exact hz
  refine wpAny_bind (wpAny_newList ?_ hlen);have hoL:(s.heap.push (seqObj "list" its.toArray 0)).get? s.heap.objs.size = some (seqObj "list" its.toArray 0):=Heap.get?_push_size _ rfl;have keep:∀ b o,s.heap.get? b = some o -> (s.heap.push (seqObj "list" its.toArray 0)).get? b = some o:=λb o q=>Heap.get?_push_of_some _ q
  have oD:Out X pins s.heap.objs.size:=out_of I (Nat.le_refl _);have nD:H s.heap.objs.size = none:=I.hok.fresh (Nat.le_refl _);generalize hh2:s.heap.push (seqObj "list" its.toArray 0) = h2 at hoL keep
  show wpAny _ _ _ _ _ { s with heap:=h2 }
  dsimp only
  have I1:L2.Inv X pins σ H { s with heap:=h2,toks:=s.toks }:=I.kept (t':=s.toks) keep;generalize s.heap.objs.size = a at hoL oD nD;refine wpAny_bind (wpAny_holding (wpAny_call_entry slot_list_sort ⟨_,hoL,rfl⟩ entry_list_sort ?body (args_list_sort _)))
  case body =>
    rw [list_sort_plain];have s1:=Heap.SameBut.update h2 a (Obj.mapSeq λ_=>(#[]:Array Value));obtain ⟨e1,ho1⟩:∃ e1,(h2.update a (Obj.mapSeq λ_=>(#[]:Array Value))).get? a = some (seqObj "list" #[] e1):=⟨_,get?_update_seq hoL λ_=>#[]⟩
    have I2:L2.Inv X pins σ H { s with heap:=h2.update a (Obj.mapSeq λ_=>(#[]:Array Value)),toks:=s.toks }:=I1.turned (s:={ s with heap:=h2,toks:=s.toks }) (h':=h2.update a (Obj.mapSeq λ_=>(#[]:Array Value))) (t':=s.toks) (it:=a) (λb u hb q=>(s1.2 b hb).trans q) nD oD.l oD.x oD.c oD.p;refine wpAny_bind (listItems_at hoL rfl ?_);refine wpAny_bind (listUpdate_at hoL rfl ?_ (by simpa using hlen) (Nat.zero_le _));refine wpAny_bind (seqEpoch_at ho1 rfl ?_);refine wpAny_bind (wpAny_newTuple ?_ (by simpa using hlen));refine wpAny_bind (wpAny_newList ?_ (Nat.zero_le _));refine wpAny_holding ?_;have I3:=I2.kept (h':=(h2.update a (Obj.mapSeq λ_=>(#[]:Array Value))).push (seqObj "tuple" its.toArray 0)) (t':=s.toks) λb u q=>Heap.get?_push_of_some _ q
    have I4:=I3.kept (h':=((h2.update a (Obj.mapSeq λ_=>(#[]:Array Value))).push (seqObj "tuple" its.toArray 0)).push (seqObj "list" #[] 0)) (t':=s.toks) λb u q=>Heap.get?_push_of_some _ q
    have ho6:(((h2.update a (Obj.mapSeq λ_=>(#[]:Array Value))).push (seqObj "tuple" its.toArray 0)).push (seqObj "list" #[] 0)).get? a = some (seqObj "list" #[] e1):=Heap.get?_push_of_some _ (Heap.get?_push_of_some _ ho1);generalize hh6:((h2.update a (Obj.mapSeq λ_=>(#[]:Array Value))).push (seqObj "tuple" its.toArray 0)).push (seqObj "list" #[] 0) = h6 at I4 ho6
    show wpAny _ _ _ _ _ { s with heap:=h6 }
    dsimp only;have so:=λ(A:Around)=>sorts A σ pins _ its I4 rv
    have tailOk:∀ (A:Around) (E:Value -> Shared -> Prop) (st:SortSt) (tk:Nat),(arrOf st).Perm (its.toArray.zip its.toArray) -> failedOf st = none -> (∀ L:List (D × Value × Value),L.Perm (ds.zip (its.zip its)) -> (arrOf st).toList = L.map (·.2) -> R (L.map (·.1))) ->
        ∀ {P:PySem.Fin -> Shared -> Prop},(∀ s',EP X pins σ Q (.ref a) s' -> P (.done (.ret .none)) s') -> wpAny (model X.prog X.w) A (do
          let touched:=(<- seqEpoch a) != e1
          Builtin.List.listUpdate (.ref a) λ_=>(arrOf st).map (·.2)
          if let some e:=failedOf st then rule "list.sort.comparison-raised"; throw e
          if touched then rule "list.sort.modified"; raiseError "ValueError" "list modified during sort"
          ret .none) P E { s with heap:=h6,toks:=tk }:=by
      intro A E st tk hp hf hR P hP;have hpl:(arrOf st).toList.Perm (its.zip its):=by
        have:=Array.perm_iff_toList_perm.mp hp
        simpa using this
      have hmap:(ds.zip (vs.zip its)).map (λq=>(q.2.2,q.2.2)) = its.zip its:=by
        have:=congrArg (List.map Prod.snd) (zip3 ds vs its hlen0 hl2);rw [List.map_map,List.map_snd_zip (by rw [List.length_zip];omega)] at this;exact this
      obtain ⟨L,pL,eL⟩:=perm_map_inv (λq:D × V × Value=>(q.2.2,q.2.2)) hpl (ds.zip (vs.zip its)) hmap.symm;have hR2:R (L.map (·.1)):=by
        have:=hR (L.map λq=>(q.1,q.2.2,q.2.2)) (by rw [<- zip3 ds vs its hlen0 hl2];exact pL.map _) (by rw [List.map_map];exact eL);rw [List.map_map] at this;exact this
      obtain ⟨out,hout⟩:∃ out:Array Value,out = (arrOf st).map (·.2):=⟨_,rfl⟩;have hos:out.size <= sizeLine:=by
        rw [hout,Array.size_map,<- Array.length_toList,hpl.length_eq,List.length_zip];omega
      have hol:out.toList = L.map λq=>q.2.2:=by
        rw [hout,Array.toList_map,eL,List.map_map];rfl
      rw [<- hout];refine wpAny_bind (seqEpoch_at ho6 rfl ?_);refine wpAny_bind (listUpdate_at (f:=λ_=>out) ho6 rfl ?_ (Nat.zero_le _) (Nat.le_succ_of_le hos));rw [hf];simp only [bne_self_eq_false,Bool.false_eq_true,if_false];have s2:=Heap.SameBut.update h6 a (Obj.mapSeq λ_=>out);obtain ⟨c2,hc2⟩:∃ c2,(h6.update a (Obj.mapSeq λ_=>out)).get? a = some (seqObj "list" out c2):=⟨_,get?_update_seq ho6 λ_=>out⟩;have hov:Vals (L.map λq=>q.2.1) (L.map λq=>q.2.2):=by
        have hall:∀ (cs:List V) (bs:List Value) (as:List D),Vals cs bs -> ∀ q ∈ as.zip (cs.zip bs),L2.RelV q.2.1 q.2.2:=by
          intro cs bs as r
          induction r generalizing as with
          | nil=>intro q hq;simp at hq
          | cons r1 r2 ih =>
            intro q hq
            cases as with
            | nil=>simp at hq
            | cons x as =>
              rcases List.mem_cons.mp hq with rfl | hq
              · exact r1
              · exact ih as q hq
        have hq:∀ q ∈ L,L2.RelV q.2.1 q.2.2:=λq hq=>hall vs its ds rv q (pL.mem_iff.mp hq)
        clear hR2 hol eL pL
        induction L with
        | nil=>exact .nil
        | cons q L ih=>exact .cons (hq q (.head _)) (ih λq hq'=>hq q (.tail _ hq'))
      have ll:(L.map λq=>q.2.1).length <= sizeLine:=by
        rw [List.length_map,pL.length_eq,List.length_zip,List.length_zip];omega
      have I9:L2.Inv X pins σ (upd H a (.lst (L.map λq=>q.2.1))) { s with heap:=h6.update a (Obj.mapSeq λ_=>out),toks:=tk } :=
        Inv.track (s:={ s with heap:=h6,toks:=s.toks }) I4 (oD.fp nD) (λb u hb q=>(s2.2 b hb).trans q) ⟨ll,L.map λq=>q.2.2,c2,hov,by rw [hc2,<- hol]⟩
      refine wpAny_pure (hP _ ⟨.ref a,_,I9,rfl,?_⟩);have:=h a (L.map λq=>(q.1,q.2.1)) nD (by rw [<- zip3b ds vs its hlen0 hl2];exact pL.map _) (by rw [List.map_map];exact hR2);rw [List.map_map] at this;exact this
    by_cases h2':its.toArray.size < 2
    · have g1:=so X.A.in1.in1 X.xe
      simp only [if_pos h2'] at g1 ⊢;refine wpAny_bind (wpAny_mono (g1 (λp s2=>wpAny (model X.prog X.w) _ _ _ _ s2) λst tk p1 p2 p3=>tailOk _ _ st tk p1 p2 p3 λs' hs'=>⟨_,rfl,wpAny_pure ⟨_,rfl,hs'⟩⟩) (λκ s1 h1=>wpAny_bind (wpAny_mono h1 (λp s2 h2=>h2) λ_ _ z=>z)) λ_ _ z=>z)
    · have g1:=so X.A.in1.in1 X.xe
      simp only [if_neg h2'] at g1 ⊢;refine wpAny_bind (wpAny_mono (g1 (λp s2=>wpAny (model X.prog X.w) _ _ _ _ s2) λst tk p1 p2 p3=>tailOk _ _ st tk p1 p2 p3 λs' hs'=>⟨_,rfl,wpAny_pure ⟨_,rfl,hs'⟩⟩) (λκ s1 h1=>wpAny_bind (wpAny_mono h1 (λp s2 h2=>h2) λ_ _ z=>z)) λ_ _ z=>z)
theorem sorted_plain {l:Addr} {ds:List D} {vs:List V} {R:List D -> Prop} {Q:VK} (I:L2.Inv X pins σ H s) (hl:SqL X.K H l vs) (hlen0:ds.length = vs.length) (sorts:SortsP X.K H vs ds R X)
 (h:∀ a (L:List (D × V)),H a = none -> L.Perm (ds.zip vs) -> R (L.map (·.1)) -> Q (.ref a) (upd H a (.lst (L.map (·.2))))) :
 wpAny (model X.prog X.w) X.A (call (.builtin "sorted") [.ref l]) (EP X pins σ Q) X.xe s:=by
  obtain ⟨its,rv,pl,hz⟩:=I.list hl;refine sorted_col hlen0 hz (λA Q' E' _ k=>collect_list pl.isList (k its _ (I.kept (t':=s.toks) λb o q=>?_) rv) (by rw [<- rv.length];exact hz)) sorts h;have hlt:b < s.heap.objs.size:=Heap.lt_size q;rw [Heap.get?_update_ne _ _ _ _ (Nat.ne_of_lt hlt),Heap.get?_push_ne _ _ _ (Nat.ne_of_lt hlt)];exact q
end
inductive FlatsAre:List Value -> List Key -> Prop
  | nil:FlatsAre [] []
  | int (n:Int) (t:Tok) {vs ks}:FlatsAre vs ks -> FlatsAre (.int n t :: vs) (.inl n :: ks)
  | str (x:Str) (t:Tok) {vs ks}:FlatsAre vs ks -> FlatsAre (.str x t :: vs) (.inr x :: ks)
section
variable {prog:Program} {w:World} {A:Around} {E:Value -> Shared -> Prop} {s:Shared}
end
section
variable {X:Cx} {pins:List (Addr × Obj)} {σ:L2.St} {H:Hp} {s:Shared}
end
theorem reps_pairs {K:PySem.W.Frag} {G:Hp}:∀ {ds:List D} {vs:List V},Reps K G ds vs -> ∀ q ∈ ds.zip vs,Rep K G q.1 q.2
  | [],vs,_,q,hq=>by simp at hq
  | d :: ds,vs,h,q,hq=>by
    simp only [Reps] at h;obtain ⟨v,r,rfl,h1,h2⟩:=h
    rcases List.mem_cons.mp hq with rfl | hq
    · exact h1
    · exact reps_pairs h2 q hq
theorem reps_of_pairs {K:PySem.W.Frag} {G:Hp}:∀ {L:List (D × V)},(∀ q ∈ L,Rep K G q.1 q.2) -> Reps K G (L.map (·.1)) (L.map (·.2))
  | [],_=>Reps.nil
  | q :: L,h=>Reps.cons (h q (.head _)) (reps_of_pairs λq hq=>h q (.tail _ hq))
section
variable {X:Cx} {H0:Hp} {e:Expr} {es:List Expr} {tr:RA} {pos p:Pos}
end
theorem Drawn.five {s1 s2 s3 s4 s5:Int} {P:List Int -> Prop} (h:∀ a b c d e:Int,0 <= a -> a < s1 -> 0 <= b -> b < s2 -> 0 <= c -> c < s3 -> 0 <= d -> d < s4 -> 0 <= e -> e < s5 -> P [a,b,c,d,e]):∀ out,Drawn out [s1,s2,s3,s4,s5] -> P out:=λout w=>by
  cases w with | cons a0 a1 w=>cases w with | cons b0 b1 w=>cases w with | cons c0 c1 w=>cases w with | cons d0 d1 w=>cases w with | cons e0 e1 w=>cases w with | nil=>exact h _ _ _ _ _ a0 a1 b0 b1 c0 c1 d0 d1 e0 e1
section
variable {K:PySem.W.Frag} {H0:Hp} {σ:L2.St} {δ:List Sl} {G H:Hp}
end
section
variable {X:Cx} {H0:Hp} {tg:Expr} {g:RG} {body:List Stmt} {tb:RS} {pos p:Pos} {x:Str}
end
section
variable {X:Cx} {pins:List (Addr × Obj)} {σ:L2.St} {H:Hp} {s:Shared} {h':Heap}
theorem turned_all {t':Nat} {ch:List Addr} (I:L2.Inv X pins σ H s) (hf:∀ b ∈ ch,FpOk X pins H b) (k:∀ b o,b ∉ ch -> s.heap.get? b = some o -> h'.get? b = some o):L2.Inv X pins σ H { s with heap:=h',toks:=t' }:=by
  have nit:∀ b u,H b = some u -> b ∉ ch:=λb u e z=>by rw [(hf b z).1] at e;cases e
  refine I.step (g':=s.gens) (d':=s.drawn) (ch:=ch) (λb hb=>?_) (λb o _ _ hc e _=>k b o hc e) (λb o _ _ hc e _=>⟨o.slots,k b o hc e⟩) (λ_ _ _ _ n=>n)
    (λb o hc e=>⟨o,k b o hc e⟩) (λ_ _ e=>e) (λ_ _ _ e=>e) (λb ps e=>⟨#[],by rw [e];simp⟩) (λm hm=>?_) (λb u e=>?_) I.bare
  · obtain ⟨f0,f1,f2,f3,f4,f5⟩:=hf b hb
    exact ⟨f3,f1,f4,f5⟩
  · obtain ⟨o,es,ep,ho,r⟩:=hm
    exact ⟨o,es,ep,k _ o (λz=>(hf _ z).2.1 rfl) ho,r⟩
  · refine (I.hok b u e).stay (λc v hc q=>k c v ?_ q) (λ_ q=>q) λ_ _ q=>q
    rcases hc with z | z
    · rw [z];exact nit b u e
    · exact nit c _ z
end
section
variable {X:Cx} {H0:Hp}
variable {ts:List Expr} {k:Nat} {tp p pos pos2:Pos} {a b:Expr} {tr:RA} {g:RG} {tb:RS} {body:List Stmt}
end
section
variable {X:Cx} {H0:Hp} {pins:List (Addr × Obj)} {σ:L2.St} {H:Hp} {s:Shared}
def inD (x:D) (ys:List D):Bool:=ys.any λy=>eqD y x
variable {e:Expr} {es:List Expr} {tr:RA} {p pos:Pos}
variable {k i:Nat} {x:Str} {sp:Sp3} {b1 b2:List Stmt} {t u:RS} {p2 p3 p4:Pos}
end
def compX (X:Cx) (scope:Scope) (N':List Str) (s3:Shared) (H3:Hp) (C:Addr) (cl:List (Str × Addr)) (fp:List Addr):Cx :=
  { X with N:=N',s₀:=s3,H₀:=H3,env:=compEnvC scope cl C X.env,outer:=X.stack,ex:=fp,fn:=λ_=>false,pn:=[],xe:=λ_ _=>False }
section
variable {X:Cx} {pins:List (Addr × Obj)} {σ:L2.St} {H:Hp} {s:Shared} {scope:Scope} {N':List Str} {C:Addr} {cl:List (Str × Addr)} {fp:List Addr}
structure ClOk (X:Cx) (scope:Scope) (cl:List (Str × Addr)):Prop where
  sub:∀ x c,cl.lookup x = some c -> X.env.cells.lookup x = some c
  has:∀ x,((relabel scope X.env).names.lookup x = some .cell \/ (relabel scope X.env).names.lookup x = some .free) -> ∃ c,cl.lookup x = some c
theorem comp_ok (I:L2.Inv X pins σ H s) (hc:X.calm = true) (hk:scope.kind = .function) (hcl:ClOk X scope cl) (hC:s.heap.objs.size <= C) (hf:∀ b ∈ fp,FpOk X pins H b) (hb:∀ b ∈ fp,b < s.heap.objs.size) :
 (compX X scope N' s H C cl fp).Ok where
  mod:=I.ok.mod
  kind:=hk
  glob:=I.ok.glob
  blt:=I.ok.blt
  above:=hC
  inj:=λx y c e1 e2=>I.ok.inj x y c (hcl.sub x c e1) (hcl.sub y c e2)
  has:=λx h=>hcl.has x h
  cab:=λx c h=>by cases h
  hd:=λ_=>I.ok.hd hc
  frames:=I.ok.frames
  stk:=.inl rfl
  exf:=λb hb'=>⟨Nat.ne_of_lt (Nat.lt_of_lt_of_le (hb b hb') hC),λx c e=>(hf b hb').2.2.2.2.1 x c (hcl.sub x c e)⟩
  bs:=I.bs
  bsz:=Nat.le_trans I.ok.bsz I.sz
  noex:=λb o e hb'=>by
    rcases (hf b hb').2.2.2.1 with z | z
    · exact I.ok.noex b o e z
    · exact absurd (Nat.lt_of_lt_of_le (Heap.lt_size e) (Nat.le_trans I.ok.bsz z)) (Nat.lt_irrefl _)
  exfs:=λb hb' z=>by
    rcases List.mem_cons.mp (I.stkSub b z) with e | e
    · exact (hf b hb').2.1 e
    · exact (hf b hb').2.2.1 e
  funs:=I.stack
  frf:=I.stkFree
def CapOk (X:Cx) (scope:Scope) (nT:Nat) (N':List Str):Prop :=
  N'.length = nT + 1 + X.N.length /\ (∀ x,N'[nT]? = some x -> ¬ Vis (relabel scope X.env) x) /\
    ∀ (j:Nat) (x:Str),N'[nT + 1 + j]? = some x -> Vis (relabel scope X.env) x -> X.N[j]? = some x /\ X.env.kindOf x = some .cell /\ ((relabel scope X.env).names.lookup x = some .cell \/ (relabel scope X.env).names.lookup x = some .free)
theorem comp_inv {nT:Nat} {D:Addr} {h1:Heap} {t':Nat} (I:L2.Inv X pins σ H s) (hc:X.calm = true) (hk:scope.kind = .function) (hcl:ClOk X scope cl) (hC:s.heap.objs.size <= C) (hf:∀ b ∈ fp,FpOk X pins H b) (hb:∀ b ∈ fp,b < s.heap.objs.size)
 (cap:CapOk X scope nT N') (k:∀ b o,s.heap.get? b = some o -> h1.get? b = some o) (ns:h1.Ns C λ_=>none) :
 L2.Inv (compX X scope N' s H C cl fp) [] (List.replicate nT none ++ some (.ref D) :: σ) H { s with heap:=h1,toks:=t' }:=by
  refine ⟨comp_ok I hc hk hcl hC hf hb,rfl,I.bare,Un.kept k,⟨_,ns,λi x v e1 e2 hv=>?_⟩,λx c e=>?_,I.hok.fresh hC,λx c e=>I.freeC x c (hcl.sub x c e),(λp hp=>nomatch hp),I.hok.kept k,?_⟩
  · obtain ⟨c1,c2,c3⟩:=cap
    rcases Nat.lt_trichotomy i nT with z | z | z
    · rw [List.getElem?_append_left (by simpa using z),List.getElem?_replicate,if_pos z] at e2
      cases e2
    · subst z
      exact absurd hv (c2 x e1)
    · obtain ⟨j,rfl⟩:∃ j,i = nT + 1 + j:=⟨i - nT - 1,by omega⟩
      rw [List.getElem?_append_right (by simp;omega),List.length_replicate,show nT + 1 + j - nT = j + 1 by omega,List.getElem?_cons_succ] at e2;obtain ⟨d1,d2,d3⟩:=c3 j x e1 hv;obtain ⟨m,_,hl⟩:=I.loc;obtain ⟨u,ru,lk⟩:=hl j x v d1 e2 (Or.inr (Or.inl d2));refine ⟨u,ru,.inr ⟨d3,?_⟩⟩;obtain ⟨c,ec⟩:=hcl.has x d3;refine ⟨c,ec,?_⟩
      rcases lk with ⟨q,_⟩ | ⟨_,c',ec',hcell⟩
      · rw [d2] at q;cases q
      · have e3:=hcl.sub x c ec
        rw [ec'] at e3;cases e3;obtain ⟨o,ho,hd⟩:=hcell;exact ⟨o,k _ _ ho,hd⟩
  · obtain ⟨v,o,ho,hd⟩:=I.cell x c (hcl.sub x c e)
    exact ⟨v,o,k _ _ ho,hd⟩
  · rw [List.length_append,List.length_replicate,List.length_cons,I.len]
    show nT + (X.N.length + 1) = N'.length
    rw [cap.1];omega
theorem comp_back {nT:Nat} {σ':L2.St} {H':Hp} {s':Shared} {h':Heap} {pins':List (Addr × Obj)} (I:L2.Inv X pins σ H s) (hC:s.heap.objs.size <= C) (hf:∀ b ∈ fp,FpOk X pins H b) (I':L2.Inv (compX X scope N' s H C cl fp) pins' σ' H' s') (hs:Heap.SameBut C s'.heap h') (t':Nat) :
 L2.Inv X pins σ H' { s' with heap:=h',toks:=t' }:=by
  have hn:H' C = none:=I'.free;have k:∀ b u,b ≠ C -> s'.heap.get? b = some u -> h'.get? b = some u:=λb u hb e=>hs.extBut b u hb e
  have u2:Un (frs X.stack) fp H H' s.heap h':=by
    have u:=I'.base;have ne:∀ b o,s.heap.get? b = some o -> b ≠ C:=λb o e=>Nat.ne_of_lt (Nat.lt_of_lt_of_le (Heap.lt_size e) hC)
    refine ⟨λb o e n a c=>k b o (ne b o e) (u.keep b o e n a c),λb o e n a c=>?_,u.free,λb o e c=>?_,u.tups,u.frzs,u.tbls⟩
    · obtain ⟨sl,z⟩:=u.slot b o e n a c
      exact ⟨sl,k b _ (ne b o e) z⟩
    · obtain ⟨o',z⟩:=u.there b o e c
      exact ⟨o',k b _ (ne b o e) z⟩
  have hok:HOk X.prog X.w H' h':=λb o e=>(I'.hok b o e).stay (λc v hc q=>k c v (by
    rcases hc with z | z
    · rw [z];exact ne_of_none e hn
    · exact ne_of_none z hn) q) (λ_ q=>q) λ_ _ q=>q
  have r:=I.call (g':=s'.gens) (t':=t') (d':=s'.drawn) (ch:=fp) u2 hok I'.bare (λb hb=>by
    obtain ⟨f0,f1,f2,f3,f4,f5⟩:=hf b hb
    exact ⟨f3,f1,f4,f5⟩)
  have e:({ s' with heap:=h',toks:=t' }:Shared) = { s with heap:=h',gens:=s'.gens,drawn:=s'.drawn,toks:=t' }:=by
    have:=I'.os;cases s';cases s;simp only [compX] at this;subst this;rfl
  rw [e];exact r
end
section
variable {prog:Program} {w:World} {A:Around} {R:Result -> Shared -> Prop} {s:Shared}
theorem compLoop_gen {elt target iter:Expr} {ifs:List Expr} {scope:Scope} {pos:Pos} {it acc:Value} {env:Env} (I:Nat -> Shared -> Prop)
 (turn:∀ n s,I n s -> wpAny (model prog w) A (pyNext it) (λr s1=>match r with
      | none=>R (.ok .next) s1
      | some v=>wpAny (model prog w) A (letOwnedTupleGo target it v) (λ_ s1'=>wpAny (model prog w) A (assign target env v) (λ_ s2 =>
 wpAny (model prog w) A (forIn ifs true λc r=>if r = true then do let ok <- isTrue c env (eval c env);pure (ForInStep.yield ok) else pure (ForInStep.yield r)) (λok s3 =>
 if ok = true then wpAny (model prog w) A (eval elt env) (λx s4 =>
 wpAny (model prog w) A (call (.builtin "list.append") [acc,x]) (λ_ s5=>∃ m,m < n /\ I m s5) (notedBy (model prog w) A env λe s'=>R (.error e) s') s4) (notedBy (model prog w) A env λe s'=>R (.error e) s') s3
 else ∃ m,m < n /\ I m s3) (notedBy (model prog w) A env λe s'=>R (.error e) s') s2) (notedBy (model prog w) A env λe s'=>R (.error e) s') s1') (notedBy (model prog w) A env λe s'=>R (.error e) s') s1) (notedBy (model prog w) A env λe s'=>R (.error e) s') s)
 (n:Nat) (h:I n s):codeAny (model prog w) A (.compLoop (.ListComp elt [⟨target,iter,ifs,0⟩] scope pos) 0 it acc env) R s:=by
  refine codeAny_loop rfl I (λn s hI=>?_) n h
  show wpAny _ A ((compTurn (.ListComp elt [⟨target,iter,ifs,0⟩] scope pos) 0 it acc env).onRaise (λx=>do noteFrame x env;theTreesLotGoes x)) _ _ s
  refine wpAny_noted ?_;rw [compTurn_list];refine wpAny_bind (wpAny_standAt (wpAny_bind (wpAny_mono (turn n s hI) (λr s1 h1=>?_) λ_ _ h'=>h')))
  cases r with
  | none=>exact wpAny_pure h1
  | some v =>
    refine wpAny_bind (wpAny_mono h1 (λ_ s1' h1'=>?_) λ_ _ h'=>h');refine wpAny_bind (wpAny_mono h1' (λ_ s2 h2=>wpAny_bind (wpAny_mono h2 (λok s3 h3=>?_) λ_ _ h'=>h')) λ_ _ h'=>h')
    cases ok with
    | false=>exact wpAny_pure ⟨rfl,h3⟩
    | true =>
      exact wpAny_bind (wpAny_bind (wpAny_mono h3 (λx s4 h4=>wpAny_bind (wpAny_mono h4 (λ_ s5 h5=>wpAny_pure (wpAny_pure ⟨rfl,h5⟩)) λ_ _ h'=>h')) λ_ _ h'=>h'))
end
def PIf (X:Cx) (ifs:List Expr) (t:TT):Prop :=
  ∀ (pins:List (Addr × Obj)) (s:Shared) (σ:L2.St) (H:Hp) (Q:Bool -> Hp -> Prop),L2.Inv X pins σ H s -> t σ H Q -> wpAny (model X.prog X.w) X.A (forIn ifs true λc r=>if r = true then do let ok <- isTrue c X.env (eval c X.env);pure (ForInStep.yield ok) else pure (ForInStep.yield r)) (TP X pins σ Q) X.xe s
theorem pif_nil {X:Cx}:PIf X [] (λ_ H Q=>Q true H):=λpins s σ H Q I h=>wpAny_tests_nil ⟨H,I,h⟩
theorem pif_one {X:Cx} {c:Expr} {t:TT} (h:PT X c t):PIf X [c] t:=λpins s σ H Q I hw=>wpAny_tests_one (h pins s σ H Q I hw)
def CompW (J:It) (D:Addr) (g:TG) (tc:TT) (tel:TE) (σ0:L2.St) (H0:Hp) (QD:Hp -> Prop):Prop :=
  ∃ W:Nat -> Nat -> L2.St -> Hp -> Prop,(∃ m,W 0 m σ0 H0) /\ ∀ i m σ H,W i m σ H ->
    (J.stop i H /\ QD H) \/ (J.go i H /\ ∃ N:L2.St -> Hp -> Prop,(∀ σ' H',N σ' H' -> ∃ m',m' < m /\ W (i + 1) m' σ' H') /\
      ∀ x H',J.yld i H x H' -> g x σ H' λσ2 H2=>tc σ2 H2 λb H3=>if b = true then tel σ2 H3 λy H4=>∃ zs,H4 D = some (.lst zs) /\ zs.length < sizeLine /\ N σ2 (upd H4 D (.lst (zs ++ [y]))) else N σ2 H3)
section
variable {X:Cx} {pins:List (Addr × Obj)} {σ:L2.St} {H:Hp} {s:Shared} {scope:Scope} {N':List Str} {cl:List (Str × Addr)} {fp:List Addr} {target iter elt:Expr} {ifs:List Expr} {pos:Pos} {g:TG} {tc:TT} {tel:TE} {nT:Nat} {J:It} {it D:Addr} {tn:Nat -> Heap -> Prop}
theorem comp_block {E:Value -> Shared -> Prop} (I:L2.Inv X pins σ H s) (hc:X.calm = true) (hk:scope.kind = .function) (hcell:∀ y ∈ scope.names,y.2 ≠ .cell) (hcl:ClOk X scope cl) (cap:CapOk X scope nT N')
 (T:Turn X.prog X.w X.K target J fp it tn) (st:tn 0 s.heap) (hf:∀ b ∈ fp,FpOk X pins H b)
 (hg:∀ s3 H3 C cl fp,PG (compX X scope N' s3 H3 C cl fp) target g) (hif:∀ s3 H3 C cl fp,PIf (compX X scope N' s3 H3 C cl fp) ifs tc) (hel:∀ s3 H3 C cl fp,PE (compX X scope N' s3 H3 C cl fp) elt tel)
 {QD:Hp -> Prop} (hw:CompW J D g tc tel (List.replicate nT none ++ some (.ref D) :: σ) H QD) {RR:Addr -> Result -> Shared -> Prop}
 (hRR:∀ C s' H' σ' pins',s.heap.objs.size <= C -> L2.Inv (compX X scope N' s H C cl fp) pins' σ' H' s' -> QD H' -> RR C (.ok .next) s') :
 wpAny (model X.prog X.w) X.A (newFunctionEnv scope X.env.globals cl [] X.env.qual none .none (some X.env)) (λcenv s4 =>
 codeAny (model X.prog X.w) X.A (.compStart (.ListComp elt [⟨target,iter,ifs,0⟩] scope pos) 0 (.ref it) (.ref D) { cenv with scope:=relabel scope X.env }) (RR cenv.locals) s4) E s:=by
  refine wpAny_newFunctionEnv hcell (by intro y hy;simp at hy) (λh1 ns sb=>?_) hk
  try dsimp only at ns sb ⊢
  have hC:s.heap.objs.size <= s.heap.objs.size:=Nat.le_refl _;have k:∀ b o,s.heap.get? b = some o -> h1.get? b = some o:=λb o e=>sb.extBut b o (Nat.ne_of_lt (Heap.lt_size e)) (Heap.get?_push_of_some _ e)
  have hb:∀ b ∈ fp,b < s.heap.objs.size:=λb hb=>by obtain ⟨o,e,_⟩:=T.obj _ _ st b hb;exact Heap.lt_size e
  have I0:L2.Inv (compX X scope N' s H s.heap.objs.size cl fp) [] (List.replicate nT none ++ some (.ref D) :: σ) H { s with heap:=h1,toks:=s.toks + ([]:List (Str × Value)).length } :=
    comp_inv I hc hk hcl hC hf hb cap k ns
  have st1:tn 0 h1:=T.keep _ _ _ st λb _ o e=>k b o e
  obtain ⟨W,⟨m0,w0⟩,turn⟩:=hw;have stat:∀ {H':Hp},(∀ b ∈ fp,H' b = none) -> ∀ b ∈ fp,FpOk (compX X scope N' s H s.heap.objs.size cl fp) [] H' b:=λhn b hb' =>
    ⟨hn b hb',Nat.ne_of_lt (hb b hb'),I0.ok.exfs b hb',.inl hb',(I0.ok.exf b hb').2,λp hp=>nomatch hp⟩
  have loop:codeAny (model X.prog X.w) X.A (.compLoop (.ListComp elt [⟨target,iter,ifs,0⟩] scope pos) 0 (.ref it) (.ref D) (compEnvC scope cl s.heap.objs.size X.env)) (RR s.heap.objs.size) { s with heap:=h1,toks:=s.toks + ([]:List (Str × Value)).length }:=by
    refine compLoop_gen (λn s'=>∃ i σ' H',L2.Inv (compX X scope N' s H s.heap.objs.size cl fp) [] σ' H' s' /\ tn i s'.heap /\ (∀ b ∈ fp,H' b = none) /\ W i n σ' H') ?_ m0 ⟨0,_,H,I0,st1,λb hb'=>(hf b hb').1,w0⟩;rintro n s3 ⟨i,σ3,H3,I3,st3,fr3,w3⟩
    rcases turn i n σ3 H3 w3 with ⟨stop,qn⟩ | ⟨go,N,hN,step⟩
    · refine thn (T.done (compX X scope N' s H s.heap.objs.size cl fp) rfl rfl rfl hc i [] s3 σ3 H3 _ I3 (stat fr3) st3 stop) λr s4 ⟨hr,I4⟩=>?_
      subst hr;exact hRR _ s4 H3 σ3 [] hC I4 qn
    · refine thn (T.item (compX X scope N' s H s.heap.objs.size cl fp) rfl rfl rfl hc i [] s3 σ3 H3 _ I3 (stat fr3) st3 go) λr s4 ⟨u,hr,h4⟩=>?_
      subst hr;refine thn h4 λ_ s5 ⟨x,H5,I5,r5,y5,st5,fr5⟩=>?_
      have I5':=I5.pinned (stat fr5) (T.obj _ _ st5);refine wpAny_mono (hg s H s.heap.objs.size cl fp _ s5 σ3 H5 x u _ I5' r5 (step x H5 y5)) (λ_ s6 ⟨σ6,H6,I6,q6⟩=>?_) λ_ _ z=>z.elim
      have again:∀ {s7:Shared} {σ7:L2.St} {H7:Hp},L2.Inv (compX X scope N' s H s.heap.objs.size cl fp) ([] ++ pinsAt fp s5.heap) σ7 H7 s7 -> N σ7 H7 -> ∃ m,m < n /\ ∃ i σ' H',L2.Inv (compX X scope N' s H s.heap.objs.size cl fp) [] σ' H' s7 /\ tn i s7.heap /\ (∀ b ∈ fp,H' b = none) /\ W i m σ' H':=λ{s7 σ7 H7} I7 n7=>by
        obtain ⟨m',hm,w7⟩:=hN σ7 H7 n7;refine ⟨m',hm,i + 1,σ7,H7,I7.unpinned,T.keep _ _ _ st5 λb hb' o e=>(I7.pin (b,o) (List.mem_append_right _ (List.mem_append_right _ (mem_pinsAt hb' e)))).1,λb hb'=>?_,w7⟩;obtain ⟨o,e,d⟩:=T.obj _ _ st5 b hb';exact (I7.pin (b,o) (List.mem_append_right _ (List.mem_append_right _ (mem_pinsAt hb' e)))).2.1
      refine wpAny_mono (hif s H s.heap.objs.size cl fp _ s6 σ6 H6 _ I6 q6) (λok s7 ⟨H7,I7,q7⟩=>?_) λ_ _ z=>z.elim
      cases ok with
      | false =>
        rw [if_neg Bool.false_ne_true] at q7 ⊢;exact again I7 q7
      | true =>
        rw [if_pos rfl] at q7 ⊢;refine wpAny_mono (hel s H s.heap.objs.size cl fp _ s7 σ6 H7 _ I7 q7) (λu8 s8 ⟨y,H8,I8,r8,zs,hz,hl,q8⟩=>?_) λ_ _ z=>z.elim
        refine wpAny_mono (mt_append (X:=compX X scope N' s H s.heap.objs.size cl fp) _ s8 σ6 H8 (.ref D) [y] (.ref D) [u8] (λv H'=>H' = upd H8 D (.lst (zs ++ [y]))) I8 rfl (.cons r8 .nil) ⟨D,zs,y,rfl,rfl,hz,hl,rfl⟩) (λ_ s9 ⟨v9,H9,I9,r9,e9⟩=>?_) λ_ _ z=>z.elim
        subst e9;exact again I9 q8
  exact codeAny_compStart_list loop (T.self _ 0 _ _ _ st1 loop)
end
def clOf (env:Env):List (Str × NameKind) -> List (Str × Addr) -> List (Str × Addr)
  | [],cs=>cs
  | (n,k) :: r,cs=>clOf env r (if (k == .free) = true then (match env.cells.lookup n with
    | some c=>(n,c) :: cs
    | none=>cs) else cs)
theorem closure_eq {scope:Scope} {env:Env} (h:∀ x ∈ scope.names,x.2 = .free -> ∃ c,env.cells.lookup x.1 = some c):closureFor scope env = pure (clOf env scope.names []):=by
  have key:∀ (names:List (Str × NameKind)) (cs:List (Str × Addr)),(∀ x ∈ names,x.2 = .free -> ∃ c,env.cells.lookup x.1 = some c) ->
      (forIn names cs (λ(x:Str × NameKind) (r:List (Str × Addr))=>match x with
        | (name,kind)=>if (kind == NameKind.free) = true then (do let c <- cellOf env name;pure (ForInStep.yield ((name,c) :: r))) else (pure (ForInStep.yield r))):Sem (List (Str × Addr))) = pure (clOf env names cs):=by
    intro names
    induction names with
    | nil=>intro cs _;rfl
    | cons p r ih =>
      intro cs hp;obtain ⟨n,k⟩:=p;rw [List.forIn_cons]
      cases hk:(k == NameKind.free) with
      | false =>
        simp only [hk,Bool.false_eq_true,if_false,clOf,pure_bind];exact ih cs λx hx=>hp x (.tail _ hx)
      | true =>
        obtain ⟨c,e⟩:=hp (n,k) (.head _) (by simpa using hk);simp only [hk,if_true,clOf,cellOf,e,pure_bind];exact ih _ λx hx=>hp x (.tail _ hx)
  simp only [closureFor];have:=key scope.names [] h;simp only at this ⊢;rw [this];rfl
theorem clOf_sub {env:Env}:∀ (names:List (Str × NameKind)) (cs:List (Str × Addr)),(∀ x c,cs.lookup x = some c -> env.cells.lookup x = some c) -> ∀ x c,(clOf env names cs).lookup x = some c -> env.cells.lookup x = some c
  | [],cs,h=>h
  | (n,k) :: r,cs,h=>by
    simp only [clOf];refine clOf_sub r _ ?_;intro x c e
    split at e
    · split at e
      · rename_i c' e'
        rw [List.lookup_cons] at e
        cases hx:x == n with
        | true =>
          rw [hx] at e;have : x = n:=by simpa using hx
          cases e;rw [this];exact e'
        | false =>
          rw [hx] at e;exact h x c e
      · exact h x c e
    · exact h x c e
theorem clOf_keep {env:Env}:∀ (names:List (Str × NameKind)) (cs:List (Str × Addr)) (x:Str),(∃ c,cs.lookup x = some c) -> ∃ c,(clOf env names cs).lookup x = some c
  | [],cs,x,h=>h
  | (n,k) :: r,cs,x,h=>by
    simp only [clOf];refine clOf_keep r _ x ?_
    split
    · split
      · rw [List.lookup_cons]
        cases hx:x == n with
        | true=>exact ⟨_,rfl⟩
        | false=>exact h
      · exact h
    · exact h
theorem clOf_has {env:Env}:∀ (names:List (Str × NameKind)) (cs:List (Str × Addr)) (x:Str),(∃ c,env.cells.lookup x = some c) -> (x,NameKind.free) ∈ names -> ∃ c,(clOf env names cs).lookup x = some c
  | [],cs,x,_,h=>nomatch h
  | (n,k) :: r,cs,x,he,h=>by
    simp only [clOf]
    rcases List.mem_cons.mp h with e | h
    · cases e
      obtain ⟨c,ec⟩:=he;refine clOf_keep r _ _ ?_;rw [if_pos (by rfl),ec];exact ⟨c,by simp⟩
    · exact clOf_has r _ x he h
theorem lookup_mem {α:Type} {names:List (Str × α)} {x:Str} {k:α} (h:names.lookup x = some k):(x,k) ∈ names:=by
  induction names with
  | nil=>cases h
  | cons p r ih =>
    obtain ⟨n,k'⟩:=p;rw [List.lookup_cons] at h
    cases hx:x == n with
    | true =>
      rw [hx] at h;have : x = n:=by simpa using hx
      cases h;rw [this];exact .head _
    | false =>
      rw [hx] at h;exact .tail _ (ih h)
theorem cl_ok {X:Cx} {scope:Scope} (ok:X.Ok) (hcell:∀ y ∈ scope.names,y.2 ≠ .cell) (hfree:∀ x ∈ scope.names,x.2 = .free -> X.env.kindOf x.1 = some .cell) :
 closureFor scope X.env = pure (clOf X.env scope.names []) /\ ClOk X scope (clOf X.env scope.names []):=by
  have hh:∀ x ∈ scope.names,x.2 = .free -> ∃ c,X.env.cells.lookup x.1 = some c:=λx hx e=>ok.has x.1 (.inl (hfree x hx e))
  refine ⟨closure_eq hh,clOf_sub _ _ (λx c e=>by cases e),λx h=>?_⟩;have hm:(x,NameKind.free) ∈ scope.names:=by
    rcases h with h | h
    · obtain ⟨⟨n,k⟩,hn,e⟩:=List.mem_map.mp (lookup_mem h)
      simp only at e
      split at e
      · rename_i q
        cases e;have : k = .free:=by simp at q;exact q.1.1
        rw [<- this];exact hn
      · cases e
        exact absurd rfl (hcell _ hn)
    · obtain ⟨⟨n,k⟩,hn,e⟩:=List.mem_map.mp (lookup_mem h)
      simp only at e
      split at e
      · cases e
      · cases e;exact hn
  exact clOf_has _ _ x (hh (x,.free) hm rfl) hm
structure CompOk (X:Cx) (scope:Scope) (nT:Nat) (N':List Str):Prop where
  calm:X.calm = true
  kind:scope.kind = .function
  cell:∀ y ∈ scope.names,y.2 ≠ .cell
  free:∀ x ∈ scope.names,x.2 = .free -> X.env.kindOf x.1 = some .cell
  loc:∀ x ∈ scope.names,x.2 = .local -> scope.names.lookup x.1 = some .local
  cap:CapOk X scope nT N'
section
variable {X:Cx} {scope:Scope} {N':List Str} {target iter elt:Expr} {ifs:List Expr} {pos:Pos} {g:TG} {tc:TT} {tel:TE} {nT:Nat} {wi:TI}
def tComp (nT:Nat) (wi:TI) (g:TG) (tc:TT) (tel:TE):TE:=λσ H Q=>wi σ H λJ H1=>∀ D,H1 D = none -> CompW J D g tc tel (List.replicate nT none ++ some (.ref D) :: σ) (upd H1 D (.lst [])) (λH'=>Q (.ref D) H')
theorem pe_comp (ok:CompOk X scope nT N') (hi:PI X target iter wi) (hg:∀ s3 H3 C cl fp,PG (compX X scope N' s3 H3 C cl fp) target g) (hif:∀ s3 H3 C cl fp,PIf (compX X scope N' s3 H3 C cl fp) ifs tc) (hel:∀ s3 H3 C cl fp,PE (compX X scope N' s3 H3 C cl fp) elt tel)
 (hs:∀ x,foldedSetIterable iter X.env x = pure x):PE X (.ListComp elt [⟨target,iter,ifs,0⟩] scope pos) (tComp nT wi g tc tel):=by
  intro pins s σ H Q I h;obtain ⟨hclos,hcl⟩:=cl_ok I.ok ok.cell ok.free;rw [eval_ListComp];refine wpAny_comprehension_free (use:=none) rfl hs hclos ok.kind ok.loc (thn (hi pins s σ H _ I h) λv s1 h1=>thn h1 λitv s2 h2=>?_);obtain ⟨it,fp,tn,J,H2,e,I2,T,st2,f2,W⟩:=h2;subst e;refine wpAny_newObj_type ?_;have I3:=I2.lnew (its:=[]) (t':=s2.toks) .nil (Nat.zero_le _);have kp:∀ b o,s2.heap.get? b = some o -> (s2.heap.push { cls:=.type "list", dict:=none,data:=.seq ([]:List Value).toArray }).get? b = some o:=λb o e=>Heap.get?_push_of_some _ e
  have f3:∀ b ∈ fp,FpOk X pins (upd H2 s2.heap.objs.size (.lst [])) b:=λb hb=>by
    obtain ⟨o,e,_⟩:=T.obj _ _ st2 b hb;exact ⟨by rw [upd_ne (Nat.ne_of_lt (Heap.lt_size e))];exact (f2 b hb).1,(f2 b hb).2⟩
  refine comp_block (iter:=iter) (pos:=pos) (RR:=λC=>compPost (model X.prog X.w) X.A X.xe none (EP X pins σ Q) (.ref s2.heap.objs.size) C) I3 ok.calm ok.kind ok.cell hcl ok.cap T (T.keep _ _ _ st2 λb _ o e=>kp b o e) f3 hg hif hel (W _ (I2.hok.fresh (Nat.le_refl _))) ?_;intro C s' H' σ' pins' hC I' q;obtain ⟨m,ns,_⟩:=I'.loc;refine ⟨m,ns,λh' hsb=>⟨.ref s2.heap.objs.size,H',?_,rfl,q⟩⟩;exact comp_back (nT:=nT) I3 hC f3 I' hsb s'.toks
theorem ps_comp {y:Str} {py spos:Pos} {gy:TG} (ok:CompOk X scope nT N') (hi:PI X target iter wi) (hg:∀ s3 H3 C cl fp,PG (compX X scope N' s3 H3 C cl fp) target g) (hif:∀ s3 H3 C cl fp,PIf (compX X scope N' s3 H3 C cl fp) ifs tc) (hel:∀ s3 H3 C cl fp,PE (compX X scope N' s3 H3 C cl fp) elt tel)
 (hs:∀ x,foldedSetIterable iter X.env x = pure x) (hy:PG X (.Name y py) gy) (hsw:swapsWith (.ListComp elt [⟨target,iter,ifs,0⟩] scope pos) (some (.Name y py)) spos.line X.env = pure true) :
 PS X (.Assign [.Name y py] (.ListComp elt [⟨target,iter,ifs,0⟩] scope pos) spos) (λD σ H=>tComp nT wi g tc tel σ H λv H'=>gy v σ H' D.nx):=by
  intro pins s σ H D I h;obtain ⟨hclos,hcl⟩:=cl_ok I.ok ok.cell ok.free;rw [exec_Assign_Name_used _ _ _ _ hsw];refine wpAny_bind (wpAny_standAt (wpAny_bind ?_))
  show wpAny _ X.A (do let _ <- comprehension (.ListComp elt [⟨target,iter,ifs,0⟩] scope pos) scope X.env _ (newList []) false (eval iter X.env) (some (assign (.Name y py) X.env))) _ _ s
  refine wpAny_bind (wpAny_mono (wpAny_comprehension_free (use:=some (assign (.Name y py) X.env)) (Q:=λ_ s'=>SP X pins D .next s') rfl hs hclos ok.kind ok.loc
    (thn (hi pins s σ H _ I h) λv s1 h1=>thn h1 λitv s2 h2=>?_)) (λ_ s' hq=>wpAny_pure (wpAny_pure hq)) λ_ _ e=>e)
  obtain ⟨it,fp,tn,J,H2,e,I2,T,st2,f2,W⟩:=h2;subst e;refine wpAny_newObj_type ?_;have I3:=I2.lnew (its:=[]) (t':=s2.toks) .nil (Nat.zero_le _);have kp:∀ b o,s2.heap.get? b = some o -> (s2.heap.push { cls:=.type "list", dict:=none,data:=.seq ([]:List Value).toArray }).get? b = some o:=λb o e=>Heap.get?_push_of_some _ e
  have f3:∀ b ∈ fp,FpOk X pins (upd H2 s2.heap.objs.size (.lst [])) b:=λb hb=>by
    obtain ⟨o,e,_⟩:=T.obj _ _ st2 b hb;exact ⟨by rw [upd_ne (Nat.ne_of_lt (Heap.lt_size e))];exact (f2 b hb).1,(f2 b hb).2⟩
  refine comp_block (iter:=iter) (pos:=pos) (RR:=λC=>compPost (model X.prog X.w) X.A X.xe (some (assign (.Name y py) X.env)) (λ_ s'=>SP X pins D .next s') (.ref s2.heap.objs.size) C) I3 ok.calm ok.kind ok.cell hcl ok.cap T (T.keep _ _ _ st2 λb _ o e=>kp b o e) f3 hg hif hel (W _ (I2.hok.fresh (Nat.le_refl _))) ?_;intro C s' H' σ' pins' hC I' q;obtain ⟨m,⟨oC,es,ep,hoC,hdC,rC⟩,_⟩:=I'.loc;have hoC:s'.heap.get? C = some oC:=hoC;have I4:L2.Inv X pins σ H' s':=by
    have:=comp_back (nT:=nT) I3 hC f3 I' (Heap.SameBut.refl _ _) s'.toks;exact this
  have hCn:H' C = none:=I'.free;have hCl:C ≠ X.env.locals:=λz=>by
    have:=I3.lt;rw [<- z] at this;exact absurd (Nat.lt_of_lt_of_le this hC) (Nat.lt_irrefl _)
  have hCf:FpOk X pins H' C:=by
    refine ⟨hCn,hCl,I3.nofs hC,.inr (Nat.le_trans I3.sz hC),λx c e z=>?_,λp hp z=>?_⟩
    · obtain ⟨v,q⟩:=I3.cell x c e
      exact absurd (Nat.lt_of_lt_of_le q.lt (by rw [z];exact hC)) (Nat.lt_irrefl _)
    · exact absurd (Nat.lt_of_lt_of_le (Heap.lt_size (I3.pin p hp).1) (by rw [z];exact hC)) (Nat.lt_irrefl _)
  have I5:=I4.pinned (fp:=[C]) (λb hb=>by have : b = C:=(by simpa using hb);rw [this];exact hCf) (λb hb=>by
    have : b = C:=by simpa using hb
    rw [this];exact ⟨oC,hoC,λv z=>by rw [hdC] at z;cases z⟩)
  refine thn (hy _ s' σ H' (.ref s2.heap.objs.size) _ _ I5 rfl q) λ_ s6 ⟨σ6,H6,I6,q6⟩=>?_
  have pc:=I6.pin (C,oC) (List.mem_append_right _ (List.mem_append_right _ (mem_pinsAt (fp:=[C]) (by simp) hoC)));refine ⟨m,⟨oC,es,ep,pc.1,hdC,rC⟩,λh' hsb=>⟨σ6,H6,?_,q6⟩⟩;have I7:=I6.unpinned
  exact turned_all (t':=s6.toks) I7 (ch:=[C]) (λb hb=>by
    have : b = C:=by simpa using hb
    rw [this];exact ⟨pc.2.1,hCf.2⟩) λb o hb e=>hsb.extBut b o (by simpa using hb) e
end
def NoOwn (pre:List Sl):Prop:=∀ l ∈ pre,¬ l.mine
section
variable {K:PySem.W.Frag} {H0:Hp} {σ:L2.St} {δ:List Sl} {G H:Hp}
theorem Hs.un (h:Hs K H0 σ δ G H):Hs K H0 (none :: σ) (.un :: δ) G H:=by
  have a0:∀ p,¬ At (none :: σ) (.un :: δ) 0 p:=λp a=>(at_zero.mp a).1
  refine ⟨by simp [h.len],h.base,λb=>?_,λi d e=>?_,λi d e=>?_,λi p d e=>?_,λi j p a1 a2=>?_⟩
  · rcases h.ex b with ⟨z1,z2⟩ | ⟨z1,j,z2⟩
    · refine .inl ⟨z1,λi a=>?_⟩
      cases i with
      | zero=>exact a0 b a
      | succ i=>exact z2 i (at_cons.mp a)
    · exact .inr ⟨z1,j + 1,at_cons.mpr z2⟩
  · cases i with
    | zero=>cases e
    | succ i=>exact h.fr i d e
  · cases i with
    | zero=>cases e
    | succ i=>exact h.ow i d e
  · cases i with
    | zero=>cases e
    | succ i=>exact h.lk i p d e
  · cases i with
    | zero=>exact absurd a1 (a0 p)
    | succ i =>
      cases j with
      | zero=>exact absurd a2 (a0 p)
      | succ j=>rw [h.ne i j p (at_cons.mp a1) (at_cons.mp a2)]
theorem Hs.uns (h:Hs K H0 σ δ G H):∀ n:Nat,Hs K H0 (List.replicate n none ++ σ) (List.replicate n .un ++ δ) G H
  | 0=>h
  | n + 1=>(Hs.uns h n).un
theorem Hs.drops:∀ {ps:L2.St} {pre:List Sl},ps.length = pre.length -> NoOwn pre -> Hs K H0 (ps ++ σ) (pre ++ δ) G H -> Hs K H0 σ δ G H
  | [],[],_,_,h=>h
  | p :: ps,l :: pre,e,no,h=>Hs.drops (by simpa using e) (λx hx=>no x (.tail _ hx)) (Hs.drop h (no l (.head _)))
theorem noOwn_un (n:Nat):NoOwn (List.replicate n .un):=λl hl=>by rw [List.eq_of_mem_replicate hl];exact λz=>z
theorem NoOwn.set {pre:List Sl} (h:NoOwn pre) (i:Nat) (d:D):NoOwn (pre.set i (.fr d)):=λl hl=>by
  rcases List.mem_or_eq_of_mem_set hl with z | z
  · exact h l z
  · subst z;exact λz=>z
end
abbrev RGp:=D -> List Sl -> (List Sl -> Prop) -> Prop
abbrev RGsp:=List D -> List Sl -> (List Sl -> Prop) -> Prop
def liftGp (K:PySem.W.Frag) (H0:Hp) (nT:Nat) (g:RGp):TG:=λv σ' H Q=>∃ (ps σ:L2.St) (pre δ:List Sl) (G:Hp) (d:D) (Qd:List Sl -> Prop),σ' = ps ++ σ /\ ps.length = nT /\ pre.length = nT /\ NoOwn pre /\ Hs K H0 σ' (pre ++ δ) G H /\ Rep K G d v /\ g d pre Qd /\
  ∀ ps' pre',ps'.length = nT -> pre'.length = nT -> NoOwn pre' -> Hs K H0 (ps' ++ σ) (pre' ++ δ) G H -> Qd pre' -> Q (ps' ++ σ) H
def liftGsp (K:PySem.W.Frag) (H0:Hp) (nT:Nat) (g:RGsp):TGs:=λvs σ' H Q=>∃ (ps σ:L2.St) (pre δ:List Sl) (G:Hp) (ds:List D) (Qd:List Sl -> Prop),σ' = ps ++ σ /\ ps.length = nT /\ pre.length = nT /\ NoOwn pre /\ Hs K H0 σ' (pre ++ δ) G H /\ Reps K G ds vs /\ g ds pre Qd /\
  ∀ ps' pre',ps'.length = nT -> pre'.length = nT -> NoOwn pre' -> Hs K H0 (ps' ++ σ) (pre' ++ δ) G H -> Qd pre' -> Q (ps' ++ σ) H
def PGp (X:Cx) (H0:Hp) (nT:Nat) (tg:Expr) (g:RGp):Prop:=PG X tg (liftGp X.K H0 nT g)
def PGsp (X:Cx) (H0:Hp) (nT:Nat) (tg:List Expr) (g:RGsp):Prop:=PGs X tg (liftGsp X.K H0 nT g)
section
variable {X:Cx} {H0:Hp} {nT:Nat} {x:Str} {pos:Pos} {e:Expr} {es:List Expr}
def gpSet (i:Nat) (d:D) (pre:List Sl) (Q:List Sl -> Prop):Prop:=Q (pre.set i (.fr d))
theorem gp_name (i:Nat) (hlt:i < nT) (hN:X.N.Nodup) (hi:X.N[i]? = some x:=by rfl) (hx:Loc X.env.scope x:=by first | exact Or.inl rfl | exact Or.inr rfl) (hf:X.fn x = true \/ X.env.scope.names.lookup x = some .local:=by first | exact .inl rfl | exact .inr rfl | assumption):PGp X H0 nT (.Name x pos) (gpSet i) :=
  PG.weak (pg_name hN hi hx hf) λv σ' H Q ⟨ps,σ,pre,δ,G,d,Qd,es,l1,l2,no,hs,r,h,k⟩=>by
    subst es;have hp:i < pre.length:=by omega
    have hq:i < ps.length:=by omega
    have h1:=hs.put0 (i:=i) (l:=pre[i]) (d:=d) (v:=v) (by rw [List.getElem?_append_left hp,List.getElem?_eq_getElem hp]) (no _ (List.getElem_mem hp)) r;rw [List.set_append_left _ _ hp,List.set_append_left _ _ hq] at h1;have h2:=k (ps.set i (some v)) (pre.set i (.fr d)) (by rw [List.length_set];exact l1) (by rw [List.length_set];exact l2) (no.set i d) h1 h;rw [<- List.set_append_left _ _ hq] at h2;exact h2
def gpNil (ds:List D) (pre:List Sl) (Q:List Sl -> Prop):Prop:=match ds with
  | []=>Q pre
  | _=>False
def gpCons (g:RGp) (r:RGsp) (ds:List D) (pre:List Sl) (Q:List Sl -> Prop):Prop:=match ds with
  | d :: ds=>g d pre λp1=>r ds p1 Q
  | []=>False
theorem gsp_nil:PGsp X H0 nT [] gpNil:=PGs.weak pgs_nil λvs σ' H Q ⟨ps,σ,pre,δ,G,ds,Qd,es,l1,l2,no,hs,r,h,k⟩=>by
  subst es
  cases ds with
  | nil=>simp only [Reps] at r;exact ⟨r,k ps pre l1 l2 no hs h⟩
  | cons d ds=>exact h.elim
variable {g:RGp} {gs:RGsp}
theorem gsp_cons (h1:PGp X H0 nT e g) (h2:PGsp X H0 nT es gs) (hs:(assignEach (e :: es) X.env).map (·.2) = assign e X.env :: (assignEach es X.env).map (·.2):=by rfl):PGsp X H0 nT (e :: es) (gpCons g gs) :=
  PGs.weak (pgs_cons h1 h2 hs) λvs σ' H Q ⟨ps,σ,pre,δ,G,ds,Qd,es,l1,l2,no,hs,r,h,k⟩=>by
    cases ds with
    | nil=>exact h.elim
    | cons d ds =>
      simp only [Reps] at r;obtain ⟨v,vr,rfl,r1,r2⟩:=r;exact ⟨v,vr,rfl,ps,σ,pre,δ,G,d,_,es,l1,l2,no,hs,r1,h,λps1 pre1 a1 a2 a3 h1 q1=>⟨ps1,σ,pre1,δ,G,ds,Qd,rfl,a1,a2,a3,h1,r2,q1,k⟩⟩
def gpTup (n:Nat) (gs:RGsp) (d:D) (pre:List Sl) (Q:List Sl -> Prop):Prop:=match d with
  | .tup ds=>ds.length = n /\ gs ds pre Q
  | _=>False
theorem gp_tup {n k:Nat} (hc:X.calm = true) (h:PGsp X H0 nT es gs) (hn:(assignEach es X.env).length = n:=by rfl) (hst:(assignEach es X.env).findIdx? (·.1) = none:=by rfl):PGp X H0 nT (.Tuple es k pos) (gpTup n gs) :=
  PG.weak (pg_tup (n:=n) hc h hn hst) λv σ' H Q ⟨ps,σ,pre,δ,G,d,Qd,es,l1,l2,no,hs,r,h,k⟩=>by
    cases d with
    | tup ds =>
      simp only [Rep] at r;obtain ⟨a,vs,rfl,h2,h3⟩:=r;exact ⟨a,vs,rfl,SqT.of (hs.sub _ _ h2),by rw [<- h3.length];exact h.1,ps,σ,pre,δ,G,ds,Qd,es,l1,l2,no,hs,h3,h.2,k⟩
    | _=>exact h.elim
def PIf2 (X:Cx) (H0:Hp) (ifs:List Expr) (t:RT):Prop:=PIf X ifs (liftT X.K H0 t)
def rTrue (_:List Sl) (Q:Bool -> Prop):Prop:=Q true
theorem if_nil:PIf2 X H0 [] rTrue:=λpins s σ H Q I h=>pif_nil pins s σ H Q I (by
  obtain ⟨δ,G,Qd,hs,ht,k⟩:=h
  exact k true H G (Nx.refl hs) ht)
theorem if_one {t:RT} (h:PT2 X H0 e t):PIf2 X H0 [e] t:=pif_one h
def compD (g:RGp) (tc:RT) (tel:RE) (δ:List Sl):List D -> List Sl -> List D -> (List D -> Prop) -> Prop
  | [],_,acc,Q=>Q acc
  | x :: xs,pre,acc,Q=>g x pre λpre'=>tc (pre' ++ .ow (.lst acc) :: δ) λb=>Two b (tel (pre' ++ .ow (.lst acc) :: δ) λy=>acc.length < sizeLine /\ compD g tc tel δ xs pre' (acc ++ [y]) Q) (compD g tc tel δ xs pre' acc Q)
def rComp (nT:Nat) (te:RE) (g:RGp) (tc:RT) (tel:RE) (δ:List Sl) (Q:D -> Prop):Prop:=te δ λd=>match d with
  | .lst xs=>compD g tc tel δ xs (List.replicate nT .un) [] (λacc=>Q (.lst acc))
  | _=>False
variable {target iter elt:Expr} {ifs:List Expr} {scope:Scope} {N':List Str} {te tel:RE} {tc:RT}
theorem set_mid {α:Type} {pre δ:List α} {n:Nat} (h:pre.length = n) (a b:α):(pre ++ a :: δ).set n b = pre ++ b :: δ:=by
  subst h
  induction pre with
  | nil=>rfl
  | cons p pre ih=>simp [ih]
theorem get_mid {α:Type} {pre δ:List α} {n:Nat} (h:pre.length = n) (a:α):(pre ++ a :: δ)[n]? = some a:=by
  subst h;simp
theorem comp_walk {σ:L2.St} {δ:List Sl} {G1 H1:Hp} {a D:Addr} {ws:List V} {xs:List M.D} {Qd:List M.D -> Prop} {QD:Hp -> Prop} (hs:Hs X.K H0 σ δ G1 H1) (h2:SqL X.K G1 a ws) (h3:Reps X.K G1 xs ws) (hD:H1 D = none)
 (q:compD g tc tel δ xs (List.replicate nT .un) [] Qd) (k:∀ H' G' acc,Hs X.K H0 (some (.ref D) :: σ) (.ow (.lst acc) :: δ) G' H' -> Same G1 G' -> Same H1 H' -> Qd acc -> QD H') :
 CompW (Itl X.K a) D (liftGp X.K H0 nT g) (liftT X.K H0 tc) (liftE X.K H0 tel) (List.replicate nT none ++ some (.ref D) :: σ) (upd H1 D (.lst [])) QD:=by
  have smD:∀ {H':Hp} {o:HO},Same H1 H' -> Same H1 (upd H' D o):=λ{H' o} s b u e=>by rw [upd_ne (ne_of_none e hD)];exact s b u e
  refine ⟨λi m σ' H'=>m = ws.length - i /\ i <= ws.length /\ ∃ ps pre acc G',σ' = ps ++ some (.ref D) :: σ /\ ps.length = nT /\ pre.length = nT /\ NoOwn pre /\ Hs X.K H0 σ' (pre ++ .ow (.lst acc) :: δ) G' H' /\ Same G1 G' /\ Same H1 H' /\ compD g tc tel δ (xs.drop i) pre acc Qd,
    ⟨ws.length,by simp,Nat.zero_le _,List.replicate nT none,List.replicate nT .un,[],G1,rfl,by simp,by simp,noOwn_un nT,(hs.fresh (d:=.lst []) (o:=.lst []) hD ⟨[],upd_same,Reps.nil⟩).uns nT,Same.refl _,smD (Same.refl _),q⟩,?_⟩
  rintro i m σ' H' ⟨rfl,hi,ps,pre,acc,G',rfl,l1,l2,no,h',sg,sh,q'⟩;have sq:SqL X.K H' a ws:=h'.sub.seq (sg.seq h2)
  by_cases hlt:i < ws.length
  · have hx:ws[i]? = some ws[i]:=by simp [hlt]
    obtain ⟨d,ed,rd⟩:=h3.getV hx;have hxs:i < xs.length:=(List.getElem?_eq_some_iff.mp ed).1;have edx:xs.drop i = d :: xs.drop (i + 1):=by
      rw [List.drop_eq_getElem_cons hxs];rw [List.getElem?_eq_getElem hxs] at ed;cases ed;rfl
    rw [edx] at q';refine .inr ⟨⟨ws,ws[i],sq,hx⟩,λσ2 H2=>∃ ps pre acc G',σ2 = ps ++ some (.ref D) :: σ /\ ps.length = nT /\ pre.length = nT /\ NoOwn pre /\ Hs X.K H0 σ2 (pre ++ .ow (.lst acc) :: δ) G' H2 /\ Same G1 G' /\ Same H1 H2 /\ compD g tc tel δ (xs.drop (i + 1)) pre acc Qd,λσ2 H2 z=>⟨ws.length - (i + 1),by omega,rfl,hlt,z⟩,λx H2 y=>?_⟩;obtain ⟨e,y⟩:=y;subst e;have ey:ws[i] = x:=by
      have:=y ws sq;rw [hx] at this;exact Option.some.inj this
    refine ⟨ps,_,pre,.ow (.lst acc) :: δ,G',d,_,rfl,l1,l2,no,h',by rw [<- ey];exact Rep.mono sg _ _ rd,q',λps1 pre1 a1 a2 a3 h1 q1=>?_⟩;refine ⟨_,G',_,h1,q1,λb H3 G3 n3 q3=>?_⟩
    cases b with
    | false =>
      rw [if_neg Bool.false_ne_true];exact ⟨ps1,pre1,acc,G3,rfl,a1,a2,a3,n3.hs,sg.trans n3.g,sh.trans n3.h,q3.no rfl⟩
    | true =>
      rw [if_pos rfl];refine ⟨_,G3,_,n3.hs,q3.yes rfl,λy H4 G4 dy n4 r4 q4=>?_⟩;have e0:(pre1 ++ Sl.ow (.lst acc) :: δ)[nT]? = some (.ow (.lst acc)):=get_mid a2 _;have e1:(ps1 ++ some (V.ref D) :: σ)[nT]? = some (some (.ref D)):=get_mid a1 _;obtain ⟨p,e2,zs,g1,g2⟩:=n4.hs.ow nT _ e0;rw [e1] at e2;cases e2;refine ⟨zs,g1,by rw [<- g2.length];exact q4.1,ps1,pre1,acc ++ [dy],G4,rfl,a1,a2,a3,?_,sg.trans (n3.g.trans n4.g),smD (sh.trans (n3.h.trans n4.h)),q4.2⟩;have hw:=n4.hs.write (d':=.lst (acc ++ [dy])) e0 e1 ⟨_,upd_same,Reps.append g2 (Reps.cons r4 Reps.nil)⟩;rw [set_mid a2] at hw;exact hw
  · have e:i = ws.length:=by omega
    subst e;refine .inl ⟨⟨ws,sq,Nat.le_refl _⟩,?_⟩;rw [List.drop_of_length_le (by rw [h3.length];exact Nat.le_refl _)] at q';exact k H' G' acc (Hs.drops (by rw [l1,l2]) no h') sg sh q'
theorem n_comp (ok:CompOk X scope nT N') (hi:PE2 X H0 iter te) (hg:∀ s3 H3 C cl fp,PGp (compX X scope N' s3 H3 C cl fp) H0 nT target g) (hif:∀ s3 H3 C cl fp,PIf2 (compX X scope N' s3 H3 C cl fp) H0 ifs tc) (hel:∀ s3 H3 C cl fp,PE2 (compX X scope N' s3 H3 C cl fp) H0 elt tel)
 (hs:∀ x,foldedSetIterable iter X.env x = pure x:=by intro _;rfl):PN2 X H0 (.ListComp elt [⟨target,iter,ifs,0⟩] scope pos) (rComp nT te g tc tel) :=
  PE.weak (pe_comp (g:=liftGp X.K H0 nT g) (tc:=liftT X.K H0 tc) (tel:=liftE X.K H0 tel) ok (pi_list hi) hg hif hel hs) λσ H Q ⟨δ,G,Qd,hs,ht,k⟩=>⟨δ,G,_,hs,ht,λv H1 G1 d n1 r1 q1=>by
    cases d with
    | lst xs =>
      simp only [Rep] at r1;obtain ⟨a,ws,rfl,h2,h3⟩:=r1;refine ⟨a,rfl,⟨ws,n1.hs.sub.seq h2⟩,λD hD=>comp_walk n1.hs h2 h3 hD q1 λH' G' acc hh sg sh qq=>k _ H' G' _ hh (n1.g.trans sg) (n1.h.trans sh) qq⟩
    | _=>exact q1.elim⟩
end
def relO (scope osc:Scope):List (Str × NameKind):=scope.names.map λ(n,k)=>if (k == .free && osc.kind == .function && osc.names.lookup n == some .cell) then (n,.cell) else (n,k)
def isVis (k:Option NameKind):Bool:=match k with
  | some .local=>true
  | some .cell=>true
  | some .free=>true
  | _=>false
def isCF (k:Option NameKind):Bool:=match k with
  | some .cell=>true
  | some .free=>true
  | _=>false
def isCell (k:Option NameKind):Bool:=match k with
  | some .cell=>true
  | _=>false
def isLocal (k:Option NameKind):Bool:=match k with
  | some .local=>true
  | _=>false
def compB (scope osc:Scope) (nT:Nat) (N' N:List Str):Bool :=
  (scope.kind == .function) && (scope.names.all λy=>!isCell (some y.2)) && (scope.names.all λy=>!(isCF (some y.2)) || isCell (osc.names.lookup y.1)) && (scope.names.all λy=>!(isLocal (some y.2)) || isLocal (scope.names.lookup y.1)) &&
  (N'.length == nT + 1 + N.length) && (match N'[nT]? with
    | some x=>!isVis ((relO scope osc).lookup x)
    | none=>true) &&
  (List.range N.length).all λj=>match N'[nT + 1 + j]? with
    | some x=>!isVis ((relO scope osc).lookup x) || ((match N[j]? with
      | some y=>decide (y = x)
      | none=>false) && isCell (osc.names.lookup x) && isCF ((relO scope osc).lookup x))
    | none=>true
theorem isCell_of {k:Option NameKind} (h:isCell k = true):k = some .cell:=by
  unfold isCell at h
  split at h
  · rfl
  · cases h
theorem isCF_of {k:Option NameKind} (h:isCF k = true):k = some .cell \/ k = some .free:=by
  unfold isCF at h
  split at h
  · exact .inl rfl
  · exact .inr rfl
  · cases h
theorem isLocal_of {k:Option NameKind} (h:isLocal k = true):k = some .local:=by
  unfold isLocal at h
  split at h
  · rfl
  · cases h
theorem isVis_not {sc:Scope} {x:Str} (h:isVis (sc.names.lookup x) = false):¬ Vis sc x:=λz=>by
  rcases z with z | z | z <;> rw [z] at h <;> cases h
theorem compOk_mk {X:Cx} {scope:Scope} {nT:Nat} {N':List Str} (osc:Scope) {N:List Str} (hN:X.N = N) (he:X.env.scope = osc) (hc:X.calm = true) (hb:compB scope osc nT N' N = true):CompOk X scope nT N':=by
  subst hN he;simp only [compB,Bool.and_eq_true] at hb;obtain ⟨⟨⟨⟨⟨⟨b1,b2⟩,b3⟩,b4⟩,b5⟩,b6⟩,b7⟩:=hb;rw [List.all_eq_true] at b2 b3 b4 b7;have er:(relabel scope X.env).names = relO scope X.env.scope:=rfl;refine ⟨hc,by simpa using b1,λy hy e=>?_,λx hx e=>?_,λx hx e=>?_,by simpa using b5,λx e=>?_,λj x e hv=>?_⟩
  · have:=b2 y hy
    rw [e] at this;cases this
  · have:=b3 x hx
    rw [e] at this;have this:isCell (X.env.scope.names.lookup x.1) = true:=by simpa [isCF] using this
    exact isCell_of this
  · have:=b4 x hx
    rw [e] at this;exact isLocal_of (by simpa [isLocal] using this)
  · rw [e] at b6
    exact isVis_not (by rw [er];simpa using b6)
  · have hj:j < X.N.length:=by
      have h1:=(List.getElem?_eq_some_iff.mp e).1;have h2:N'.length = nT + 1 + X.N.length:=by simpa using b5
      omega
    have:=b7 j (List.mem_range.mpr hj);rw [e] at this;simp only [Bool.or_eq_true,Bool.and_eq_true] at this
    rcases this with z | ⟨⟨z1,z2⟩,z3⟩
    · exact absurd hv (isVis_not (by rw [er];simpa using z))
    · refine ⟨?_,isCell_of z2,by rw [er];exact isCF_of z3⟩
      cases q:X.N[j]? with
      | none=>rw [q] at z1;cases z1
      | some y=>rw [q] at z1;rw [of_decide_eq_true z1]
section
variable {X:Cx} {H0:Hp} {nT:Nat} {pos:Pos} {g:RGp} {target iter elt:Expr} {ifs:List Expr} {scope:Scope} {N':List Str} {te tel:RE} {tc:RT}
def rSetCompF (i nT:Nat) (te:RE) (g:RGp) (tc:RT) (tel:RE) (E:Ends2) (δ:List Sl):Prop:=rComp nT te g tc tel δ λd=>gSet i d δ E.nx
theorem s_setCompF {y:Str} {py spos:Pos} (i:Nat) (hNd:X.N.Nodup) (ok:CompOk X scope nT N') (hi:PE2 X H0 iter te) (hg:∀ s3 H3 C cl fp,PGp (compX X scope N' s3 H3 C cl fp) H0 nT target g) (hif:∀ s3 H3 C cl fp,PIf2 (compX X scope N' s3 H3 C cl fp) H0 ifs tc) (hel:∀ s3 H3 C cl fp,PE2 (compX X scope N' s3 H3 C cl fp) H0 elt tel)
 (hN:X.N[i]? = some y:=by rfl) (hx:Loc X.env.scope y:=by first | exact Or.inl rfl | exact Or.inr rfl) (hf:X.fn y = true \/ X.env.scope.names.lookup y = some .local:=by first | exact .inl rfl | exact .inr rfl | assumption)
 (hs:∀ x,foldedSetIterable iter X.env x = pure x:=by intro _;rfl) (hsw:swapsWith (.ListComp elt [⟨target,iter,ifs,0⟩] scope pos) (some (.Name y py)) spos.line X.env = pure true:=by rfl) :
 PS2 X H0 (.Assign [.Name y py] (.ListComp elt [⟨target,iter,ifs,0⟩] scope pos) spos) (rSetCompF i nT te g tc tel) :=
  PS.weak (ps_comp (g:=liftGp X.K H0 nT g) (tc:=liftT X.K H0 tc) (tel:=liftE X.K H0 tel) ok (pi_list hi) hg hif hel hs (pg_name hNd hN hx hf) hsw) λD σ H ⟨δ,G,E,hs,ht,go⟩=>⟨δ,G,_,hs,ht,λv H1 G1 d n1 r1 q1=>by
    cases d with
    | lst xs =>
      simp only [Rep] at r1;obtain ⟨a,ws,rfl,h2,h3⟩:=r1;refine ⟨a,rfl,⟨ws,n1.hs.sub.seq h2⟩,λDa hD=>comp_walk n1.hs h2 h3 hD q1 λH' G' acc hh sg sh qq=>?_⟩;obtain ⟨l,e,nl,q⟩:=gSet_of qq;obtain ⟨G2,h4,s4,r4⟩:=hh.settle;obtain ⟨G3,h5,s5⟩:=h4.put e nl r4;exact go.nx _ H' _ G3 h5 (((n1.g.trans sg).trans s4).trans s5) q
    | _=>exact q1.elim⟩
theorem compD_map {δ:List Sl} {p:D -> Bool} {f:D -> D} {Q:List D -> Prop}:∀ (xs:List D) (l:Sl) (acc:List D),acc.length + xs.length <= sizeLine ->
 (∀ x ∈ xs,∀ acc,RdT tc (.fr x :: .ow (.lst acc) :: δ) (p x)) -> (∀ x ∈ xs,p x = true -> ∀ acc,RdE tel (.fr x :: .ow (.lst acc) :: δ) (f x)) -> Q (acc ++ (xs.filter p).map f) -> compD (gpSet 0) tc tel δ xs [l] acc Q
  | [],l,acc,_,_,_,q=>by
    have q:Q acc:=by simpa using q
    exact q
  | x :: xs,l,acc,hl,h1,h2,q=>by
    rw [List.length_cons] at hl;refine h1 x (.head _) acc _ ⟨λe=>h2 x (.head _) e acc _ ⟨by omega,?_⟩,λe=>?_⟩
    · refine compD_map xs _ (acc ++ [f x]) (by simp;omega) (λy hy=>h1 y (.tail _ hy)) (λy hy=>h2 y (.tail _ hy)) ?_
      rw [List.filter_cons_of_pos e] at q
      simpa using q
    · refine compD_map xs _ acc (by omega) (λy hy=>h1 y (.tail _ hy)) (λy hy=>h2 y (.tail _ hy)) ?_
      rw [List.filter_cons_of_neg (by rw [e];exact Bool.false_ne_true)] at q;exact q
end
section
variable {X:Cx} {pins:List (Addr × Obj)} {σ:L2.St} {H H':Hp} {s:Shared} {a:Addr} {y v:V} {u r:Value} {E:Value -> Shared -> Prop} {A:Around}
theorem d_store {Q:Unit -> Shared -> Prop} (hu:A.units < cLine) (I:L2.Inv X pins σ H s) (g:DPut H a y v H') (ry:L2.RelV y u) (rv:L2.RelV v r) (h:∀ s',L2.Inv X pins σ H' s' -> Q () s') :
 wpAny (model X.prog X.w) A (dictSet a u r) Q E s:=by
  rcases g with ⟨kvs,k,e,ey,l,eH⟩ | ⟨kvs,k,b,e,ey,eb,l,eH⟩
  · subst ey eH
    obtain ⟨z,hd,vs,rel,dd⟩:=dk_of I.hok e;have z2:vs.length <= sizeLine:=by rw [<- rel.length];exact z
    have z3:(putK kvs k v).length <= sizeLine:=by have:=length_putK kvs k v;omega
    refine wpAny_dictSet_pairs (hsz:=z2) (kV_is ry) dd λh' dd' hs=>h _ ?_
    have he:∃ q,h'.get? a = some q:=let ⟨q,_,_,hq,_⟩:=dd';⟨q,hq⟩;exact d_write I (by rw [e];exact True.intro) hs he (dk_new z3 hd (rel.put k rv) dd')
  · subst ey eH
    cases (show u = Value.ref b from ry);obtain ⟨z,hd,xs,rel,dd⟩:=dt_of I.hok e;have z2:xs.length <= sizeLine:=by rw [<- Paired.length rel];exact z
    have z3:(putK kvs k v).length <= sizeLine:=by have:=length_putK kvs k v;omega
    refine wpAny_dictSet_heap (hsz:=z2) (show (tupleKind (mixKind X.prog X.w)).room A from hu) (key_of I.hok eb) dd λh' dd' hs=>h _ ?_
    obtain ⟨q,es,ep,hq,h2,h3,h4,_,h5⟩:=dd';refine d_write I (by rw [e];exact True.intro) hs ⟨q,hq⟩ ⟨z3,hd,_,(rel.put k eb rv).keeps λc ys ec=>?_,q,es,ep,hq,h2,h3,h4,h5⟩;rw [upd_ne (ne_of ec e (λz=>nomatch z))];exact ec
end
section
variable {prog:Program} {w:World} {A:Around} {R:Result -> Shared -> Prop} {s:Shared}
theorem compLoopD {kx vx target iter:Expr} {ifs:List Expr} {scope:Scope} {pos:Pos} {it:Value} {D:Addr} {env:Env} (I:Nat -> Shared -> Prop) (Er:Value -> Shared -> Prop) (hEr:Er = notedBy (model prog w) A env λe s'=>R (.error e) s')
 (turn:∀ n s,I n s -> wpAny (model prog w) A (pyNext it) (λr s1=>match r with
      | none=>R (.ok .next) s1
      | some v=>wpAny (model prog w) A (letOwnedTupleGo target it v) (λ_ s1'=>wpAny (model prog w) A (assign target env v) (λ_ s2 =>
 wpAny (model prog w) A (forIn ifs true λc r=>if r = true then do let ok <- isTrue c env (eval c env);pure (ForInStep.yield ok) else pure (ForInStep.yield r)) (λok s3 =>
 if ok = true then wpAny (model prog w) A (eval kx env) (λkv s4=>wpAny (model prog w) A (eval vx env) (λvv s5=>wpAny (model prog w) A (dictSet D kv vv) (λ_ s6=>∃ m,m < n /\ I m s6) Er s5) Er s4) Er s3
 else ∃ m,m < n /\ I m s3) Er s2) Er s1') Er s1) Er s)
 (n:Nat) (h:I n s):codeAny (model prog w) A (.compLoop (.DictComp kx vx [⟨target,iter,ifs,0⟩] scope pos) 0 it (.ref D) env) R s:=by
  subst hEr;refine codeAny_loop (I:=I) rfl (λn s hI=>?_) n h;have e:compTurn (.DictComp kx vx [⟨target,iter,ifs,0⟩] scope pos) 0 it (.ref D) env = _:=compTurn_dict kx vx target iter ifs scope pos it D env;refine wpAny_noted (m:=compTurn (.DictComp kx vx [⟨target,iter,ifs,0⟩] scope pos) 0 it (.ref D) env) ?_;rw [e];refine wpAny_bind (wpAny_standAt (wpAny_bind (thn (turn n s hI) λr s1 h1=>?_)))
  cases r with
  | none=>exact wpAny_pure h1
  | some v =>
    refine wpAny_bind (thn h1 λ_ s1' h1'=>wpAny_bind (thn h1' λ_ s2 h2=>wpAny_bind (thn h2 λok s3 h3=>?_)))
    cases ok with
    | false=>exact wpAny_pure ⟨rfl,h3⟩
    | true=>exact wpAny_bind (wpAny_bind (thn h3 λkv s4 h4=>wpAny_bind (wpAny_holding (thn h4 λvv s5 h5=>wpAny_bind (wpAny_standAt (wpAny_holding (thn h5 λ_ s6 h6=>wpAny_pure ⟨rfl,h6⟩)))))))
end
def CompWD (J:It) (D:Addr) (g:TG) (tc:TT) (tk tv:TE) (σ0:L2.St) (H0:Hp) (QD:Hp -> Prop):Prop :=
  ∃ W:Nat -> Nat -> L2.St -> Hp -> Prop,(∃ m,W 0 m σ0 H0) /\ ∀ i m σ H,W i m σ H ->
    (J.stop i H /\ QD H) \/ (J.go i H /\ ∃ N:L2.St -> Hp -> Prop,(∀ σ' H',N σ' H' -> ∃ m',m' < m /\ W (i + 1) m' σ' H') /\
      ∀ x H',J.yld i H x H' -> g x σ H' λσ2 H2=>tc σ2 H2 λb H3=>if b = true then tk σ2 H3 λy H4=>tv σ2 H4 λz H5=>∃ H6,DPut H5 D y z H6 /\ N σ2 H6 else N σ2 H3)
section
variable {X:Cx} {pins:List (Addr × Obj)} {σ:L2.St} {H:Hp} {s:Shared} {scope:Scope} {N':List Str} {cl:List (Str × Addr)} {fp:List Addr} {target iter kx vx:Expr} {ifs:List Expr} {pos:Pos} {g:TG} {tc:TT} {tk tv:TE} {nT:Nat} {J:It} {it D:Addr} {tn:Nat -> Heap -> Prop}
theorem comp_blockD {E:Value -> Shared -> Prop} (hu:X.A.units < cLine) (I:L2.Inv X pins σ H s) (hc:X.calm = true) (hk:scope.kind = .function) (hcell:∀ y ∈ scope.names,y.2 ≠ .cell) (hcl:ClOk X scope cl) (cap:CapOk X scope nT N')
 (T:Turn X.prog X.w X.K target J fp it tn) (st:tn 0 s.heap) (hf:∀ b ∈ fp,FpOk X pins H b)
 (hg:∀ s3 H3 C cl fp,PG (compX X scope N' s3 H3 C cl fp) target g) (hif:∀ s3 H3 C cl fp,PIf (compX X scope N' s3 H3 C cl fp) ifs tc) (hkx:∀ s3 H3 C cl fp,PE (compX X scope N' s3 H3 C cl fp) kx tk) (hvx:∀ s3 H3 C cl fp,PE (compX X scope N' s3 H3 C cl fp) vx tv)
 {QD:Hp -> Prop} (hw:CompWD J D g tc tk tv (List.replicate nT none ++ some (.ref D) :: σ) H QD) {RR:Addr -> Result -> Shared -> Prop}
 (hRR:∀ C s' H' σ' pins',s.heap.objs.size <= C -> L2.Inv (compX X scope N' s H C cl fp) pins' σ' H' s' -> QD H' -> RR C (.ok .next) s') :
 wpAny (model X.prog X.w) X.A (newFunctionEnv scope X.env.globals cl [] X.env.qual none .none (some X.env)) (λcenv s4 =>
 codeAny (model X.prog X.w) X.A (.compStart (.DictComp kx vx [⟨target,iter,ifs,0⟩] scope pos) 0 (.ref it) (.ref D) { cenv with scope:=relabel scope X.env }) (RR cenv.locals) s4) E s:=by
  refine wpAny_newFunctionEnv hcell (by intro y hy;simp at hy) (λh1 ns sb=>?_) hk;have hC:s.heap.objs.size <= s.heap.objs.size:=Nat.le_refl _;have k:∀ b o,s.heap.get? b = some o -> h1.get? b = some o:=λb o e=>sb.extBut b o (Nat.ne_of_lt (Heap.lt_size e)) (Heap.get?_push_of_some _ e)
  have hb:∀ b ∈ fp,b < s.heap.objs.size:=λb hb=>by obtain ⟨o,e,_⟩:=T.obj _ _ st b hb;exact Heap.lt_size e
  have I0:L2.Inv (compX X scope N' s H s.heap.objs.size cl fp) [] (List.replicate nT none ++ some (.ref D) :: σ) H { s with heap:=h1,toks:=s.toks + ([]:List (Str × Value)).length } :=
    comp_inv I hc hk hcl hC hf hb cap k ns
  have st1:tn 0 h1:=T.keep _ _ _ st λb _ o e=>k b o e
  obtain ⟨W,⟨m0,w0⟩,turn⟩:=hw;have stat:∀ {H':Hp},(∀ b ∈ fp,H' b = none) -> ∀ b ∈ fp,FpOk (compX X scope N' s H s.heap.objs.size cl fp) [] H' b:=λhn b hb' =>
    ⟨hn b hb',Nat.ne_of_lt (hb b hb'),I0.ok.exfs b hb',.inl hb',(I0.ok.exf b hb').2,λp hp=>nomatch hp⟩
  have loop:codeAny (model X.prog X.w) X.A (.compLoop (.DictComp kx vx [⟨target,iter,ifs,0⟩] scope pos) 0 (.ref it) (.ref D) (compEnvC scope cl s.heap.objs.size X.env)) (RR s.heap.objs.size) { s with heap:=h1,toks:=s.toks + ([]:List (Str × Value)).length }:=by
    refine compLoopD (λn s'=>∃ i σ' H',L2.Inv (compX X scope N' s H s.heap.objs.size cl fp) [] σ' H' s' /\ tn i s'.heap /\ (∀ b ∈ fp,H' b = none) /\ W i n σ' H') _ rfl ?_ m0 ⟨0,_,H,I0,st1,λb hb'=>(hf b hb').1,w0⟩;rintro n s3 ⟨i,σ3,H3,I3,st3,fr3,w3⟩
    rcases turn i n σ3 H3 w3 with ⟨stop,qn⟩ | ⟨go,N,hN,step⟩
    · refine thn (T.done (compX X scope N' s H s.heap.objs.size cl fp) rfl rfl rfl hc i [] s3 σ3 H3 _ I3 (stat fr3) st3 stop) λr s4 ⟨hr,I4⟩=>?_
      subst hr;exact hRR _ s4 H3 σ3 [] hC I4 qn
    · refine thn (T.item (compX X scope N' s H s.heap.objs.size cl fp) rfl rfl rfl hc i [] s3 σ3 H3 _ I3 (stat fr3) st3 go) λr s4 ⟨u,hr,h4⟩=>?_
      subst hr;refine thn h4 λ_ s5 ⟨x,H5,I5,r5,y5,st5,fr5⟩=>?_
      have I5':=I5.pinned (stat fr5) (T.obj _ _ st5);refine wpAny_mono (hg s H s.heap.objs.size cl fp _ s5 σ3 H5 x u _ I5' r5 (step x H5 y5)) (λ_ s6 ⟨σ6,H6,I6,q6⟩=>?_) λ_ _ z=>z.elim
      have again:∀ {s7:Shared} {σ7:L2.St} {H7:Hp},L2.Inv (compX X scope N' s H s.heap.objs.size cl fp) ([] ++ pinsAt fp s5.heap) σ7 H7 s7 -> N σ7 H7 -> ∃ m,m < n /\ ∃ i σ' H',L2.Inv (compX X scope N' s H s.heap.objs.size cl fp) [] σ' H' s7 /\ tn i s7.heap /\ (∀ b ∈ fp,H' b = none) /\ W i m σ' H':=λ{s7 σ7 H7} I7 n7=>by
        obtain ⟨m',hm,w7⟩:=hN σ7 H7 n7;refine ⟨m',hm,i + 1,σ7,H7,I7.unpinned,T.keep _ _ _ st5 λb hb' o e=>(I7.pin (b,o) (List.mem_append_right _ (List.mem_append_right _ (mem_pinsAt hb' e)))).1,λb hb'=>?_,w7⟩;obtain ⟨o,e,d⟩:=T.obj _ _ st5 b hb';exact (I7.pin (b,o) (List.mem_append_right _ (List.mem_append_right _ (mem_pinsAt hb' e)))).2.1
      refine wpAny_mono (hif s H s.heap.objs.size cl fp _ s6 σ6 H6 _ I6 q6) (λok s7 ⟨H7,I7,q7⟩=>?_) λ_ _ z=>z.elim
      cases ok with
      | false =>
        rw [if_neg Bool.false_ne_true] at q7 ⊢;exact again I7 q7
      | true =>
        rw [if_pos rfl] at q7 ⊢;refine wpAny_mono (hkx s H s.heap.objs.size cl fp _ s7 σ6 H7 _ I7 q7) (λu8 s8 ⟨y,H8,I8,r8,q8⟩=>?_) λ_ _ z=>z.elim
        refine wpAny_mono (hvx s H s.heap.objs.size cl fp _ s8 σ6 H8 _ I8 q8) (λu9 s9 ⟨z,H9,I9,r9,H10,dp,q9⟩=>?_) λ_ _ z=>z.elim
        exact d_store (X:=compX X scope N' s H s.heap.objs.size cl fp) hu I9 dp r8 r9 λs10 I10=>again I10 q9
  exact codeAny_compStart_dict loop (T.self _ 0 _ _ _ st1 loop)
def tCompD (o:HO) (nT:Nat) (wi:TI) (g:TG) (tc:TT) (tk tv:TE):TE:=λσ H Q=>wi σ H λJ H1=>∀ D,H1 D = none -> CompWD J D g tc tk tv (List.replicate nT none ++ some (.ref D) :: σ) (upd H1 D o) (λH'=>Q (.ref D) H')
variable {wi:TI}
def Empty0 (o:HO):Prop:=o = .dK [] \/ o = .dT []
theorem empty_ok {o:HO} {P:Program} {w:World} {H:Hp} (ho:Empty0 o) (h:Heap) (hb:sysModules < h.objs.size):ObjOk P w H (h.push { cls:=.type "dict", data:=.dict #[] }) h.objs.size o:=by
  rcases ho with rfl | rfl
  · exact dk_empty h hb
  · exact dt_empty h hb
theorem pe_dcomp {o:HO} (ho:Empty0 o) (hu:X.A.units < cLine) (ok:CompOk X scope nT N') (hi:PI X target iter wi) (hg:∀ s3 H3 C cl fp,PG (compX X scope N' s3 H3 C cl fp) target g) (hif:∀ s3 H3 C cl fp,PIf (compX X scope N' s3 H3 C cl fp) ifs tc) (hkx:∀ s3 H3 C cl fp,PE (compX X scope N' s3 H3 C cl fp) kx tk) (hvx:∀ s3 H3 C cl fp,PE (compX X scope N' s3 H3 C cl fp) vx tv)
 (hs:∀ x,foldedSetIterable iter X.env x = pure x):PE X (.DictComp kx vx [⟨target,iter,ifs,0⟩] scope pos) (tCompD o nT wi g tc tk tv):=by
  intro pins s σ H Q I h;obtain ⟨hclos,hcl⟩:=cl_ok I.ok ok.cell ok.free;refine wpAny_comprehension_free (e:=.DictComp kx vx [⟨target,iter,ifs,0⟩] scope pos) (use:=none) rfl hs hclos ok.kind ok.loc (thn (hi pins s σ H _ I h) λv s1 h1=>thn h1 λitv s2 h2=>?_);obtain ⟨it,fp,tn,J,H2,e,I2,T,st2,f2,W⟩:=h2;subst e;refine wpAny_newObj_type ?_;have kp:∀ b o,s2.heap.get? b = some o -> (s2.heap.push { cls:=.type "dict", dict:=none,data:=.dict #[] }).get? b = some o:=λb o e=>Heap.get?_push_of_some _ e
  have I3:=I2.laid (a:=s2.heap.objs.size) (o:=o) (t':=s2.toks) kp (Nat.le_refl _) (empty_ok ho s2.heap I2.big);have f3:∀ b ∈ fp,FpOk X pins (upd H2 s2.heap.objs.size o) b:=λb hb=>by
    obtain ⟨o,e,_⟩:=T.obj _ _ st2 b hb;exact ⟨by rw [upd_ne (Nat.ne_of_lt (Heap.lt_size e))];exact (f2 b hb).1,(f2 b hb).2⟩
  refine comp_blockD (iter:=iter) (pos:=pos) (RR:=λC=>compPost (model X.prog X.w) X.A X.xe none (EP X pins σ Q) (.ref s2.heap.objs.size) C) hu I3 ok.calm ok.kind ok.cell hcl ok.cap T (T.keep _ _ _ st2 λb _ o e=>kp b o e) f3 hg hif hkx hvx (W _ (I2.hok.fresh (Nat.le_refl _))) ?_;intro C s' H' σ' pins' hC I' q;obtain ⟨m,ns,_⟩:=I'.loc;exact ⟨m,ns,λh' hsb=>⟨.ref s2.heap.objs.size,H',comp_back (nT:=nT) I3 hC f3 I' hsb s'.toks,rfl,q⟩⟩
end
section
variable {X:Cx} {H0:Hp} {nT:Nat} {pos:Pos} {g:RGp} {target iter kx vx:Expr} {ifs:List Expr} {scope:Scope} {N':List Str} {te tk tv:RE} {tc:RT}
def compK (g:RGp) (tc:RT) (tk tv:RE) (δ:List Sl):List D -> List Sl -> List (Key × D) -> (List (Key × D) -> Prop) -> Prop
  | [],_,kvs,Q=>Q kvs
  | x :: xs,pre,kvs,Q=>g x pre λpre'=>tc (pre' ++ .ow (.dK kvs) :: δ) λb=>Two b (tk (pre' ++ .ow (.dK kvs) :: δ) λy=>tv (pre' ++ .ow (.dK kvs) :: δ) λd=>dkey y λk=>kvs.length < sizeLine /\ compK g tc tk tv δ xs pre' (putD kvs k d) Q) (compK g tc tk tv δ xs pre' kvs Q)
def rCompK (nT:Nat) (te:RE) (g:RGp) (tc:RT) (tk tv:RE) (δ:List Sl) (Q:D -> Prop):Prop:=te δ λd=>match d with
  | .lst xs=>compK g tc tk tv δ xs (List.replicate nT .un) [] (λkvs=>Q (.dK kvs))
  | _=>False
def compT (g:RGp) (tc:RT) (tk tv:RE) (δ:List Sl):List D -> List Sl -> List (List Key × D) -> (List (List Key × D) -> Prop) -> Prop
  | [],_,kvs,Q=>Q kvs
  | x :: xs,pre,kvs,Q=>g x pre λpre'=>tc (pre' ++ .ow (.dT kvs) :: δ) λb=>Two b (tk (pre' ++ .ow (.dT kvs) :: δ) λy=>tv (pre' ++ .ow (.dT kvs) :: δ) λd=>tkey y λk=>kvs.length < sizeLine /\ compT g tc tk tv δ xs pre' (putD kvs k d) Q) (compT g tc tk tv δ xs pre' kvs Q)
def rCompT (nT:Nat) (te:RE) (g:RGp) (tc:RT) (tk tv:RE) (δ:List Sl) (Q:D -> Prop):Prop:=te δ λd=>match d with
  | .lst xs=>compT g tc tk tv δ xs (List.replicate nT .un) [] (λkvs=>Q (.dT kvs))
  | _=>False
theorem comp_walkT {σ:L2.St} {δ:List Sl} {G1 H1:Hp} {a D:Addr} {ws:List V} {xs:List M.D} {Qd:List (List Key × M.D) -> Prop} {QD:Hp -> Prop} (hs:Hs X.K H0 σ δ G1 H1) (h2:SqL X.K G1 a ws) (h3:Reps X.K G1 xs ws) (hD:H1 D = none)
 (q:compT g tc tk tv δ xs (List.replicate nT .un) [] Qd) (k:∀ H' G' kvs,Hs X.K H0 (some (.ref D) :: σ) (.ow (.dT kvs) :: δ) G' H' -> Same G1 G' -> Same H1 H' -> Qd kvs -> QD H') :
 CompWD (Itl X.K a) D (liftGp X.K H0 nT g) (liftT X.K H0 tc) (liftE X.K H0 tk) (liftE X.K H0 tv) (List.replicate nT none ++ some (.ref D) :: σ) (upd H1 D (.dT [])) QD:=by
  have smD:∀ {H':Hp} {o:HO},Same H1 H' -> Same H1 (upd H' D o):=λ{H' o} s b u e=>by rw [upd_ne (ne_of_none e hD)];exact s b u e
  refine ⟨λi m σ' H'=>m = ws.length - i /\ i <= ws.length /\ ∃ ps pre kvs G',σ' = ps ++ some (.ref D) :: σ /\ ps.length = nT /\ pre.length = nT /\ NoOwn pre /\ Hs X.K H0 σ' (pre ++ .ow (.dT kvs) :: δ) G' H' /\ Same G1 G' /\ Same H1 H' /\ compT g tc tk tv δ (xs.drop i) pre kvs Qd,
    ⟨ws.length,by simp,Nat.zero_le _,List.replicate nT none,List.replicate nT .un,[],G1,rfl,by simp,by simp,noOwn_un nT,(hs.fresh (d:=.dT []) (o:=.dT []) hD ⟨[],upd_same,by simp only [RepT]⟩).uns nT,Same.refl _,smD (Same.refl _),q⟩,?_⟩
  rintro i m σ' H' ⟨rfl,hi,ps,pre,kvs,G',rfl,l1,l2,no,h',sg,sh,q'⟩;have sq:SqL X.K H' a ws:=h'.sub.seq (sg.seq h2)
  by_cases hlt:i < ws.length
  · have hx:ws[i]? = some ws[i]:=by simp [hlt]
    obtain ⟨d,ed,rd⟩:=h3.getV hx;have hxs:i < xs.length:=(List.getElem?_eq_some_iff.mp ed).1;have edx:xs.drop i = d :: xs.drop (i + 1):=by
      rw [List.drop_eq_getElem_cons hxs];rw [List.getElem?_eq_getElem hxs] at ed;cases ed;rfl
    rw [edx] at q';refine .inr ⟨⟨ws,ws[i],sq,hx⟩,λσ2 H2=>∃ ps pre kvs G',σ2 = ps ++ some (.ref D) :: σ /\ ps.length = nT /\ pre.length = nT /\ NoOwn pre /\ Hs X.K H0 σ2 (pre ++ .ow (.dT kvs) :: δ) G' H2 /\ Same G1 G' /\ Same H1 H2 /\ compT g tc tk tv δ (xs.drop (i + 1)) pre kvs Qd,λσ2 H2 z=>⟨ws.length - (i + 1),by omega,rfl,hlt,z⟩,λx H2 y=>?_⟩;obtain ⟨e,y⟩:=y;subst e;have ey:ws[i] = x:=by
      have:=y ws sq;rw [hx] at this;exact Option.some.inj this
    refine ⟨ps,_,pre,.ow (.dT kvs) :: δ,G',d,_,rfl,l1,l2,no,h',by rw [<- ey];exact Rep.mono sg _ _ rd,q',λps1 pre1 a1 a2 a3 h1 q1=>?_⟩;refine ⟨_,G',_,h1,q1,λb H3 G3 n3 q3=>?_⟩
    cases b with
    | false =>
      rw [if_neg Bool.false_ne_true];exact ⟨ps1,pre1,kvs,G3,rfl,a1,a2,a3,n3.hs,sg.trans n3.g,sh.trans n3.h,q3.no rfl⟩
    | true =>
      rw [if_pos rfl];refine ⟨_,G3,_,n3.hs,q3.yes rfl,λy H4 G4 dy n4 r4 q4=>⟨_,G4,_,n4.hs,q4,λz H5 G5 dz n5 r5 q5=>?_⟩⟩;have e0:(pre1 ++ Sl.ow (.dT kvs) :: δ)[nT]? = some (.ow (.dT kvs)):=get_mid a2 _;have e1:(ps1 ++ some (V.ref D) :: σ)[nT]? = some (some (.ref D)):=get_mid a1 _;obtain ⟨p,e2,kws,g1,g2⟩:=n5.hs.ow nT _ e0;rw [e1] at e2;cases e2;obtain ⟨k,b,rfl,hb,hl,qq⟩:=tkey_of q5 (Rep.mono n5.g _ _ r4);refine ⟨_,DPut.t g1 (n5.hs.sub _ _ hb) (by rw [<- g2.length];exact hl),ps1,pre1,putD kvs k dz,G5,rfl,a1,a2,a3,?_,sg.trans (n3.g.trans (n4.g.trans n5.g)),smD (sh.trans (n3.h.trans (n4.h.trans n5.h))),qq⟩;have hw:=n5.hs.write (d':=.dT (putD kvs k dz)) e0 e1 ⟨_,upd_same,g2.put r5⟩;rw [set_mid a2] at hw;exact hw
  · have e:i = ws.length:=by omega
    subst e;refine .inl ⟨⟨ws,sq,Nat.le_refl _⟩,?_⟩;rw [List.drop_of_length_le (by rw [h3.length];exact Nat.le_refl _)] at q';exact k H' G' kvs (Hs.drops (by rw [l1,l2]) no h') sg sh q'
theorem n_dcompT (hu:X.A.units < cLine) (ok:CompOk X scope nT N') (hi:PE2 X H0 iter te) (hg:∀ s3 H3 C cl fp,PGp (compX X scope N' s3 H3 C cl fp) H0 nT target g) (hif:∀ s3 H3 C cl fp,PIf2 (compX X scope N' s3 H3 C cl fp) H0 ifs tc) (hkx:∀ s3 H3 C cl fp,PE2 (compX X scope N' s3 H3 C cl fp) H0 kx tk) (hvx:∀ s3 H3 C cl fp,PE2 (compX X scope N' s3 H3 C cl fp) H0 vx tv)
 (hs:∀ x,foldedSetIterable iter X.env x = pure x:=by intro _;rfl):PN2 X H0 (.DictComp kx vx [⟨target,iter,ifs,0⟩] scope pos) (rCompT nT te g tc tk tv) :=
  PE.weak (pe_dcomp (o:=.dT []) (g:=liftGp X.K H0 nT g) (tc:=liftT X.K H0 tc) (tk:=liftE X.K H0 tk) (tv:=liftE X.K H0 tv) (.inr rfl) hu ok (pi_list hi) hg hif hkx hvx hs) λσ H Q ⟨δ,G,Qd,hs,ht,k⟩=>⟨δ,G,_,hs,ht,λv H1 G1 d n1 r1 q1=>by
    cases d with
    | lst xs =>
      simp only [Rep] at r1;obtain ⟨a,ws,rfl,h2,h3⟩:=r1;refine ⟨a,rfl,⟨ws,n1.hs.sub.seq h2⟩,λD hD=>comp_walkT n1.hs h2 h3 hD q1 λH' G' acc hh sg sh qq=>k _ H' G' _ hh (n1.g.trans sg) (n1.h.trans sh) qq⟩
    | _=>exact q1.elim⟩
end
section
variable {X:Cx} {H0:Hp} {o e:Expr} {ta te:RE} {apos cpos:Pos}
end
section
variable {X:Cx} {scope:Scope} {N':List Str} {target iter kx vx:Expr} {ifs:List Expr} {pos:Pos} {g:TG} {tc:TT} {tk tv:TE} {nT:Nat} {wi:TI}
end
section
variable {X:Cx} {H0:Hp} {nT:Nat} {pos:Pos} {g:RGp} {target iter kx vx:Expr} {ifs:List Expr} {scope:Scope} {N':List Str} {te tk tv:RE} {tc:RT}
end
section
variable {X:Cx} {H0:Hp} {a b:Expr} {p p2 pos pos2:Pos}
end
mutual
def flat:D -> Bool
  | .lst _=>false
  | .dK _=>false
  | .dT _=>false
  | .tup xs=>flats xs
  | _=>true
def flats:List D -> Bool
  | []=>true
  | d :: ds=>flat d && flats ds
end
mutual
theorem Rep.flat {K:PySem.W.Frag} {G G':Hp} (e:∀ b xs,G b = some (.tup xs) -> G' b = some (.tup xs)):∀ (d:D) (v:V),M.flat d = true -> Rep K G d v -> Rep K G' d v
  | .non,v,_,h=>by simpa only [Rep] using h
  | .bl b,v,_,h=>by simpa only [Rep] using h
  | .int i,v,_,h=>by simpa only [Rep] using h
  | .str x,v,_,h=>by simpa only [Rep] using h
  | .adr x,v,_,h=>by simpa only [Rep] using h
  | .tup xs,v,f,h=>by
    simp only [Rep] at h ⊢;obtain ⟨a,vs,h1,h2,h3⟩:=h;exact ⟨a,vs,h1,e _ _ h2,Reps.flat e xs vs (by simpa only [M.flat] using f) h3⟩
  | .lst xs,v,f,h=>by simp [M.flat] at f
  | .dK kvs,v,f,h=>by simp [M.flat] at f
  | .dT kvs,v,f,h=>by simp [M.flat] at f
theorem Reps.flat {K:PySem.W.Frag} {G G':Hp} (e:∀ b xs,G b = some (.tup xs) -> G' b = some (.tup xs)):∀ (ds:List D) (vs:List V),flats ds = true -> Reps K G ds vs -> Reps K G' ds vs
  | [],vs,_,h=>by simpa only [Reps] using h
  | d :: ds,vs,f,h=>by
    simp only [flats,Bool.and_eq_true] at f;simp only [Reps] at h ⊢;obtain ⟨v,r,h1,h2,h3⟩:=h;exact ⟨v,r,h1,Rep.flat e d v f.1 h2,Reps.flat e ds r f.2 h3⟩
end
def flatN:D -> Bool
  | .lst xs=>flats xs
  | .dK kvs=>flats (kvs.map (·.2))
  | .dT kvs=>flats (kvs.map (·.2))
  | _=>false
theorem RepK.flat {K:PySem.W.Frag} {G G':Hp} (e:∀ b xs,G b = some (.tup xs) -> G' b = some (.tup xs)):∀ (ds:List (Key × D)) (vs:List (Key × V)),flats (ds.map (·.2)) = true -> RepK K G ds vs -> RepK K G' ds vs
  | [],vs,_,h=>by simpa only [RepK] using h
  | (k,d) :: ds,vs,f,h=>by
    simp only [List.map_cons,flats,Bool.and_eq_true] at f;simp only [RepK] at h ⊢;obtain ⟨v,r,h1,h2,h3⟩:=h;exact ⟨v,r,h1,Rep.flat e d v f.1 h2,RepK.flat e ds r f.2 h3⟩
theorem RepT.flat {K:PySem.W.Frag} {G G':Hp} (e:∀ b xs,G b = some (.tup xs) -> G' b = some (.tup xs)):∀ (ds:List (List Key × D)) (vs:List (List Key × V)),flats (ds.map (·.2)) = true -> RepT K G ds vs -> RepT K G' ds vs
  | [],vs,_,h=>by simpa only [RepT] using h
  | (k,d) :: ds,vs,f,h=>by
    simp only [List.map_cons,flats,Bool.and_eq_true] at f;simp only [RepT] at h ⊢;obtain ⟨v,r,h1,h2,h3⟩:=h;exact ⟨v,r,h1,Rep.flat e d v f.1 h2,RepT.flat e ds r f.2 h3⟩
theorem Own.flat {K:PySem.W.Frag} {G G' H:Hp} {p:Addr} {d:D} (e:∀ b xs,G b = some (.tup xs) -> G' b = some (.tup xs)) (f:flatN d = true) (h:Own K G H p d):Own K G' H p d:=by
  cases d with
  | lst ds=>obtain ⟨vs,h1,h2⟩:=h;exact ⟨vs,h1,Reps.flat e _ _ f h2⟩
  | dK ds=>obtain ⟨vs,h1,h2⟩:=h;exact ⟨vs,h1,RepK.flat e _ _ f h2⟩
  | dT ds=>obtain ⟨vs,h1,h2⟩:=h;exact ⟨vs,h1,RepT.flat e _ _ f h2⟩
  | _=>exact h.elim
def without (G:Hp) (p:Addr):Hp:=λb=>if b = p then none else G b
theorem without_ne {G:Hp} {p b:Addr} (h:b ≠ p):without G p b = G b:=if_neg h
theorem without_self {G:Hp} {p:Addr}:without G p p = none:=if_pos rfl
section
variable {K:PySem.W.Frag} {H0:Hp} {σ:L2.St} {δ:List Sl} {G H G1 H1:Hp} {i:Nat} {d:D} {p:Addr}
theorem Hs.thaw (h0:Hs K H0 σ δ G H) (e:δ[i]? = some (.ow d)) (e1:σ[i]? = some (some (.ref p))) (h1:Hs K H0 σ (δ.set i (.fr d)) G1 H1) (s:Same G G1) (sh:Same H H1):Hs K H0 σ δ (without G1 p) H1 /\ Same G (without G1 p):=by
  have hi:i < δ.length:=(List.getElem?_eq_some_iff.mp e).1;have ai:At σ δ i p:=⟨_,e,True.intro,e1⟩;have gp:G p = none:=by
    rcases h0.ex p with ⟨_,z⟩ | ⟨z,_⟩
    · exact absurd ai (z i)
    · exact z
  have s2:Same G (without G1 p):=λb u q=>by rw [without_ne (ne_of_none q gp)];exact s b u q
  have hp:∀ j b,At σ δ j b -> H1 b = H b:=λj b a=>by
    obtain ⟨o,q,_⟩:=h0.soft a;rw [sh b o q,q]
  have tr:∀ j b,j ≠ i -> (At σ (δ.set i (.fr d)) j b ↔ At σ δ j b):=λj b hj=>at_setD hj
  have nfr:∀ b,¬ At σ (δ.set i (.fr d)) i b:=λb a=>at_selfD a
  have eqi:∀ b,At σ δ i b -> b = p:=λb ⟨_,_,_,z⟩=>by rw [e1] at z;cases z;rfl
  refine ⟨⟨h0.len,h0.base.trans s2,λb=>?_,λj d' q=>?_,λj d' q=>?_,λj q' d' q=>?_,h0.ne⟩,s2⟩
  · by_cases hb:b = p
    · subst hb;exact .inr ⟨without_self,i,ai⟩
    · rw [without_ne hb]
      rcases h1.ex b with ⟨z1,z2⟩ | ⟨z1,j,z2⟩
      · refine .inl ⟨z1,λj a=>?_⟩
        by_cases hj:j = i
        · subst hj;exact hb (eqi b a)
        · exact z2 j ((tr j b hj).mpr a)
      · have hj:j ≠ i:=λz=>by subst z;exact nfr b z2
        exact .inr ⟨z1,j,(tr j b hj).mp z2⟩
  · obtain ⟨v,w1,w2⟩:=h0.fr j d' q
    exact ⟨v,w1,Rep.mono s2 _ _ w2⟩
  · obtain ⟨b,w1,w2⟩:=h0.ow j d' q
    exact ⟨b,w1,w2.mono s2 (hp j b ⟨_,q,True.intro,w1⟩)⟩
  · obtain ⟨w1,w2⟩:=h0.lk j q' d' q
    exact ⟨w1,w2.mono s2 (hp j q' ⟨_,q,True.intro,w1⟩)⟩
end
theorem Own.not_tup {K:PySem.W.Frag} {G H G1:Hp} {p:Addr} {d:D} (o:Own K G H p d) (e:G1 p = H p):∀ b xs,G1 b = some (.tup xs) -> without G1 p b = some (.tup xs):=λb xs q=>by
  rw [without_ne]
  · exact q
  · rintro rfl
    obtain ⟨u,e1,s⟩:=o.soft;rw [e,e1] at q;cases q;exact s
section
variable {X:Cx} {H0:Hp} {e:Expr} {t:RE} {u:RT}
def rBor (i:Nat) (t:RE) (δ:List Sl) (Q:D -> Prop):Prop:=match δ[i]? with
  | some (.ow d)=>t (δ.set i (.fr d)) λr=>flat r = true /\ Q r
  | _=>False
def rBorN (i:Nat) (t:RE) (δ:List Sl) (Q:D -> Prop):Prop:=match δ[i]? with
  | some (.ow d)=>t (δ.set i (.fr d)) λr=>flatN r = true /\ Q r
  | _=>False
theorem Hs.lent {K:PySem.W.Frag} {σ:L2.St} {δ:List Sl} {G H:Hp} {i:Nat} {d:D} (hs:Hs K H0 σ δ G H) (e:δ[i]? = some (.ow d)):∃ G1 p,σ[i]? = some (some (.ref p)) /\ Hs K H0 σ (δ.set i (.fr d)) G1 H /\ Same G G1 /\ Own K G H p d /\ G1 p = H p:=by
  obtain ⟨p,e1,o⟩:=hs.ow i d e;obtain ⟨G1,h1,s1,p',e2,r⟩:=hs.freeze e;rw [e1] at e2;cases e2;refine ⟨G1,p,e1,h1,s1,o,?_⟩
  rcases h1.ex p with ⟨z,_⟩ | ⟨z,j,a⟩
  · exact z
  · exfalso
    by_cases hj:j = i
    · subst hj;exact at_selfD a
    · exact hj (hs.ne j i p ((at_setD hj).mp a) ⟨_,e,True.intro,e1⟩)
theorem n_bor (i:Nat) (h:PN2 X H0 e t):PN2 X H0 e (rBorN i t):=PE.weak h λσ H Q ⟨δ,G,Qd,hs,ht,k⟩=>by
  unfold rBorN at ht
  split at ht
  · rename_i d e0
    obtain ⟨G1,p,e1,h1,s1,o,gp⟩:=hs.lent e0;refine ⟨_,G1,_,h1,ht,λv H' G' r n sg sh q=>?_⟩;obtain ⟨b,eb,ob⟩:=n.ow 0 r rfl;simp at eb;subst eb;have a0:At (some (.ref b) :: σ) (.ow r :: δ.set i (.fr d)) 0 b:=at_zero.mpr ⟨True.intro,rfl⟩;have gb:G' b = none:=by
      rcases n.ex b with ⟨_,z⟩ | ⟨z,_⟩
      · exact absurd a0 (z 0)
      · exact z
    have gp':G' p = H p:=by
      obtain ⟨oo,eo,_⟩:=o.soft;rw [sg p oo (gp.trans eo),eo]
    have pb:b ≠ p:=λz=>by
      subst z;obtain ⟨oo,eo,_⟩:=o.soft;rw [gb,eo] at gp';cases gp'
    have hb:H b = none:=by
      cases z:H b with
      | none=>rfl
      | some o' =>
        exfalso
        rcases h1.ex b with ⟨z1,z2⟩ | ⟨z1,j,z2⟩
        · have:=sg b o' (z1.trans z)
          rw [gb] at this;cases this
        · have:=n.ne 0 (j + 1) b a0 (at_cons.mpr z2)
          omega
    obtain ⟨ow,eow,sow⟩:=ob.soft;have en:H' = upd (without H' b) b ow:=by
      funext c
      by_cases hc:c = b
      · subst hc;rw [upd_same];exact eow
      · rw [upd_ne hc,without_ne hc]
    have hw:Hs X.K H0 σ (δ.set i (.fr d)) G' (without H' b):=by
      refine ⟨by have:=n.len;simpa using this,n.base,λc=>?_,λj d' q'=>?_,λj d' q'=>?_,λj q2 d' q'=>?_,λj k' c a1 a2=>?_⟩
      · by_cases hc:c = b
        · subst hc
          refine .inl ⟨by rw [gb];exact without_self.symm,λj a=>?_⟩;have:=n.ne 0 (j + 1) c a0 (at_cons.mpr a);omega
        · rw [without_ne hc]
          rcases n.ex c with ⟨z1,z2⟩ | ⟨z1,j,z2⟩
          · exact .inl ⟨z1,λj a=>z2 (j + 1) (at_cons.mpr a)⟩
          · cases j with
            | zero =>
              have:=(at_zero.mp z2).2;cases this;exact absurd rfl hc
            | succ j=>exact .inr ⟨z1,j,at_cons.mp z2⟩
      · simpa using n.fr (j + 1) d' (by simpa using q')
      · obtain ⟨c,w1,w2⟩:=n.ow (j + 1) d' (by simpa using q')
        have w1':σ[j]? = some (some (.ref c)):=by simpa using w1
        refine ⟨c,w1',w2.mono (Same.refl _) (without_ne λz=>?_)⟩;subst z;have:=n.ne 0 (j + 1) c a0 (at_cons.mpr ⟨_,q',True.intro,w1'⟩);omega
      · obtain ⟨w1,w2⟩:=n.lk (j + 1) q2 d' (by simpa using q')
        have w1':σ[j]? = some (some (.ref q2)):=by simpa using w1
        refine ⟨w1',w2.mono (Same.refl _) (without_ne λz=>?_)⟩;subst z;have:=n.ne 0 (j + 1) q2 a0 (at_cons.mpr ⟨_,q',True.intro,w1'⟩);omega
      · have:=n.ne (j + 1) (k' + 1) c (at_cons.mpr a1) (at_cons.mpr a2)
        omega
    obtain ⟨h2,s2⟩:=hs.thaw e0 e1 hw (s1.trans sg) (λc o' z=>by rw [without_ne (λy=>by subst y;rw [hb] at z;cases z)];exact sh c o' z);have h3:=h2.fresh (p:=b) (o:=ow) (d:=r) without_self (by rw [<- en];exact Own.flat (o.not_tup gp') q.1 ob);rw [<- en] at h3;exact k _ H' _ r h3 s2 sh q.2
  · exact ht.elim
end
section
variable {X:Cx} {H0:Hp} {x y:Str} {pos p1 p2 p3:Pos} {k:Nat}
variable {f:Str} {sp:Sp2} {e:Expr} {es:List Expr} {tr:RA} {p:Pos}
end
section
variable {X:Cx} {pins:List (Addr × Obj)} {σ:L2.St} {H:Hp} {s:Shared} {a:Addr} {kws:List (Key × V)} {ob:Obj}
theorem frz_hok {P:Program} {w:World} {h:Heap} (ok:HOk P w H h) (e:H a = some (.dK kws)) (eo:h.get? a = some ob):HOk P w (upd H a (.frz ob (.dK kws))) h:=λb o q=>by
  have tp:∀ b xs,H b = some (.tup xs) -> upd H a (.frz ob (.dK kws)) b = some (.tup xs):=λb xs z=>by
    rw [upd_ne λy=>by subst y;rw [e] at z;cases z];exact z
  have ow:∀ b c,H b = some (.own c) -> upd H a (.frz ob (.dK kws)) b = some (.own c):=λb c z=>by
    rw [upd_ne λy=>by subst y;rw [e] at z;cases z];exact z
  by_cases hb:b = a
  · subst hb
    rw [upd_same] at q;cases q;exact ⟨eo,ObjOk.sub tp ow (ok b _ e)⟩
  · rw [upd_ne hb] at q
    exact ObjOk.sub tp ow (ok b o q)
theorem Inv.frz (I:L2.Inv X pins σ H s) (e:H a = some (.dK kws)) (eo:s.heap.get? a = some ob):L2.Inv X pins σ (upd H a (.frz ob (.dK kws))) s:=by
  have ne:∀ {b},H b = none -> b ≠ a:=λ{b} z y=>by subst y;rw [e] at z;cases z
  have nn:∀ {b},H b = none -> upd H a (.frz ob (.dK kws)) b = none:=λ{b} z=>by rw [upd_ne (ne z)];exact z
  have no:∀ {b o},H b = some o -> o ≠ .dK kws -> upd H a (.frz ob (.dK kws)) b = some o:=λ{b o} z y=>by
    rw [upd_ne λw=>by subst w;rw [e] at z;cases z;exact y rfl];exact z
  refine ⟨I.ok,I.os,I.bare,⟨I.base.keep,I.base.slot,λb o q n hx=>nn (I.base.free b o q n hx),I.base.there,λb xs q=>no (I.base.tups b xs q) (λz=>nomatch z),λb o u q=>no (I.base.frzs b o u q) (λz=>nomatch z),λb ps q=>?_⟩,I.loc,I.cell,nn I.free,λx c q=>nn (I.freeC x c q),λp hp=>?_,frz_hok I.hok e eo,I.len⟩
  · obtain ⟨more,z⟩:=I.base.tbls b ps q
    exact ⟨more,no z (λz=>nomatch z)⟩
  · obtain ⟨z1,z2,z3,z4,z5⟩:=I.pin p hp
    exact ⟨z1,nn z2,z3,z4,z5⟩
end
def Itd (a:Addr) (ob:Obj) (kws:List (Key × V)):It :=
  ⟨λi H=>H a = some (.frz ob (.dK kws)) /\ i < kws.length,λi H x H'=>H' = H /\ ∃ p,kws[i]? = some p /\ x = kV p.1,λi H=>H a = some (.frz ob (.dK kws)) /\ kws.length <= i⟩
theorem kV_rel {P:Program} {w:World} {k:Key} {u:Value} (h:(mixKind P w).is k u = true):L2.RelV (kV k) u:=by
  rcases keyIs_shape h with ⟨i,t,rfl,rfl⟩ | ⟨x,t,rfl,rfl⟩
  · exact ⟨t,rfl⟩
  · exact ⟨t,rfl⟩
theorem frz_at {X:Cx} {pins:List (Addr × Obj)} {σ:L2.St} {H:Hp} {s:Shared} {a:Addr} {kws:List (Key × V)} {ob:Obj} {es:Array DictEntry} {ep:Nat} (I:L2.Inv X pins σ H s) (e:H a = some (.frz ob (.dK kws))) (hd:ob.data = .dict es ep) :
 ∃ vs,L2.KV kws vs /\ s.heap.DictAt (mixKind X.prog X.w) a vs ep:=by
  obtain ⟨e1,_,_,vs,kv,o,es',ep',e2,h1,h2,h3⟩:=(show ObjOk X.prog X.w H s.heap a (.frz ob (.dK kws)) from I.hok a _ e);rw [e1] at e2;cases e2;rw [hd] at h2;cases h2;exact ⟨vs,kv,ob,es,e1,h1,hd,h3⟩
theorem turn_dict {P:Program} {w:World} {K:PySem.W.Frag} {tg:Expr} (a it:Addr) (ob:Obj) (kws:List (Key × V)) {es:Array DictEntry} {ep:Nat} (hd:ob.data = .dict es ep):Turn P w K tg (Itd a ob kws) [it] it (λi h=>h.IsKeyIter it a i kws.length ep) where
  mem:=by simp
  obj:=λi h st b hb=>by
    have e:b = it:=by simpa using hb
    subst e;obtain ⟨o,e,c,d⟩:=st;exact ⟨o,e,λv z=>by rw [d] at z;cases z⟩
  keep:=λi h h' st k=>st.at λo e=>k it (by simp) o e
  item:=by
    intro X hP hw hK hc i pins s σ H E I hf st hg;subst hP hw hK;obtain ⟨hq,hi⟩:=hg;obtain ⟨vs,kv,da⟩:=frz_at I hq hd;obtain ⟨u,hu,ru⟩:=KV.get kv (i:=i) (k:=kws[i].1) (v:=kws[i].2) (by simp [hi]);have hl:kws.length = vs.length:=Paired.length kv;rw [hl] at st;obtain ⟨f0,f1,f2,f3,f4,f5⟩:=hf it (by simp);refine wpAny_pyNext_dict_item st da hu λkey h' hk st' sb=>?_
    have I1:L2.Inv X pins σ H { s with heap:=h' }:=I.turned (t':=s.toks) (λb o hb e=>(sb.2 b hb).trans e) f0 f1 f3 f4 f5;obtain ⟨o,e,c,d⟩:=id st'
    exact ⟨key,rfl,go_of (s:={ s with heap:=h' }) e c d (by decide) ⟨kV kws[i].1,H,I1,kV_rel hk,⟨rfl,kws[i],by simp [hi],rfl⟩,by rw [hl];exact st',λb hb=>(hf b hb).1⟩⟩
  done:=by
    intro X hP hw hK hc i pins s σ H E I hf st hg;subst hP hw hK;obtain ⟨hq,hi⟩:=hg;obtain ⟨vs,kv,da⟩:=frz_at I hq hd;have hl:kws.length = vs.length:=Paired.length kv;rw [hl] at st;obtain ⟨f0,f1,f2,f3,f4,f5⟩:=hf it (by simp);exact wpAny_pyNext_dict_end (I.ok.hd hc) st da (by simp;omega) λh' eb=>⟨rfl,I.turned (t':=s.toks) (λb o hb e=>eb b o hb e) f0 f1 f3 f4 f5⟩
  self:=λ_ _ _ _ _ st h=>wpAny_pyIter_keyiter st h
section
variable {X:Cx} {tg:Expr}
end
mutual
theorem Rep.frz {K:PySem.W.Frag} {G:Hp} {a:Addr} {kws:List (Key × V)} {ob:Obj} (ea:G a = some (.dK kws)):∀ (d:D) (v:V),Rep K G d v -> Rep K (upd G a (.frz ob (.dK kws))) d v
  | .non,v,h=>by simpa only [Rep] using h
  | .bl b,v,h=>by simpa only [Rep] using h
  | .int i,v,h=>by simpa only [Rep] using h
  | .str x,v,h=>by simpa only [Rep] using h
  | .adr x,v,h=>by simpa only [Rep] using h
  | .tup xs,v,h=>by
    simp only [Rep] at h ⊢;obtain ⟨b,vs,h1,h2,h3⟩:=h;exact ⟨b,vs,h1,by rw [upd_ne λz=>by subst z;rw [ea] at h2;cases h2];exact h2,Reps.frz ea xs vs h3⟩
  | .lst xs,v,h=>by
    simp only [Rep] at h ⊢;obtain ⟨b,vs,h1,h2,h3⟩:=h;refine ⟨b,vs,h1,?_,Reps.frz ea xs vs h3⟩
    rcases h2 with (h2 | ⟨o,h2⟩) | h2
    · exact .inl (.inl (by rw [upd_ne λz=>by subst z;rw [ea] at h2;cases h2];exact h2))
    · exact .inl (.inr ⟨o,by rw [upd_ne λz=>by subst z;rw [ea] at h2;cases h2];exact h2⟩)
    · exact .inr h2
  | .dK kvs,v,h=>by
    simp only [Rep] at h ⊢;obtain ⟨b,vs,h1,h2,h3⟩:=h;refine ⟨b,vs,h1,?_,RepK.frz ea kvs vs h3⟩
    by_cases hb:b = a
    · subst hb
      rcases h2 with h2 | ⟨o,h2⟩
      · rw [ea] at h2;cases h2;exact .inr ⟨ob,upd_same⟩
      · rw [ea] at h2;cases h2
    · rcases h2 with h2 | ⟨o,h2⟩
      · exact .inl (by rw [upd_ne hb];exact h2)
      · exact .inr ⟨o,by rw [upd_ne hb];exact h2⟩
  | .dT kvs,v,h=>by
    simp only [Rep] at h ⊢;obtain ⟨b,vs,h1,h2,h3⟩:=h;refine ⟨b,vs,h1,?_,RepT.frz ea kvs vs h3⟩
    rcases h2 with h2 | ⟨o,h2⟩
    · exact .inl (by rw [upd_ne λz=>by subst z;rw [ea] at h2;cases h2];exact h2)
    · exact .inr ⟨o,by rw [upd_ne λz=>by subst z;rw [ea] at h2;cases h2];exact h2⟩
theorem Reps.frz {K:PySem.W.Frag} {G:Hp} {a:Addr} {kws:List (Key × V)} {ob:Obj} (ea:G a = some (.dK kws)):∀ (ds:List D) (vs:List V),Reps K G ds vs -> Reps K (upd G a (.frz ob (.dK kws))) ds vs
  | [],vs,h=>by simpa only [Reps] using h
  | d :: ds,vs,h=>by
    simp only [Reps] at h ⊢;obtain ⟨v,r,h1,h2,h3⟩:=h;exact ⟨v,r,h1,Rep.frz ea d v h2,Reps.frz ea ds r h3⟩
theorem RepK.frz {K:PySem.W.Frag} {G:Hp} {a:Addr} {kws:List (Key × V)} {ob:Obj} (ea:G a = some (.dK kws)):∀ (ds:List (Key × D)) (vs:List (Key × V)),RepK K G ds vs -> RepK K (upd G a (.frz ob (.dK kws))) ds vs
  | [],vs,h=>by simpa only [RepK] using h
  | (k,d) :: ds,vs,h=>by
    simp only [RepK] at h ⊢;obtain ⟨v,r,h1,h2,h3⟩:=h;exact ⟨v,r,h1,Rep.frz ea d v h2,RepK.frz ea ds r h3⟩
theorem RepT.frz {K:PySem.W.Frag} {G:Hp} {a:Addr} {kws:List (Key × V)} {ob:Obj} (ea:G a = some (.dK kws)):∀ (ds:List (List Key × D)) (vs:List (List Key × V)),RepT K G ds vs -> RepT K (upd G a (.frz ob (.dK kws))) ds vs
  | [],vs,h=>by simpa only [RepT] using h
  | (k,d) :: ds,vs,h=>by
    simp only [RepT] at h ⊢;obtain ⟨v,r,h1,h2,h3⟩:=h;exact ⟨v,r,h1,Rep.frz ea d v h2,RepT.frz ea ds r h3⟩
end
theorem Own.frz {K:PySem.W.Frag} {G H H':Hp} {a p:Addr} {kws:List (Key × V)} {ob:Obj} {d:D} (ea:G a = some (.dK kws)) (h:Own K G H p d) (e:H' p = H p):Own K (upd G a (.frz ob (.dK kws))) H' p d:=by
  cases d with
  | lst ds=>obtain ⟨vs,h1,h2⟩:=h;exact ⟨vs,e.trans h1,Reps.frz ea _ _ h2⟩
  | dK ds=>obtain ⟨vs,h1,h2⟩:=h;exact ⟨vs,e.trans h1,RepK.frz ea _ _ h2⟩
  | dT ds=>obtain ⟨vs,h1,h2⟩:=h;exact ⟨vs,e.trans h1,RepT.frz ea _ _ h2⟩
  | _=>exact h.elim
theorem Hs.refrz {K:PySem.W.Frag} {H0:Hp} {σ:L2.St} {δ:List Sl} {G H:Hp} {a:Addr} {kws:List (Key × V)} {ob:Obj} (h:Hs K H0 σ δ G H) (ea:G a = some (.dK kws)) (h0:H0 a = none) :
 Hs K H0 σ δ (upd G a (.frz ob (.dK kws))) (upd H a (.frz ob (.dK kws))):=by
  have na:∀ i,¬ At σ δ i a:=λi z=>by
    rcases h.ex a with ⟨_,y⟩ | ⟨y,_⟩
    · exact y i z
    · rw [ea] at y;cases y
  have ne:∀ {i b},At σ δ i b -> b ≠ a:=λ{i b} z y=>by subst y;exact na i z
  refine ⟨h.len,λb o q=>?_,λb=>?_,λi d e=>?_,λi d e=>?_,λi p d e=>?_,h.ne⟩
  · rw [upd_ne λz=>by subst z;rw [h0] at q;cases q];exact h.base b o q
  · by_cases hb:b = a
    · subst hb;exact .inl ⟨by rw [upd_same,upd_same],na⟩
    · rw [upd_ne hb,upd_ne hb];exact h.ex b
  · obtain ⟨v,e1,r⟩:=h.fr i d e
    exact ⟨v,e1,Rep.frz ea _ _ r⟩
  · obtain ⟨p,e1,o⟩:=h.ow i d e
    exact ⟨p,e1,Own.frz ea o (upd_ne (ne ⟨_,e,True.intro,e1⟩))⟩
  · obtain ⟨e1,o⟩:=h.lk i p d e
    exact ⟨e1,Own.frz ea o (upd_ne (ne ⟨_,e,True.intro,e1⟩))⟩
section
variable {X:Cx} {H0:Hp} {tg:Expr} {g:RG} {body:List Stmt} {tb:RS} {pos p:Pos} {x:Str}
def keysD (kvs:List (Key × D)):List D:=kvs.map λq=>kD q.1
theorem kD_rep {K:PySem.W.Frag} {G:Hp} (k:Key):Rep K G (kD k) (kV k):=by cases k <;> simp only [kD,kV,Rep]
end
section
variable {prog:Program} {w:World} {A:Around} {E:Value -> Shared -> Prop} {s:Shared}
end
section
variable {X:Cx} {H0:Hp} {e:Expr} {es:List Expr} {tr:RA} {pos p:Pos}
end
section
variable {X:Cx} {H0:Hp} {e value:Expr} {te tv:RE} {pos pos' cpos apos p:Pos} {x:Str}
theorem Vals.set:∀ {xs:List V} {us:List Value} (i:Nat) {y:V} {u:Value},Vals xs us -> L2.RelV y u -> Vals (xs.set i y) (us.set i u)
  | _,_,_,_,_,.nil,_=>.nil
  | _,_,0,_,_,.cons r t,q=>.cons q t
  | _,_,i + 1,_,_,.cons r t,q=>.cons r (Vals.set i t q)
end
section
variable {X:Cx} {H0:Hp} {ts:List Expr} {k:Nat} {tp p p2 pos pos2:Pos} {a:Expr} {ta:RE} {g:RG} {tb:RS} {body:List Stmt} {x:Str}
end
section
variable {K:PySem.W.Frag} {H0:Hp} {σ:L2.St} {δ:List Sl} {G H:Hp}
end
section
variable {X:Cx} {H0:Hp} {e e1 e2:Expr} {t t1 t2:RE} {pos p1 p3:Pos} {k3:Nat} {x:Str}
end
section
variable {X:Cx} {H0:Hp} {f x:Str} {sp:Sp2} {e:Expr} {es:List Expr} {tr:RA} {k:Nat} {p p1 pos p5:Pos}
end
section
variable {K:PySem.W.Frag} {H0:Hp} {σ:L2.St} {δ:List Sl} {G H:Hp} {i k g:Nat} {q:Addr} {ds:List D} {y:D}
end
section
variable {X:Cx} {H0:Hp} {e:Expr} {t:RE} {u:RT}
end
section
variable {X:Cx} {H0:Hp} {e:Expr} {te:RE} {pos cpos apos p ps pk:Pos} {x:Str} {kc:Nat}
end
section
variable {X:Cx} {H0:Hp} {f x:Str} {sp:Sp2} {e:Expr} {es:List Expr} {tr:RA} {k:Nat} {p p1 pos p5:Pos}
end
section
variable {X:Cx} {H0:Hp} {e a:Expr} {te ta:RE} {pos pos' cpos apos p p2 p3 p4 p5 p6:Pos} {x f:Str} {j:Nat}
structure rIfPop (i:Nat) (t:RT) (ta:RE) (sp:Sp2) (tb te:RS) (E:Ends2) (δ:List Sl):Prop where
  run:t δ λk=>Two k (tb E δ) (ta δ λdx=>match δ[i]? with
    | some (.ow (.lst ys))=>∃ y,ys[ys.length - 1]? = some y /\ sp [y] (retQ λr=>plainD 60 dx = true /\ plainD 60 r = true /\ Two (true != eqD dx r) (tb E (δ.set i (.ow (.lst ys.dropLast)))) (te E (δ.set i (.ow (.lst ys.dropLast)))))
    | _=>False)
end
def CX1 (P:Program) (w:World):CXT:=λouter H s E e s'=>∃ (ea C t:Addr) (B:Heap) (H':Hp),e = .ref ea /\ s'.os = s.os /\ AllBare s'.gens /\ Heap.FlyingW B outer ea (.ref C) (.ref t) s'.heap /\
  (∀ h6,B.StaysIn h6 -> s'.heap.UpToSlots h6 -> Un (frs outer) [] H H' s.heap h6 /\ HOk P w H' h6) /\ H' ea = none /\ s.heap.get? ea = none /\ E (.ref C) (some ea) H'
section
variable {P:Program} {w:World} {K:PySem.W.Frag} {mg:Str -> Option Value} {base:Heap} {N:List Str} {qual:Str} {scope:Scope} {f:Addr} {cd:Value} {A:Around} {outer:List Env} {s s1:Shared} {H H1:Hp} {E:XK} {pins:List (Addr × Obj)} {σ:L2.St}
end
abbrev RJ:=List Sl -> (Str -> Prop) -> Prop
section
variable {X:Cx} {H0:Hp} {es:List Expr} {e:Expr} {te:RE} {tj:RJ} {c:Str} {pos:Pos} {j:Nat}
end
structure Err (K:PySem.W.Frag) (mg:Str -> Option Value) (base:Heap) (x:Str) (C:Addr) (bm:List Value):Prop where
  ex:∃ B newId initId,ExcBaseFacts B newId initId bm /\ OwnCls x C bm newId mg base
section
variable {X:Cx} {H0:Hp} {x:Str} {C:Addr} {bm:List Value} {e:Expr} {es:List Expr} {tr:RA} {np cpos pos:Pos} {R:Prop}
end
abbrev SpX:=List D -> (Ret -> Prop) -> (Str -> Prop) -> Prop
def liftX (K:PySem.W.Frag) (mg:Str -> Option Value) (sp:SpX):Sp:=λvs H Q E=>∃ ds Qd Xd,Reps K H ds vs /\ sp ds Qd Xd /\ (∀ v H' r,RetOk K H H' v r -> Qd r -> Q v H') /\ ∀ x C a H',Xd x -> mg x = some (.ref C) -> Same H H' -> E (.ref C) (some a) H'
section
variable {P:Program} {w:World} {K:PySem.W.Frag} {mg:Str -> Option Value} {base:Heap}
end
structure FnX (P:Program) (w:World) (K:PySem.W.Frag) (mg:Str -> Option Value) (base:Heap) (k:Nat) (x:Str) (sp:SpX):Prop where
  ex:∃ (f:Addr) (fd:FuncData) (ps:List Str),FnOk P w K mg base (CX1 P w) k f fd ps (liftX K mg sp) /\ mg x = some (.ref f) /\ PySem.W.keepIn K (.ref f) = true /\ Binds K fd ps []
def Fly (X:Cx) (H0:Hp) (pins:List (Addr × Obj)) (σ:L2.St) (δ:List Sl) (G H:Hp) (x:Str) (ea:Addr) (s':Shared):Prop:=∃ (C t:Addr) (B:Heap) (G2 H2:Hp),X.mg x = some (.ref C) /\ Heap.FlyingW B X.stack ea (.ref C) (.ref t) s'.heap /\ (X.ex = [] -> X.s₀.heap.get? ea = none) /\
  ∀ h6,B.StaysIn h6 -> s'.heap.UpToSlots h6 -> Inv X pins σ H2 { s' with heap:=h6 } /\ Nx X.K H0 σ δ G H G2 H2 /\ H2 ea = none
section
variable {X:Cx} {H0:Hp} {k:Nat} {x:Str} {sp:SpX} {e:Expr} {es:List Expr} {tr:RA} {p pos:Pos}
end
section
variable {X:Cx} {H0:Hp} {pins:List (Addr × Obj)} {σ:L2.St} {δ:List Sl} {G H:Hp} {x y:Str} {ea:Addr} {s':Shared} {b₀:Stmt} {suite:List Stmt} {np hpos:Pos} {rest:List ExceptHandler} {Q:Flow -> Shared -> Prop}
end
section
variable {X:Cx} {H0:Hp} {k:Nat} {f y:Str} {sp:SpX} {e:Expr} {es:List Expr} {tr:RA} {p np cpos epos hpos pos:Pos} {b₀:Stmt} {suite:List Stmt} {tb:RS}
end
end M
namespace PySem.W
open PySem PySem.Spec PySem.Calls PyProof.Rows Builtin Builtin.ObjectAttr Builtin.Getset_descriptor
section
variable {prog:Program} {w:World} {A:Around} {E:Value -> Shared -> Prop} {s:Shared} {K:Frag} {x D:Addr} {name:Str}
end
end PySem.W
namespace M
open PySem PySem.Spec PyProof.Rows L2
section
variable {Mo:Model} {A:Around} {E:Value -> Shared -> Prop}
variable {nm q nm' q':Str} {C N C' N':Addr} {bs bm bs' bm':List Value} {hdct hdct':Bool} {sn sn':List Str} {sub sub':List Value} {ab ab':Bool} {col col':Option Bool} {dd dd':Option Addr} {k0 k1 k2 k3 k5 j0 j1 j2 j3 j5:Option Value} {newId newId':String}
end
section
variable {X:Cx} {pins:List (Addr × Obj)} {σ:L2.St} {H:Hp} {s:Shared}
end
section
variable {X:Cx} {H0:Hp} {k:Nat} {f y c n:Str} {sp:SpX} {e:Expr} {es:List Expr} {tr:RA} {p np cpos epos hpos pos:Pos} {b₀:Stmt} {suite:List Stmt} {tb:Addr -> RS} {i:Nat}
end
structure ErrK (K:PySem.W.Frag) (C:Addr):Prop where
  c:PySem.W.hasDictIn K C = true
  ga:PySem.W.findIn K (.ref C) "__getattribute__" = some (some (.builtin "BaseException.__getattribute__"))
  gt:PySem.W.findIn K (.ref C) "__getattr__" = some none
  a:PySem.W.findIn K (.ref C) "__class__" = some (some (.builtin "object.__class__"))
  n:PySem.W.specialIn K (.builtin "object.__class__") "__get__" = some (some (.builtin "getset_descriptor.__get__"))
  t:PySem.W.takesIn K (.builtin "object.__class__") = some true
  m:PySem.W.mroIn K C (.type "object") = some true
  mb:PySem.W.mroIn K C (.type "BaseException") = some true
section
variable {X:Cx} {H0:Hp} {ea C:Addr} {ob:Obj} {e:Expr} {te:RE} {c:Str} {T:String} {C':Addr} {b:Bool} {p p2 pos:Pos}
end
def Pass (X:Cx) (H0:Hp) (x:Str):Prop:=∀ (pins:List (Addr × Obj)) (σ:L2.St) (δ:List Sl) (G H:Hp) (ea:Addr) (s':Shared),Fly X H0 pins σ δ G H x ea s' -> X.xe (.ref ea) s'
section
variable {P:Program} {w:World} {K:PySem.W.Frag} {mg:Str -> Option Value} {base:Heap} {N:List Str} {qual:Str} {scope:Scope} {f:Addr} {cd:Value} {A:Around} {outer:List Env} {s:Shared} {H:Hp} {E:XK} {x:Str}
end
section
variable {X:Cx} {H0:Hp} {k:Nat} {f:Str} {sp:SpX} {e:Expr} {es:List Expr} {tr:RA} {p cpos:Pos} {R:Str -> Prop}
end
section
variable {X:Cx} {H0:Hp} {g:Str} {tab:List (Str × Addr)} {e a:Expr} {te ta:RE} {np pos pos2:Pos}
end
mutual
theorem Rep.unfrz {K:PySem.W.Frag} {G:Hp} {a:Addr} {kws:List (Key × V)} {ob:Obj} (ea:G a = some (.frz ob (.dK kws))):∀ (d:D) (v:V),Rep K G d v -> Rep K (upd G a (.dK kws)) d v
  | .non,v,h=>by simpa only [Rep] using h
  | .bl b,v,h=>by simpa only [Rep] using h
  | .int i,v,h=>by simpa only [Rep] using h
  | .str x,v,h=>by simpa only [Rep] using h
  | .adr x,v,h=>by simpa only [Rep] using h
  | .tup xs,v,h=>by
    simp only [Rep] at h ⊢;obtain ⟨b,vs,h1,h2,h3⟩:=h;exact ⟨b,vs,h1,by rw [upd_ne λz=>by subst z;rw [ea] at h2;cases h2];exact h2,Reps.unfrz ea xs vs h3⟩
  | .lst xs,v,h=>by
    simp only [Rep] at h ⊢;obtain ⟨b,vs,h1,h2,h3⟩:=h;refine ⟨b,vs,h1,?_,Reps.unfrz ea xs vs h3⟩
    rcases h2 with (h2 | ⟨o,h2⟩) | h2
    · exact .inl (.inl (by rw [upd_ne λz=>by subst z;rw [ea] at h2;cases h2];exact h2))
    · exact .inl (.inr ⟨o,by rw [upd_ne λz=>by subst z;rw [ea] at h2;cases h2];exact h2⟩)
    · exact .inr h2
  | .dK kvs,v,h=>by
    simp only [Rep] at h ⊢;obtain ⟨b,vs,h1,h2,h3⟩:=h;refine ⟨b,vs,h1,?_,RepK.unfrz ea kvs vs h3⟩
    by_cases hb:b = a
    · subst hb
      rcases h2 with h2 | ⟨o,h2⟩
      · rw [ea] at h2;cases h2
      · rw [ea] at h2;cases h2;exact .inl upd_same
    · rcases h2 with h2 | ⟨o,h2⟩
      · exact .inl (by rw [upd_ne hb];exact h2)
      · exact .inr ⟨o,by rw [upd_ne hb];exact h2⟩
  | .dT kvs,v,h=>by
    simp only [Rep] at h ⊢;obtain ⟨b,vs,h1,h2,h3⟩:=h;refine ⟨b,vs,h1,?_,RepT.unfrz ea kvs vs h3⟩
    rcases h2 with h2 | ⟨o,h2⟩
    · exact .inl (by rw [upd_ne λz=>by subst z;rw [ea] at h2;cases h2];exact h2)
    · exact .inr ⟨o,by rw [upd_ne λz=>by subst z;rw [ea] at h2;cases h2];exact h2⟩
theorem Reps.unfrz {K:PySem.W.Frag} {G:Hp} {a:Addr} {kws:List (Key × V)} {ob:Obj} (ea:G a = some (.frz ob (.dK kws))):∀ (ds:List D) (vs:List V),Reps K G ds vs -> Reps K (upd G a (.dK kws)) ds vs
  | [],vs,h=>by simpa only [Reps] using h
  | d :: ds,vs,h=>by
    simp only [Reps] at h ⊢;obtain ⟨v,r,h1,h2,h3⟩:=h;exact ⟨v,r,h1,Rep.unfrz ea d v h2,Reps.unfrz ea ds r h3⟩
theorem RepK.unfrz {K:PySem.W.Frag} {G:Hp} {a:Addr} {kws:List (Key × V)} {ob:Obj} (ea:G a = some (.frz ob (.dK kws))):∀ (ds:List (Key × D)) (vs:List (Key × V)),RepK K G ds vs -> RepK K (upd G a (.dK kws)) ds vs
  | [],vs,h=>by simpa only [RepK] using h
  | (k,d) :: ds,vs,h=>by
    simp only [RepK] at h ⊢;obtain ⟨v,r,h1,h2,h3⟩:=h;exact ⟨v,r,h1,Rep.unfrz ea d v h2,RepK.unfrz ea ds r h3⟩
theorem RepT.unfrz {K:PySem.W.Frag} {G:Hp} {a:Addr} {kws:List (Key × V)} {ob:Obj} (ea:G a = some (.frz ob (.dK kws))):∀ (ds:List (List Key × D)) (vs:List (List Key × V)),RepT K G ds vs -> RepT K (upd G a (.dK kws)) ds vs
  | [],vs,h=>by simpa only [RepT] using h
  | (k,d) :: ds,vs,h=>by
    simp only [RepT] at h ⊢;obtain ⟨v,r,h1,h2,h3⟩:=h;exact ⟨v,r,h1,Rep.unfrz ea d v h2,RepT.unfrz ea ds r h3⟩
end
theorem Own.unfrz {K:PySem.W.Frag} {G H H':Hp} {a p:Addr} {kws:List (Key × V)} {ob:Obj} {d:D} (ea:G a = some (.frz ob (.dK kws))) (h:Own K G H p d) (e:H' p = H p):Own K (upd G a (.dK kws)) H' p d:=by
  cases d with
  | lst ds=>obtain ⟨vs,h1,h2⟩:=h;exact ⟨vs,e.trans h1,Reps.unfrz ea _ _ h2⟩
  | dK ds=>obtain ⟨vs,h1,h2⟩:=h;exact ⟨vs,e.trans h1,RepK.unfrz ea _ _ h2⟩
  | dT ds=>obtain ⟨vs,h1,h2⟩:=h;exact ⟨vs,e.trans h1,RepT.unfrz ea _ _ h2⟩
  | _=>exact h.elim
theorem Hs.unfrz {K:PySem.W.Frag} {H0 H1:Hp} {σ:L2.St} {δ:List Sl} {G H:Hp} {a:Addr} {kws:List (Key × V)} {ob:Obj} (h:Hs K H1 σ δ G H) (ea:G a = some (.frz ob (.dK kws))) (hb:Same H0 (upd G a (.dK kws))) :
 Hs K H0 σ δ (upd G a (.dK kws)) (upd H a (.dK kws)):=by
  have na:∀ i,¬ At σ δ i a:=λi z=>by
    rcases h.ex a with ⟨_,y⟩ | ⟨y,_⟩
    · exact y i z
    · rw [ea] at y;cases y
  have ne:∀ {i b},At σ δ i b -> b ≠ a:=λ{i b} z y=>by subst y;exact na i z
  refine ⟨h.len,hb,λb=>?_,λi d e=>?_,λi d e=>?_,λi p d e=>?_,h.ne⟩
  · by_cases hb:b = a
    · subst hb;exact .inl ⟨by rw [upd_same,upd_same],na⟩
    · rw [upd_ne hb,upd_ne hb];exact h.ex b
  · obtain ⟨v,e1,r⟩:=h.fr i d e
    exact ⟨v,e1,Rep.unfrz ea _ _ r⟩
  · obtain ⟨p,e1,o⟩:=h.ow i d e
    exact ⟨p,e1,Own.unfrz ea o (upd_ne (ne ⟨_,e,True.intro,e1⟩))⟩
  · obtain ⟨e1,o⟩:=h.lk i p d e
    exact ⟨e1,Own.unfrz ea o (upd_ne (ne ⟨_,e,True.intro,e1⟩))⟩
theorem Hs.rebase {K:PySem.W.Frag} {H0 H1:Hp} {σ:L2.St} {δ:List Sl} {G H:Hp} (h:Hs K H0 σ δ G H) (b:Same H1 G):Hs K H1 σ δ G H:=⟨h.len,b,h.ex,h.fr,h.ow,h.lk,h.ne⟩
section
variable {X:Cx} {pins:List (Addr × Obj)} {σ:L2.St} {H:Hp} {s:Shared} {a:Addr} {kws:List (Key × V)} {ob:Obj}
theorem unfrz_hok {P:Program} {w:World} {h:Heap} (ok:HOk P w H h) (e:H a = some (.frz ob (.dK kws))):HOk P w (upd H a (.dK kws)) h:=λb o q=>by
  have tp:∀ b xs,H b = some (.tup xs) -> upd H a (.dK kws) b = some (.tup xs):=λb xs z=>by
    rw [upd_ne λy=>by subst y;rw [e] at z;cases z];exact z
  have ow:∀ b c,H b = some (.own c) -> upd H a (.dK kws) b = some (.own c):=λb c z=>by
    rw [upd_ne λy=>by subst y;rw [e] at z;cases z];exact z
  by_cases hb:b = a
  · subst hb
    rw [upd_same] at q;cases q;exact ObjOk.sub tp ow (ok b _ e).2
  · rw [upd_ne hb] at q
    exact ObjOk.sub tp ow (ok b o q)
theorem Inv.unfrz (I:L2.Inv X pins σ H s) (e:H a = some (.frz ob (.dK kws))) (hx:∀ o u,X.H₀ a ≠ some (.frz o u)):L2.Inv X pins σ (upd H a (.dK kws)) s:=by
  have ne:∀ {b},H b = none -> b ≠ a:=λ{b} z y=>by subst y;rw [e] at z;cases z
  have nn:∀ {b},H b = none -> upd H a (.dK kws) b = none:=λ{b} z=>by rw [upd_ne (ne z)];exact z
  have no:∀ {b o},H b = some o -> o ≠ .frz ob (.dK kws) -> upd H a (.dK kws) b = some o:=λ{b o} z y=>by
    rw [upd_ne λw=>by subst w;rw [e] at z;cases z;exact y rfl];exact z
  refine ⟨I.ok,I.os,I.bare,⟨I.base.keep,I.base.slot,λb o q n hx=>nn (I.base.free b o q n hx),I.base.there,λb xs q=>no (I.base.tups b xs q) (λz=>nomatch z),λb o u q=>?_,λb ps q=>?_⟩,I.loc,I.cell,nn I.free,λx c q=>nn (I.freeC x c q),λp hp=>?_,unfrz_hok I.hok e,I.len⟩
  · rw [upd_ne λz=>by subst z;exact hx o u q];exact I.base.frzs b o u q
  · obtain ⟨more,z⟩:=I.base.tbls b ps q
    exact ⟨more,no z (λz=>nomatch z)⟩
  · obtain ⟨z1,z2,z3,z4,z5⟩:=I.pin p hp
    exact ⟨z1,nn z2,z3,z4,z5⟩
end
section
variable {X:Cx} {tg:Expr}
def iDictF (tl:TE):TI:=λσ H R=>tl σ H λx H1=>∃ a kws,x = .ref a /\ ((H1 a = some (.dK kws) /\ ∀ ob,R (Itd a ob kws) (upd H1 a (.frz ob (.dK kws)))) \/ ∃ ob,H1 a = some (.frz ob (.dK kws)) /\ R (Itd a ob kws) H1)
theorem pi_dictF {l:Expr} {tl:TE} (hl:PE X l tl):PI X tg l (iDictF tl):=by
  intro pins s σ H R I h;refine thn (hl pins s σ H _ I h) λv s1 ⟨x,H1,I1,r1,q1⟩=>?_
  obtain ⟨a,kws,e,q⟩:=q1;subst e;cases r1
  rcases q with ⟨hq,q⟩ | ⟨ob,hq,q⟩
  · obtain ⟨hz,hS,vs,kv,ob,es,ep,ho,h1,h2,h3⟩:=dk_of I1.hok hq
    have I2:=Inv.frz I1 hq ho;have hl:kws.length = vs.length:=Paired.length kv;refine wpAny_pyIter_dict hS (⟨ob,es,ho,h1,h2,h3⟩:s1.heap.DictAt (mixKind X.prog X.w) a vs ep) ?_;rw [<- hl];refine ⟨s1.heap.objs.size,[s1.heap.objs.size],_,_,_,rfl,I2.kept (t':=s1.toks) λb o e=>Heap.get?_push_of_some _ e,turn_dict a _ ob kws h2,⟨_,Heap.get?_push_size _ rfl,rfl,rfl⟩,λb hb=>?_,q ob⟩;have e:b = s1.heap.objs.size:=by simpa using hb
    subst e;exact I2.fpOk (Nat.le_refl _) (I2.hok.fresh (Nat.le_refl _))
  · obtain ⟨e1,hz,hS,vs,kv,o,es,ep,ho,h1,h2,h3⟩:=(show ObjOk X.prog X.w H1 s1.heap a (.frz ob (.dK kws)) from I1.hok a _ hq)
    rw [e1] at ho;cases ho;have hl:kws.length = vs.length:=Paired.length kv;refine wpAny_pyIter_dict hS (⟨ob,es,e1,h1,h2,h3⟩:s1.heap.DictAt (mixKind X.prog X.w) a vs ep) ?_;rw [<- hl];refine ⟨s1.heap.objs.size,[s1.heap.objs.size],_,_,_,rfl,I1.kept (t':=s1.toks) λb o e=>Heap.get?_push_of_some _ e,turn_dict a _ ob kws h2,⟨_,Heap.get?_push_size _ rfl,rfl,rfl⟩,λb hb=>?_,q⟩;have e:b = s1.heap.objs.size:=by simpa using hb
    subst e;exact I1.fpOk (Nat.le_refl _) (I1.hok.fresh (Nat.le_refl _))
end
section
variable {X:Cx} {H0:Hp} {tg:Expr} {g:RG} {body:List Stmt} {tb:RS} {pos p:Pos} {x:Str}
def rForKF (i:Nat) (g:RG) (tb:RS) (E:Ends2) (δ:List Sl):Prop:=match δ[i]? with
  | some (.fr (.dK kvs))=>loop g tb { nx:=E.nx,rt:=λ_ _=>False } (keysD kvs) δ
  | _=>False
theorem s_forKF (i:Nat) (hp:PassesOwn (model X.prog X.w) X.A X.env X.xe) (hc:X.calm = true) (hg:∀ H1,PG2 X H1 tg g) (hb:∀ H1,PSs2 X H1 body tb) (hN:X.N[i]? = some x:=by rfl) (hv:Vis X.env.scope x:=by first | exact Or.inl rfl | exact Or.inr (Or.inl rfl) | exact Or.inr (Or.inr rfl)) (hd:(x == ("__debug__" : Str)) = false:=by decide)
 (hcd:(x == ("__classdict__" : Str)) = false:=by decide) (hs:∀ y,foldedSetIterable (.Name x p) X.env y = pure y:=by intro _;rfl) :
 PS2 X H0 (.For tg (.Name x p) body [] pos) (rForKF i g tb):=by
  intro pins s σ H D I ⟨δ,G,E,hs0,ht,go⟩;unfold rForKF at ht
  split at ht
  · rename_i kvs e0
    obtain ⟨v,e1,r⟩:=hs0.fr i _ e0;simp only [Rep] at r;obtain ⟨a,kws,rfl,hq,rk⟩:=r;have hlen:kvs.length = kws.length:=rk.length;have ks:kvs.map (·.1) = kws.map (·.1):=rk.keys;have hkl:(keysD kvs).length = kws.length:=by simp [keysD,hlen]
    have walk:∀ (H1 G2 H2:Hp) (ob:Obj) (D':Ends),Hs X.K H1 σ δ G2 H2 -> G2 a = some (.frz ob (.dK kws)) -> Go X.K H1 G2 { nx:=E.nx,rt:=λ_ _=>False } D' ->
        ∃ W:Nat -> Nat -> L2.St -> Hp -> Prop,(∃ m,W 0 m σ H2) /\ ∀ k m σ' H',W k m σ' H' -> (Itd a ob kws).stop k H' /\ D'.nx σ' H' \/ (Itd a ob kws).go k H' /\ ∃ N:L2.St -> Hp -> Prop,(∀ σ2 H2,N σ2 H2 -> ∃ m',m' < m /\ W (k + 1) m' σ2 H2) /\
          ∀ y H2,(Itd a ob kws).yld k H' y H2 -> liftG X.K H1 g y σ' H2 λσ3 H3=>liftS X.K H1 tb { nx:=N,rt:=D'.rt,bk:=D'.nx,ct:=N } σ3 H3:=by
      intro H1 G2 H2 ob D' h2 g2 go';refine ⟨λk m σ' H'=>m = kws.length - k /\ k <= kws.length /\ ∃ δ' G',Hs X.K H1 σ' δ' G' H' /\ Same G2 G' /\ loop g tb { nx:=E.nx,rt:=λ_ _=>False } ((keysD kvs).drop k) δ',⟨kws.length,by simp,Nat.zero_le _,_,G2,h2,Same.refl _,ht⟩,?_⟩;rintro k m σ' H' ⟨rfl,hk,δ',G',h',s',q'⟩;have ha':H' a = some (.frz ob (.dK kws)):=h'.sub _ _ (s' _ _ g2)
      by_cases hlt:k < kws.length
      · refine .inr ⟨⟨ha',hlt⟩,λσ2 H2=>∃ δ2 G2',Hs X.K H1 σ2 δ2 G2' H2 /\ Same G2 G2' /\ loop g tb { nx:=E.nx,rt:=λ_ _=>False } ((keysD kvs).drop (k + 1)) δ2,λσ2 H2 h2=>⟨kws.length - (k + 1),by omega,rfl,by omega,h2⟩,λy H2 z=>?_⟩
        obtain ⟨rfl,pr,ek,rfl⟩:=z;have hd':(keysD kvs)[k]? = some (kD pr.1):=by
          have : (kvs.map (·.1))[k]? = some pr.1:=by rw [ks,List.getElem?_map,ek];rfl
          unfold keysD;rw [List.getElem?_map] at this ⊢
          cases q:kvs[k]? with
          | none=>rw [q] at this;cases this
          | some z=>rw [q] at this;simp at this ⊢;rw [this]
        have hkd:k < (keysD kvs).length:=by omega
        have ed':(keysD kvs)[k] = kD pr.1:=by
          have:=List.getElem?_eq_getElem hkd;rw [this] at hd';exact Option.some.inj hd'
        rw [List.drop_eq_getElem_cons hkd,ed'] at q';exact ⟨δ',G',kD pr.1,_,h',kD_rep _,q',λσ2 H2 δ2 G3 h2' s2' q2=>⟨δ2,G3,_,h2',q2,⟨λσ3 H3 δ3 G4 h3' s3 ⟨δ4,f4,q3⟩=>⟨δ4,G4,h3'.forget f4,(s'.trans s2').trans s3,q3⟩,λ_ _ _ _ _ z=>z.elim,λσ3 H3 δ3 G4 h3' s3 q3=>go'.nx σ3 H3 δ3 G4 h3' ((s'.trans s2').trans s3) q3,λσ3 H3 δ3 G4 h3' s3 ⟨δ4,f4,q3⟩=>⟨δ4,G4,h3'.forget f4,(s'.trans s2').trans s3,q3⟩⟩⟩⟩
      · have e:k = kws.length:=by omega
        subst e;rw [List.drop_of_length_le (by omega)] at q';exact .inl ⟨⟨ha',Nat.le_refl _⟩,go'.nx σ' H' δ' G' h' s' q'⟩
    rcases hq with hq | ⟨ob,hq⟩
    · have ha:H a = some (.dK kws):=hs0.sub _ _ hq
      have hx:∀ o u,X.H₀ a ≠ some (.frz o u):=λo u z=>by
        have:=I.base.frzs a o u z;rw [ha] at this;cases this
      have hR:∀ H1:Hp,PS X (.For tg (.Name x p) body [] pos) _:=λH1=>ps_for hp hc (pi_dictF (pe_var hN hv hd hcd)) (hg H1) (hb H1) hs
      refine wpAny_mono (hR (without H0 a) pins s σ H { nx:=λσ' H'=>(∃ ob,H' a = some (.frz ob (.dK kws))) /\ D.nx σ' (upd H' a (.dK kws)),rt:=λ_ _=>False,bk:=λ_ _=>False,ct:=λ_ _=>False } I ⟨.ref a,e1,a,kws,rfl,.inl ⟨ha,λob=>?_⟩⟩) (λf s' q=>?_) λ_ _ z=>z
      · have na:∀ j,¬ At σ δ j a:=λj z=>by
          rcases hs0.ex a with ⟨_,y⟩ | ⟨y,_⟩
          · exact y j z
          · rw [hq] at y;cases y
        have h2:=(hs0.rebase (H1:=without H0 a) (λb u q=>by
          by_cases hb:b = a
          · subst hb;rw [without_self] at q;cases q
          · rw [without_ne hb] at q;exact hs0.base b u q)).refrz (ob:=ob) hq without_self
        refine walk (without H0 a) _ _ ob _ h2 upd_same ⟨λσ' H' δ' G' h' s' q=>?_,λ_ _ _ _ _ z=>z.elim,λ_ _ _ _ _ _ z=>z.elim,λ_ _ _ _ _ _ z=>z.elim⟩;have ga':G' a = some (.frz ob (.dK kws)):=s' _ _ upd_same;have sG:Same G (upd G' a (.dK kws)):=λb u q=>by
          by_cases hb:b = a
          · subst hb;rw [hq] at q;cases q;exact upd_same
          · rw [upd_ne hb];exact s' b u (by rw [upd_ne hb];exact q)
        refine ⟨⟨ob,h'.sub _ _ ga'⟩,go.nx _ _ δ' _ (h'.unfrz (H0:=H0) ga' (hs0.base.trans sG)) sG q⟩
      · cases f with
        | next =>
          obtain ⟨σ',H',I',⟨ob,e⟩,q⟩:=q;exact ⟨σ',_,Inv.unfrz I' e hx,q⟩
        | brk=>obtain ⟨_,_,_,z⟩:=q;exact z.elim
        | cont=>obtain ⟨_,_,_,z⟩:=q;exact z.elim
        | ret u=>obtain ⟨_,_,_,_,_,z⟩:=q;exact z.elim
    · have ha:H a = some (.frz ob (.dK kws)):=hs0.sub _ _ hq
      have hR:PS X (.For tg (.Name x p) body [] pos) _:=ps_for hp hc (pi_dictF (pe_var hN hv hd hcd)) (hg H0) (hb H0) hs;refine hR pins s σ H D I ⟨.ref a,e1,a,kws,rfl,.inr ⟨ob,ha,?_⟩⟩;exact walk H0 G H ob D hs0 hq ⟨go.nx,λ_ _ _ _ _ z=>z.elim,λ_ _ _ _ _ _ z=>z.elim,λ_ _ _ _ _ _ z=>z.elim⟩
  · exact ht.elim
end
section
variable {X:Cx} {H0:Hp} {nT:Nat} {g:RGp} {e:Expr} {pos p2:Pos}
variable {target iter elt:Expr} {ifs:List Expr} {scope:Scope} {N':List Str} {te tel:RE} {tc:RT}
end
section
variable {X:Cx} {H0:Hp} {a b e o:Expr} {es:List Expr} {ta tb te to:RE} {tr:RA} {tj:RJ} {pos p apos cpos p2:Pos}
end
section
variable {X:Cx} {H0:Hp} {e:Expr} {te:RE} {lo hi:Option Expr} {tl th:RO} {pos p2:Pos}
end
section
variable {prog:Program} {w:World} {A:Around} {R:Result -> Shared -> Prop} {s:Shared}
variable {elt t1 i1 t2 i2:Expr} {scope:Scope} {pos:Pos} {it acc:Value} {env:Env}
end
section
variable {Y:Cx} {pins:List (Addr × Obj)} {σ:L2.St} {H:Hp} {s:Shared} {fp:List Addr} {elt t1 i1 t2 i2:Expr} {scope:Scope} {pos:Pos} {g:TG} {tel:TE} {J:It} {it D:Addr} {tn:Nat -> Heap -> Prop} {QN:L2.St -> Hp -> Prop}
end
section
variable {X:Cx} {pins:List (Addr × Obj)} {σ:L2.St} {H:Hp} {s:Shared} {scope:Scope} {N':List Str} {cl:List (Str × Addr)} {fp:List Addr} {elt t1 i1 t2 i2:Expr} {pos:Pos} {g1 g2:TG} {wi:TI} {tel:TE} {nT:Nat} {J:It} {it D:Addr} {tn:Nat -> Heap -> Prop}
end
section
variable {X:Cx} {H0:Hp} {nT:Nat} {g1 g2:RGp} {te te2 tel:RE} {pos:Pos} {elt t1 i1 t2 i2:Expr} {scope:Scope} {N':List Str}
end
section
variable {X:Cx} {H0:Hp} {e a:Expr} {es:List Expr} {tr:RA} {te:RE} {pos p:Pos}
def rTruL (te:RE) (δ:List Sl) (Q:Bool -> Prop):Prop:=te δ λd=>match d with
  | .lst xs=>Q (!xs.isEmpty)
  | _=>False
theorem reps_empty {K:PySem.W.Frag} {H:Hp} {xs:List D} {ws:List V} (h:Reps K H xs ws):ws.isEmpty = xs.isEmpty:=by
  have:=h.length
  cases xs <;> cases ws <;> simp_all
end
section
variable {X:Cx} {scope:Scope} {N':List Str} {elt t1 i1 t2 i2:Expr} {pos:Pos} {g1 g2:TG} {wi:TI} {tel:TE} {nT:Nat}
end
section
variable {X:Cx} {H0:Hp} {nT:Nat} {g1 g2:RGp} {te te2 tel:RE} {pos:Pos} {elt t1 i1 t2 i2:Expr} {scope:Scope} {N':List Str}
end
def SInt (key:D -> List Int) (m:Nat) (ds:List D):Prop:=0 < m /\ ∀ d ∈ ds,(key d).length = m /\ d = .tup ((key d).map D.int)
theorem sorts_intW {X:Cx} {H:Hp} {vs:List V} {ds:List D} {key:D -> List Int} {m:Nat} (h:SInt key m ds) (rd:Reps X.K H ds vs):SortsP X.K H vs ds (λods=>ods.Pairwise λa b=>HT.lexLt (key b) (key a) = false) X:=λA σ pins s its I rv=>by
  obtain ⟨hm,hk⟩:=h;have l1:=rd.length;have l2:=rv.length;have at':∀ (i:Nat) u x,its[i]? = some u -> (ds.map key)[i]? = some x -> x.length = m /\ IK s.heap u x:=λi u x h1 h2=>by
    rw [List.getElem?_map] at h2;obtain ⟨d,hd,rfl⟩:=Option.map_eq_some_iff.mp h2;obtain ⟨hl,e⟩:=hk d (List.mem_of_getElem? hd);obtain ⟨v,ev,rep⟩:=rd.get hd;obtain ⟨u',eu,ru⟩:=rv.get ev;rw [h1] at eu;cases eu;refine ⟨hl,ik_of I ?_ ru⟩;rw [<- e];exact rep
  refine sorts_weak (κ:=tuples' true) (by omega) (by omega) (λi j u x y a b c d=>(at' i u x a c).2.fn (at' j u y b d).2) (λh2 E Q q=>?_) (λi j u v x y a b c d E Q q=>lt_run (at' i u x a c).2 (at' j v y b d).2 q)
  obtain ⟨fs,kt,lf,hf⟩:=katTups_of (ds.map key) its (by rw [List.length_map];omega) (λzs hz z=>by
    obtain ⟨d,hd,rfl⟩:=List.mem_map.mp hz;have:=(hk d hd).1;rw [z] at this;simp at this
    omega) (λi zs u a b=>(at' i u zs b a).2)
  refine PySem.W.kat_kind kt (by omega) (T:=Value.type "int") (λv hv=>?_) rfl q;obtain ⟨i,t,rfl⟩:=hf v hv;exact .now
def rSortWV (K:PySem.W.Frag) (xs:List V) (H:Hp) (Q:VK):Prop:=∃ l vs ds key m,xs = [.ref l] /\ SqL K H l vs /\ Reps K H ds vs /\ SInt key m ds /\ ∀ p (L:List (D × V)),H p = none -> L.Perm (ds.zip vs) -> (L.map (·.1)).Pairwise (λa b=>HT.lexLt (key b) (key a) = false) -> Q (.ref p) (upd H p (.lst (L.map (·.2))))
theorem call_sortedW {X:Cx}:CallR X (.builtin "sorted") (rSortWV X.K):=by
  intro pins s σ H xs us Q I r h;obtain ⟨l,vs,ds,key,m,rfl,hl,rd,hk,q⟩:=h
  cases r with
  | cons r1 r2 =>
    cases r2;cases (show _ = Value.ref l from r1);exact sorted_plain I hl rd.length (sorts_intW hk rd) λa L hn hp hR=>q a L hn hp hR
def dSortW (ds:List D) (Q:D -> Prop):Prop:=match ds with
  | [.lst xs]=>∃ key m,SInt key m xs /\ ∀ ods:List D,ods.Perm xs -> ods.Pairwise (λa b=>HT.lexLt (key b) (key a) = false) -> Q (.lst ods)
  | _=>False
theorem lf_sortW {K:PySem.W.Frag}:LfN K (rSortWV K) dSortW:=λH0 σ δ G H vs ds Qd Q hs r h k=>by
  unfold dSortW at h
  split at h
  · rename_i xs
    obtain ⟨key,m,hk,q⟩:=h;obtain ⟨v,rr,rfl,⟨a,ws,rfl,h2,h3⟩,h4⟩:=r;obtain rfl:rr = []:=h4;refine ⟨a,ws,xs,key,m,rfl,h2,Reps.mono hs.sub _ _ h3,hk,λp L hp pL hR=>k _ _ G (.lst (L.map (·.1))) (hs.fresh hp ⟨_,upd_same,reps_of_pairs λq hq=>reps_pairs h3 q (pL.mem_iff.mp hq)⟩) (Same.refl _) (upd_mono hp) (q _ ?_ hR)⟩;have:=pL.map (·.1);rw [List.map_fst_zip (by rw [h3.length];exact Nat.le_refl _)] at this;exact this
  · exact h.elim
section
variable {X:Cx} {H0:Hp} {e:Expr} {es:List Expr} {tr:RA} {pos p:Pos}
theorem n_sortW (hm:X.mg "sorted" = none) (ha:PAB2 X H0 (e :: es) tr) (hg:Gl X "sorted" := by rfl)
 (he:starEach (e :: es) X.env = (false,eval e X.env) :: starEach es X.env:=by rfl) (hpl:(backTo pos (starEach es X.env)).any (·.1) = false:=by rfl):PN2 X H0 (.Call (.Name "sorted" p) (e :: es) [] pos) (rCB dSortW tr) :=
  PE.weak (pe_callB call_sortedW hg hm rfl ha (by decide) (by decide) he hpl) (lift_cbn lf_sortW)
end
theorem setItem_last {prog:Program} {w:World} {A:Around} {E:Value -> Shared -> Prop} {s:Shared} {l:Addr} {items:Array Value} {n:Nat} {t:Tok} {v:Value} {Q:Unit -> Shared -> Prop} (ho:s.heap.get? l = some { cls:=.type "list", data:=.seq items n })
 (hn:0 < items.size) (hQ:Q () { s with heap:=s.heap.update l (Obj.mapSeq (·.setIfInBounds (items.size - 1) v)) }) :
 wpAny (model prog w) A (setItem (.ref l) (.int (-1) t) v) Q E s:=by
  have hl:s.heap.IsList l items:=⟨_,ho,rfl,n,rfl⟩;unfold setItem
  try with_reducible refine wpAny_holding ?_
  first | refine wpAny_bind (wpAny_pure ?_) | skip
  refine wpAny_bind (wpAny_sequenceKey hl.typeIs (by decide) ?_)
  refine wpAny_bind (wpAny_callSpecial?_slot (name:=Str.ofString "__setitem__") hl.typeIs slot_list_setitem
    (wpAny_call_entry slot_list_setitem hl.typeIs entry_list_setitem ?_ (args_list_setitem _ _ _)))
  show wpAny _ _ (Builtin.List.listSubscript? (.int (-1) t) >>= _) _ _ s
  refine wpAny_bind (wpAny_listSubscript_int (by decide) ?_);have hj:items.size - 1 < items.size:=by omega
  have hx':items[items.size - 1]? = some items[items.size - 1]:=Array.getElem?_eq_getElem hj;have hsi:seqIndex? (-1) items.size = some (items.size - 1):=by
    unfold seqIndex?;have h1:((-1:Int) + (items.size:Int)) = ((items.size - 1:Nat):Int):=by omega
    simp [h1]
    try omega
  show wpAny _ _ ((Builtin.List.listItems (.ref l) >>= λ(xs:Array Value)=>pure ((seqIndex? (-1) xs.size).bind λj=>xs[j]?.map (j,·))) >>= _) _ _ s
  refine wpAny_bind (wpAny_bind (listItems_at ho rfl (wpAny_pure ?_)));rw [hsi];dsimp only [Option.bind];rw [hx']
  show wpAny _ _ (setSeqItemAt l (items.size - 1) v >>= _) _ _ s
  refine wpAny_bind (wpAny_setSeqItemAt ho rfl ?_)
  first
    | exact wpAny_bind (wpAny_pure (wpAny_pure ⟨.none,rfl,wpAny_pure hQ⟩))
    | exact wpAny_pure ⟨.none,rfl,wpAny_pure hQ⟩
section
variable {X:Cx} {H0:Hp} {e value:Expr} {te tv:RE} {pos pos' cpos apos p:Pos} {x:Str}
def sLLast (to ti tv:TE):TS:=λD σ H=>tv σ H λv H1=>to σ H1 λx H2=>ti σ H2 λy H3=>∃ l xs,x = .ref l /\ y = .int (-1) /\ H3 l = some (.lst xs) /\ 0 < xs.length /\ D.nx σ (upd H3 l (.lst (xs.set (xs.length - 1) v)))
theorem ps_llast {o i:Expr} {to ti tv:TE} (ho:PE X o to) (hi:PE X i ti) (hv:PE X value tv) (hs:swapsWith value (some (.Subscript o i pos')) pos.line X.env = pure false) :
 PS X (.Assign [.Subscript o i pos'] value pos) (sLLast to ti tv):=by
  intro pins s σ H D I h;refine wpAny_Assign_Subscript (thn (hv pins s σ H _ I h) λr s1 ⟨v,H1,I1,rv,q1⟩=>thn (ho pins s1 σ H1 _ I1 q1) λu s2 ⟨x,H2,I2,rx,q2⟩=>thn (hi pins s2 σ H2 _ I2 q2) λiv s3 ⟨y,H3,I3,ry,l,xs,ex,ey,hH,hj,q3⟩=>?_) hs;subst ex;subst ey;obtain rfl:u = Value.ref l:=rx;obtain ⟨t,rfl⟩:=(show ∃ t,iv = Value.int (-1) t from ry);obtain ⟨z,its,n,r2,hl,e⟩:=I3.lstM hH;have hl2:=r2.length;refine setItem_last e (by rw [List.size_toArray];omega) ?_;rw [List.size_toArray];exact ⟨σ,_,I3.lset (its':=its.set (xs.length - 1) r) hH e (by rw [<- hl2];simp) (Vals.set (xs.length - 1) r2 rv) (by simpa using z),q3⟩
def rLLast (i:Nat) (tk tv:RE) (E:Ends2) (δ:List Sl):Prop:=match δ[i]? with
  | some (.ow (.lst ds))=>tv δ λd=>tk δ λy=>int1 [y] λk=>k = -1 /\ 0 < ds.length /\ E.nx (δ.set i (.ow (.lst (ds.set (ds.length - 1) d))))
  | _=>False
theorem s_llast (i:Nat) (hk:PE2 X H0 e te) (hv:PE2 X H0 value tv) (hN:X.N[i]? = some x:=by rfl) (hvs:Vis X.env.scope x:=by first | exact Or.inl rfl | exact Or.inr (Or.inl rfl) | exact Or.inr (Or.inr rfl)) (hd:(x == ("__debug__" : Str)) = false:=by decide)
 (hcd:(x == ("__classdict__" : Str)) = false:=by decide) (hs:swapsWith value (some (.Subscript (.Name x p) e pos')) pos.line X.env = pure false:=by rfl) :
 PS2 X H0 (.Assign [.Subscript (.Name x p) e pos'] value pos) (rLLast i te tv) :=
  PS.weak (ps_llast (pe_var hN hvs hd hcd) hk hv hs) λD σ H ⟨δ,G,E,hs,ht,go⟩=>by
    unfold rLLast at ht
    split at ht
    · rename_i ds e0
      refine ⟨δ,G,_,hs,ht,λv H1 G1 d n1 r1 q1=>?_⟩;obtain ⟨a,e1,_⟩:=n1.hs.ow i _ e0;refine ⟨_,e1,δ,G1,_,n1.hs,q1,λy H2 G2 dy n2 r2 q2=>?_⟩;obtain ⟨a',e1',vs,h1,h2⟩:=n2.hs.ow i _ e0;rw [e1] at e1';cases e1';obtain ⟨k,ek,rfl,kl,q⟩:=int1_of q2
      injection ek with ek;subst ek
      have hy:y = .int (-1):=by simpa only [Rep] using r2
      have hl:=h2.length;refine ⟨a,vs,rfl,hy,h1,by omega,go.nx _ _ _ G2 (n2.hs.write (d':=.lst (ds.set (ds.length - 1) d)) e0 e1 ⟨_,upd_same,by rw [<- hl];exact Reps.set (ds.length - 1) h2 (Rep.mono n2.g _ _ r1)⟩) (n1.g.trans n2.g) q⟩
    · exact ht.elim
theorem t_truB {a:Expr} {te:RE} (ha:PB2 X H0 a te) (he:∀ whole,isTrue a X.env whole = (do let v <- whole;standAt a.pos;holding [v] (truthy v)):=by intro _;rfl):PT2 X H0 a (rTruL te) :=
  PT.weak (pt_truth ha he) λσ H Q ⟨δ,G,Qd,hs,ht,k⟩=>⟨δ,G,_,hs,ht,λv H1 G1 d n1 r1 q1=>by
    cases d with
    | lst xs =>
      have r1:=r1.all n1.hs.sub;simp only [Rep] at r1;obtain ⟨a,ws,rfl,h2,h3⟩:=r1;exact ⟨!xs.isEmpty,.inl ⟨ws,h2,by rw [reps_empty h3]⟩,k _ H1 G1 n1 q1⟩
    | _=>exact q1.elim⟩
end
section
variable {X:Cx} {H0:Hp} {nT:Nat} {pos:Pos} {g:RGp} {target elt:Expr} {ifs:List Expr} {scope:Scope} {N':List Str} {tel:RE} {tc:RT}
end
structure QE (X:Cx) (H0:Hp) (e:Expr) (t:RE):Prop where
  run:PE2 X H0 e t
structure QB (X:Cx) (H0:Hp) (e:Expr) (t:RE):Prop where
  run:PB2 X H0 e t
structure QN (X:Cx) (H0:Hp) (e:Expr) (t:RE):Prop where
  run:PN2 X H0 e t
structure QT (X:Cx) (H0:Hp) (e:Expr) (t:RT):Prop where
  run:PT2 X H0 e t
structure QW (X:Cx) (H0:Hp) (e:Expr) (t:RT):Prop where
  run:PW2 X H0 e t
structure QA (X:Cx) (H0:Hp) (e:List Expr) (t:RA):Prop where
  run:PA2 X H0 e t
structure QAB (X:Cx) (H0:Hp) (e:List Expr) (t:RA):Prop where
  run:PAB2 X H0 e t
structure QAL (X:Cx) (H0:Hp) (i:Nat) (e:List Expr) (t:RA):Prop where
  run:PAL X H0 i e t
structure QO (X:Cx) (H0:Hp) (e:Option Expr) (t:RO):Prop where
  run:PO2 X H0 e t
structure QS (X:Cx) (H0:Hp) (e:Stmt) (t:RS):Prop where
  run:PS2 X H0 e t
structure QSs (X:Cx) (H0:Hp) (e:List Stmt) (t:RS):Prop where
  run:PSs2 X H0 e t
structure QG (X:Cx) (H0:Hp) (e:Expr) (t:RG):Prop where
  run:PG2 X H0 e t
structure QGs (X:Cx) (H0:Hp) (e:List Expr) (t:RGs):Prop where
  run:PGs2 X H0 e t
structure QGp (X:Cx) (H0:Hp) (nT:Nat) (e:Expr) (t:RGp):Prop where
  run:PGp X H0 nT e t
structure QGsp (X:Cx) (H0:Hp) (nT:Nat) (e:List Expr) (t:RGsp):Prop where
  run:PGsp X H0 nT e t
structure QIf (X:Cx) (H0:Hp) (e:List Expr) (t:RT):Prop where
  run:PIf2 X H0 e t
namespace Wr
section
variable {K:PySem.W.Frag} {H0:Hp} {σ:L2.St} {δ:List Sl} {G G' H H':Hp} {d:D} {v:V}
end
section
variable {X:Cx} {H0:Hp} {e a b c:Expr} {t ta tb tc:RE} {pos:Pos}
theorem PE2_bo (h:QE X H0 e t):QB X H0 e t :=
  ⟨M.PE2.bo h.run⟩
theorem PN2_fx (h:QN X H0 e t):QE X H0 e t :=
  ⟨M.PN2.fx h.run⟩
theorem PN2_bo (h:QN X H0 e t):QB X H0 e t :=
  ⟨M.PN2.bo h.run⟩
theorem e_var (i:Nat) {x:Str} {pos:Pos} (hN:X.N[i]? = some x:=by rfl) (hv:Vis X.env.scope x:=by first | exact Or.inl rfl | exact Or.inr (Or.inl rfl) | exact Or.inr (Or.inr rfl)) (hd:(x == ("__debug__" : Str)) = false:=by decide) (hcd:(x == ("__classdict__" : Str)) = false:=by decide):QE X H0 (.Name x pos) (rVar i) :=
  ⟨M.e_var i hN hv hd hcd⟩
theorem b_var (i:Nat) {x:Str} {pos:Pos} (hN:X.N[i]? = some x:=by rfl) (hv:Vis X.env.scope x:=by first | exact Or.inl rfl | exact Or.inr (Or.inl rfl) | exact Or.inr (Or.inr rfl)) (hd:(x == ("__debug__" : Str)) = false:=by decide) (hcd:(x == ("__classdict__" : Str)) = false:=by decide):QB X H0 (.Name x pos) (rVarB i) :=
  ⟨M.b_var i hN hv hd hcd⟩
theorem e_int {i:Int} {j:Nat} {pos:Pos}:QE X H0 (.Constant (.int i) j pos) (rC (.int i)) :=
  ⟨M.e_int ⟩
theorem e_bl {b:Bool} {j:Nat} {pos:Pos}:QE X H0 (.Constant (.bool b) j pos) (rC (.bl b)) :=
  ⟨M.e_bl ⟩
theorem e_str {x:Str} {j:Nat} {pos:Pos}:QE X H0 (.Constant (.str x) j pos) (rC (.str x)) :=
  ⟨M.e_str ⟩
theorem e_cmp {op:CmpOp} {r:R2} {r2:D -> D -> (D -> Prop) -> Prop} (ho:OpR X (compareOp op) r) (lf:Lf2 X.K r r2) (ha:QB X H0 a ta) (hb:QB X H0 b tb) (hm:behindInMarks op b = false):QE X H0 (.Compare a [op] [b] pos) (rOp r2 ta tb) :=
  ⟨M.e_cmp ho lf ha.run hb.run hm⟩
theorem t_cmp {op:CmpOp} {r:R2} {r2:D -> D -> (D -> Prop) -> Prop} (ho:OpR X (compareOp op) r) (lf:Lf2 X.K r r2) (ha:QB X H0 a ta) (hb:QB X H0 b tb) (hm:behindInMarks op b = false):QT X H0 (.Compare a [op] [b] pos) (rTest (rOp r2 ta tb)) :=
  ⟨M.t_cmp ho lf ha.run hb.run hm⟩
theorem t_chain {op op':CmpOp} {r r':R2} {r2 r2':D -> D -> (D -> Prop) -> Prop} (ho:OpR X (compareOp op) r) (ho':OpR X (compareOp op') r') (lf:Lf2 X.K r r2) (lf':Lf2 X.K r' r2') (ha:QB X H0 a ta) (hb:QB X H0 b tb) (hc:QB X H0 c tc) (hm:lastMarks [op,op'] [b,c] = false:=by with_unfolding_all rfl):QT X H0 (.Compare a [op,op'] [b,c] pos) (rTest (rChain r2 r2' ta tb tc)) :=
  ⟨M.t_chain ho ho' lf lf' ha.run hb.run hc.run hm⟩
theorem e_add (ha:QB X H0 a ta) (hb:QB X H0 b tb):QE X H0 (.BinOp a .Add b pos) (rOp (dI0 λi j=>.int (i + j)) ta tb) :=
  ⟨M.e_add ha.run hb.run⟩
theorem e_sub (ha:QB X H0 a ta) (hb:QB X H0 b tb):QE X H0 (.BinOp a .Sub b pos) (rOp (dI0 λi j=>.int (i - j)) ta tb) :=
  ⟨M.e_sub ha.run hb.run⟩
theorem e_mul (ha:QB X H0 a ta) (hb:QB X H0 b tb):QE X H0 (.BinOp a .Mult b pos) (rOp (dI CMul λi j=>.int (i * j)) ta tb) :=
  ⟨M.e_mul ha.run hb.run⟩
theorem e_fdiv (ha:QB X H0 a ta) (hb:QB X H0 b tb):QE X H0 (.BinOp a .FloorDiv b pos) (rOp (dI CDv λi j=>.int (i / j)) ta tb) :=
  ⟨M.e_fdiv ha.run hb.run⟩
theorem e_mod (ha:QB X H0 a ta) (hb:QB X H0 b tb):QE X H0 (.BinOp a .Mod b pos) (rOp (dI (λ_ j=>0 < j) λi j=>.int (i % j)) ta tb) :=
  ⟨M.e_mod ha.run hb.run⟩
theorem e_pow (ha:QB X H0 a ta) (hb:QB X H0 b tb):QE X H0 (.BinOp a .Pow b pos) (rOp (dI CPow λi j=>.int (i ^ j.toNat)) ta tb) :=
  ⟨M.e_pow ha.run hb.run⟩
end
section
variable {X:Cx} {H0:Hp} {e a b c:Expr} {t ta tb tc:RE} {u uA uB:RT} {pos:Pos} {rest:List Expr}
theorem PW2_pt (h:QW X H0 e u):QT X H0 e u :=
  ⟨M.PW2.pt h.run⟩
theorem t_and1 (ha:QT X H0 a uA):QW X H0 (.BoolOp .And [a] pos) uA :=
  ⟨M.t_and1 ha.run⟩
theorem t_or1 (ha:QT X H0 a uA):QW X H0 (.BoolOp .Or [a] pos) uA :=
  ⟨M.t_or1 ha.run⟩
theorem t_and (ha:QT X H0 a uA) (hb:QW X H0 (.BoolOp .And (b :: rest) pos) uB):QW X H0 (.BoolOp .And (a :: b :: rest) pos) (rAnd uA uB) :=
  ⟨M.t_and ha.run hb.run⟩
theorem t_or (ha:QT X H0 a uA) (hb:QW X H0 (.BoolOp .Or (b :: rest) pos) uB):QW X H0 (.BoolOp .Or (a :: b :: rest) pos) (rOr uA uB) :=
  ⟨M.t_or ha.run hb.run⟩
theorem t_not (ha:QT X H0 a uA):QT X H0 (.UnaryOp .Not a pos) (rNot uA) :=
  ⟨M.t_not ha.run⟩
theorem t_val (h:QE X H0 e t) (he:∀ whole,isTrue e X.env whole = (do let v <- whole;standAt e.pos;holding [v] (truthy v)):=by intro _;rfl):QT X H0 e (rTest t) :=
  ⟨M.t_val h.run he⟩
theorem e_one {op:BoolOp} (ha:QE X H0 a ta):QE X H0 (.BoolOp op [a] pos) ta :=
  ⟨M.e_one ha.run⟩
theorem e_and (ha:QE X H0 a ta) (hb:QE X H0 (.BoolOp .And (b :: rest) pos) tb):QE X H0 (.BoolOp .And (a :: b :: rest) pos) (rAndV ta tb) :=
  ⟨M.e_and ha.run hb.run⟩
theorem e_or (ha:QE X H0 a ta) (hb:QE X H0 (.BoolOp .Or (b :: rest) pos) tb):QE X H0 (.BoolOp .Or (a :: b :: rest) pos) (rOrV ta tb) :=
  ⟨M.e_or ha.run hb.run⟩
theorem e_not (ha:QE X H0 a ta):QE X H0 (.UnaryOp .Not a pos) (rNotV ta) :=
  ⟨M.e_not ha.run⟩
theorem e_neg (ha:QB X H0 a ta):QE X H0 (.UnaryOp .USub a pos) (rNeg ta) :=
  ⟨M.e_neg ha.run⟩
variable {es:List Expr} {tr:RA}
theorem a_nil  : QA X H0 [] rNil :=
  ⟨M.a_nil ⟩
theorem a_cons (ha:QE X H0 e t) (hr:QA X H0 es tr) (hs:starEach (e :: es) X.env = (false,eval e X.env) :: starEach es X.env:=by rfl):QA X H0 (e :: es) (rCons t tr) :=
  ⟨M.a_cons ha.run hr.run hs⟩
theorem e_tup {x1} (h:QA X H0 es tr):QE X H0 (.Tuple es x1 pos) (rTupD tr) :=
  ⟨M.e_tup h.run⟩
theorem n_lst (h:QA X H0 es tr):QN X H0 (.List es pos) (rLstD tr) :=
  ⟨M.n_lst h.run⟩
theorem n_dK {pos:Pos}:QN X H0 (.Dict [] [] pos) rDNewK :=
  ⟨M.n_dK ⟩
theorem n_dT {pos:Pos}:QN X H0 (.Dict [] [] pos) rDNewT :=
  ⟨M.n_dT ⟩
theorem e_ix (ha:QB X H0 a ta) (hb:QB X H0 b tb) (hp:PlainIx b:=by intro _ _;rfl):QE X H0 (.Subscript a b pos) (rOp dIx ta tb) :=
  ⟨M.e_ix ha.run hb.run hp⟩
theorem o_none  : QO X H0 none (λ_ Q=>Q none) :=
  ⟨M.o_none ⟩
theorem o_some (h:QB X H0 e t):QO X H0 (some e) (rPart t) :=
  ⟨M.o_some h.run⟩
variable {lo hi:Option Expr} {tl th:RO} {p2:Pos}
theorem n_slL (he:QB X H0 e t) (hl:QO X H0 lo tl) (hu:QO X H0 hi th):QN X H0 (.Subscript e (.Slice lo hi none p2) pos) (rSlL2 t tl th) :=
  ⟨M.n_slL he.run hl.run hu.run⟩
end
section
variable {X:Cx} {H0:Hp} {e:Expr} {t:RE} {lo hi:Option Expr} {tl th:RO} {p2 pos:Pos}
theorem e_slT (he:QB X H0 e t) (hl:QO X H0 lo tl) (hu:QO X H0 hi th):QE X H0 (.Subscript e (.Slice lo hi none p2) pos) (rCutT t tl th) :=
  ⟨M.e_slT he.run hl.run hu.run⟩
end
section
variable {X:Cx} {H0:Hp} {e tg:Expr} {te:RE} {st:Stmt} {rest b1 b2:List Stmt} {t u:RS} {c:Expr} {tc:RT} {pos pos':Pos} {x:Str}
theorem s_nil  : QSs X H0 [] rNext :=
  ⟨M.s_nil ⟩
theorem s_cons (h1:QS X H0 st t) (h2:QSs X H0 rest u):QSs X H0 (st :: rest) (rSeq t u) :=
  ⟨M.s_cons h1.run h2.run⟩
theorem s_one (h1:QS X H0 st t):QSs X H0 [st] t :=
  ⟨M.s_one h1.run⟩
theorem s_freeze (i:Nat) (h:QSs X H0 rest t):QSs X H0 rest (rFreeze i t) :=
  ⟨M.s_freeze i h.run⟩
theorem s_ret (he:QE X H0 e te):QS X H0 (.Return (some e) pos) (rRet te) :=
  ⟨M.s_ret he.run⟩
theorem s_retN (he:QN X H0 e te):QS X H0 (.Return (some e) pos) (rRetN te) :=
  ⟨M.s_retN he.run⟩
theorem s_retO (i:Nat) (hN:X.N[i]? = some x:=by rfl) (hv:Vis X.env.scope x:=by first | exact Or.inl rfl | exact Or.inr (Or.inl rfl) | exact Or.inr (Or.inr rfl)) (hd:(x == ("__debug__" : Str)) = false:=by decide) (hcd:(x == ("__classdict__" : Str)) = false:=by decide):QS X H0 (.Return (some (.Name x pos')) pos) (rRetO i) :=
  ⟨M.s_retO i hN hv hd hcd⟩
theorem s_if (hc:QT X H0 c tc) (ha:QSs X H0 b1 t) (hb:QSs X H0 b2 u):QS X H0 (.If c b1 b2 pos) (rIf tc t u) :=
  ⟨M.s_if hc.run ha.run hb.run⟩
theorem g_name (i:Nat) (hN:X.N.Nodup) (hi:X.N[i]? = some x:=by rfl) (hx:Loc X.env.scope x:=by first | exact Or.inl rfl | exact Or.inr rfl) (hf:X.fn x = true \/ X.env.scope.names.lookup x = some .local:=by first | exact .inl rfl | exact .inr rfl | assumption):QG X H0 (.Name x pos) (gSet i) :=
  ⟨M.g_name i hN hi hx hf⟩
theorem s_set (i:Nat) (hN:X.N.Nodup) (he:QE X H0 e te) (hi:X.N[i]? = some x:=by rfl) (hx:Loc X.env.scope x:=by first | exact Or.inl rfl | exact Or.inr rfl) (hs:swapsWith e (some (.Name x pos')) pos.line X.env = pure false:=by rfl) (hf:X.fn x = true \/ X.env.scope.names.lookup x = some .local:=by first | exact .inl rfl | exact .inr rfl | assumption):QS X H0 (.Assign [.Name x pos'] e pos) (rSet i te) :=
  ⟨M.s_set i hN he.run hi hx hs hf⟩
theorem s_setN (i:Nat) (hN:X.N.Nodup) (he:QN X H0 e te) (hi:X.N[i]? = some x:=by rfl) (hx:Loc X.env.scope x:=by first | exact Or.inl rfl | exact Or.inr rfl) (hs:swapsWith e (some (.Name x pos')) pos.line X.env = pure false:=by rfl) (hf:X.fn x = true \/ X.env.scope.names.lookup x = some .local:=by first | exact .inl rfl | exact .inr rfl | assumption):QS X H0 (.Assign [.Name x pos'] e pos) (rSetN i te) :=
  ⟨M.s_setN i hN he.run hi hx hs hf⟩
theorem gs_nil  : QGs X H0 [] gNil2 :=
  ⟨M.gs_nil ⟩
variable {es:List Expr} {g:RG} {gs:RGs}
theorem gs_cons (h1:QG X H0 e g) (h2:QGs X H0 es gs) (hs:(assignEach (e :: es) X.env).map (·.2) = assign e X.env :: (assignEach es X.env).map (·.2):=by rfl):QGs X H0 (e :: es) (gCons2 g gs) :=
  ⟨M.gs_cons h1.run h2.run hs⟩
theorem g_tup {n k:Nat} (hc:X.calm = true) (h:QGs X H0 es gs) (hn:(assignEach es X.env).length = n:=by rfl) (hst:(assignEach es X.env).findIdx? (·.1) = none:=by rfl):QG X H0 (.Tuple es k pos) (gTup2 n gs) :=
  ⟨M.g_tup hc h.run hn hst⟩
theorem s_asg (he:QE X H0 e te) (hg:QG X H0 tg g) (hs:swapsWithSole [tg] e pos.line X.env = pure false:=by rfl) (hw:swappedStores [tg] e X.env = pure none:=by rfl) (h1:(assignEach [tg] X.env).map (·.2) = [assign tg X.env]:=by rfl):QS X H0 (.Assign [tg] e pos) (rAsg te g) :=
  ⟨M.s_asg he.run hg.run hs hw h1⟩
variable {iter:Expr} {body:List Stmt} {tb:RS}
theorem s_forL (hp:PassesOwn (model X.prog X.w) X.A X.env X.xe) (hc:X.calm = true) (hi:QE X H0 iter te) (hg:QG X H0 tg g) (hb:QSs X H0 body tb) (hs:∀ x,foldedSetIterable iter X.env x = pure x:=by intro _;rfl):QS X H0 (.For tg iter body [] pos) (rForL te g tb) :=
  ⟨M.s_forL hp hc hi.run hg.run hb.run hs⟩
end
section
variable {X:Cx} {H0:Hp} {e tg:Expr} {te:RE} {st:Stmt} {pos pos':Pos} {x:Str} {es:List Expr} {g:RG} {gs:RGs} {iter:Expr} {body:List Stmt} {tb:RS}
variable {tr:RA} {a1 a2:Expr}
theorem s_forR1 {p pos2:Pos} (hp:PassesOwn (model X.prog X.w) X.A X.env X.xe) (hc:X.calm = true) (hgl:Gl X "range") (hm:X.mg "range" = none) (ha:QA X H0 [a1] tr) (hg:QG X H0 tg g) (hb:QSs X H0 body tb) (hst:starEach [a1] X.env = [(false,eval a1 X.env)]:=by rfl) (hs:∀ x,foldedSetIterable (.Call (.Name "range" p) [a1] [] pos2) X.env x = pure x:=by intro _;rfl):QS X H0 (.For tg (.Call (.Name "range" p) [a1] [] pos2) body [] pos) (rForR1 tr g tb) :=
  ⟨M.s_forR1 hp hc hgl hm ha.run hg.run hb.run hst hs⟩
end
section
variable {P:Program} {w:World} {K:PySem.W.Frag} {mg:Str -> Option Value} {base:Heap}
theorem fun_ok {x qual:Str} {st:Stmt} {f:Addr} {fd:FuncData} {N ps:List Str} {k:Nat} {sp:Sp2} (F:Fun K x qual st f fd) (S:FnScope N ps (defScope st)) (len:∀ ds Qd,sp ds Qd -> ds.length = ps.length) (hbody:∀ (cdv:Value) (A:Around) (outer:List Env) (s:Shared) (H:Hp) (E:XK),Room k (A.deeper (envOfC qual (defScope st) s.heap.objs.size f cdv)) -> ∀ ds Qd,sp ds Qd ->
 ∃ t,QSs (cxOf CX0 P w K mg base N qual (defScope st) f cdv A outer s H E).nox H (defBody st) t /\ t { nx:=λ_=>Qd (.val .non),rt:=λr _=>Qd r } (start2 N ds)):FnOk P w K mg base CX0 (k + 1) f fd ps (liftSp K sp) :=
  M.fun_ok F S len λcdv A outer s H E hr ds Qd h=>let ⟨t,a,b⟩:=hbody cdv A outer s H E hr ds Qd h;⟨t,a.run,b⟩
end
section
variable {X:Cx} {H0:Hp} {pins:List (Addr × Obj)} {σ:L2.St} {δ:List Sl} {G H:Hp} {s:Shared}
end
section
variable {X:Cx} {H0:Hp} {k:Nat} {x:Str} {sp:Sp2} {e:Expr} {es:List Expr} {tr:RA} {p pos:Pos}
theorem e_call (F:Fn2 X.prog X.w X.K X.mg X.base k x sp) (hr:Room k X.A) (ha:QA X H0 (e :: es) tr) (hg:Gl X x:=by rfl) (hdb:(x == ("__debug__" : Str)) = false:=by decide) (he:starEach (e :: es) X.env = (false,eval e X.env) :: starEach es X.env:=by rfl) (hpl:(backTo pos (starEach es X.env)).any (·.1) = false:=by rfl):QE X H0 (.Call (.Name x p) (e :: es) [] pos) (rCall sp tr) :=
  ⟨M.e_call F hr ha.run hg hdb he hpl⟩
theorem n_call (F:Fn2 X.prog X.w X.K X.mg X.base k x sp) (hr:Room k X.A) (ha:QA X H0 (e :: es) tr) (hg:Gl X x:=by rfl) (hdb:(x == ("__debug__" : Str)) = false:=by decide) (he:starEach (e :: es) X.env = (false,eval e X.env) :: starEach es X.env:=by rfl) (hpl:(backTo pos (starEach es X.env)).any (·.1) = false:=by rfl):QN X H0 (.Call (.Name x p) (e :: es) [] pos) (rCallN sp tr) :=
  ⟨M.n_call F hr ha.run hg hdb he hpl⟩
end
section
variable {prog:Program} {w:World} {A:Around} {E:Value -> Shared -> Prop}
end
section
variable {X:Cx} {H0:Hp} {es:List Expr} {gs:RGs} {pos:Pos}
theorem g_lst {n k:Nat} (hc:X.calm = true) (h:QGs X H0 es gs) (hn:(assignEach es X.env).length = n:=by rfl) (hst:(assignEach es X.env).findIdx? (·.1) = none:=by rfl):QG X H0 (.Tuple es k pos) (gLst2 n gs) :=
  ⟨M.g_lst hc h.run hn hst⟩
end
section
variable {X:Cx} {H0:Hp}
variable {ts:List Expr} {k:Nat} {tp p pos pos2:Pos} {a:Expr} {tr:RA} {g:RG} {tb:RS} {body:List Stmt}
theorem s_forE (hp:PassesOwn (model X.prog X.w) X.A X.env X.xe) (hc:X.calm = true) (hgl:Gl X "enumerate") (hm:X.mg "enumerate" = none) (ha:QA X H0 [a] tr) (hg:QG X H0 (.Tuple ts k tp) g) (hb:QSs X H0 body tb) (hst:starEach [a] X.env = [(false,eval a X.env)]:=by rfl) (hs:∀ x,foldedSetIterable (.Call (.Name "enumerate" p) [a] [] pos2) X.env x = pure x:=by intro _;rfl):QS X H0 (.For (.Tuple ts k tp) (.Call (.Name "enumerate" p) [a] [] pos2) body [] pos) (rForE tr g tb) :=
  ⟨M.s_forE hp hc hgl hm ha.run hg.run hb.run hst hs⟩
end
section
variable {X:Cx} {H0:Hp} {e:Expr} {t:RE} {pos p:Pos} {es:List Expr} {tr:RA} {x:Str} {id T:String}
theorem ab_nil  : QAB X H0 [] rNil :=
  ⟨M.ab_nil ⟩
theorem ab_cons (ha:QB X H0 e t) (hr:QAB X H0 es tr) (hs:starEach (e :: es) X.env = (false,eval e X.env) :: starEach es X.env:=by rfl):QAB X H0 (e :: es) (rCons t tr) :=
  ⟨M.ab_cons ha.run hr.run hs⟩
variable {r:List V -> Hp -> VK -> Prop} {r2:List D -> (D -> Prop) -> Prop}
theorem e_len (hm:X.mg "len" = none) (ha:QAB X H0 (e :: es) tr) (hg:Gl X "len" := by rfl) (he:starEach (e :: es) X.env = (false,eval e X.env) :: starEach es X.env:=by rfl) (hpl:(backTo pos (starEach es X.env)).any (·.1) = false:=by rfl):QE X H0 (.Call (.Name "len" p) (e :: es) [] pos) (rCB dLen tr) :=
  ⟨M.e_len hm ha.run hg he hpl⟩
theorem n_list (hm:X.mg "list" = none) (ha:QAB X H0 (e :: es) tr) (hg:Gl X "list" := by rfl) (he:starEach (e :: es) X.env = (false,eval e X.env) :: starEach es X.env:=by rfl) (hpl:(backTo pos (starEach es X.env)).any (·.1) = false:=by rfl):QN X H0 (.Call (.Name "list" p) (e :: es) [] pos) (rCB dListOf tr) :=
  ⟨M.n_list hm ha.run hg he hpl⟩
theorem e_max2 (hc:X.calm = true) (hm:X.mg "max" = none) (ha:QAB X H0 (e :: es) tr) (hg:Gl X "max" := by rfl) (he:starEach (e :: es) X.env = (false,eval e X.env) :: starEach es X.env:=by rfl) (hpl:(backTo pos (starEach es X.env)).any (·.1) = false:=by rfl):QE X H0 (.Call (.Name "max" p) (e :: es) [] pos) (rCB (λds Q=>two? ds (λi j=>if j > i then j else i) Q) tr) :=
  ⟨M.e_max2 hc hm ha.run hg he hpl⟩
theorem e_min2 (hc:X.calm = true) (hm:X.mg "min" = none) (ha:QAB X H0 (e :: es) tr) (hg:Gl X "min" := by rfl) (he:starEach (e :: es) X.env = (false,eval e X.env) :: starEach es X.env:=by rfl) (hpl:(backTo pos (starEach es X.env)).any (·.1) = false:=by rfl):QE X H0 (.Call (.Name "min" p) (e :: es) [] pos) (rCB (λds Q=>two? ds (λi j=>if j < i then j else i) Q) tr) :=
  ⟨M.e_min2 hc hm ha.run hg he hpl⟩
end
section
variable {X:Cx} {H0:Hp} {e:Expr} {t:RE} {pos cpos apos p:Pos} {x:Str}
theorem s_app (i:Nat) (he:QE X H0 e t) (hN:X.N[i]? = some x:=by rfl) (hv:Vis X.env.scope x:=by first | exact Or.inl rfl | exact Or.inr (Or.inl rfl) | exact Or.inr (Or.inr rfl)) (hd:(x == ("__debug__" : Str)) = false:=by decide) (hcd:(x == ("__classdict__" : Str)) = false:=by decide) (hbase:attributeBase (.Name x p) "append" X.env (eval (.Name x p) X.env) = eval (.Name x p) X.env:=by rfl) (hfew:((backTo cpos (starEach [e] X.env)).all (λx=>!x.1) && (backToKw cpos (keywordEach [] X.env)).all (λx=>x.1.isSome)
 && decide ([e].length + ([]:List Keyword).length + (if ([]:List Keyword).isEmpty then 0 else 1) < 30)) = true:=by rfl) (hline:(apos.endLine == cpos.line) = true:=by rfl) (hs:starEach [e] X.env = (false,eval e X.env) :: starEach [] X.env:=by rfl) (hplain:(backTo cpos (starEach [] X.env)).any (·.1) = false:=by rfl) (hsw:swapsWith (.Call (.Attribute (.Name x p) "append" apos) [e] [] cpos) none pos.line X.env = pure false:=by rfl):QS X H0 (.Expr (.Call (.Attribute (.Name x p) "append" apos) [e] [] cpos) pos) (rApp i t) :=
  ⟨M.s_app i he.run hN hv hd hcd hbase hfew hline hs hplain hsw⟩
end
section
variable {X:Cx} {H0:Hp} {e:Expr} {t:RE} {pos p p2:Pos} {T:String} {x:Str}
theorem e_isi (k:KindOk X.K T) (hm:X.mg "isinstance" = none) (hm2:X.mg x = none) (ha:QB X H0 e t) (hv:bootBuiltins x = some (.type T):=by rfl) (hg:Gl X "isinstance" := by rfl) (hg2:Gl X x:=by rfl) (hn:x ≠ "__name__" := by decide) (hdb:(x == ("__debug__" : Str)) = false:=by decide) (he:starEach (e :: [.Name x p2]) X.env = (false,eval e X.env) :: starEach [.Name x p2] X.env:=by rfl) (he2:starEach [.Name x p2] X.env = (false,eval (.Name x p2) X.env) :: starEach [] X.env:=by rfl) (hpl:(backTo pos (starEach [.Name x p2] X.env)).any (·.1) = false:=by rfl):QE X H0 (.Call (.Name "isinstance" p) [e,.Name x p2] [] pos) (rIsi T t) :=
  ⟨M.e_isi k hm hm2 ha.run hv hg hg2 hn hdb he he2 hpl⟩
end
section
variable {X:Cx} {H0:Hp} {e:Expr} {es:List Expr} {tr:RA} {pos p:Pos}
theorem e_sum (hc:X.calm = true) (hm:X.mg "sum" = none) (ha:QAB X H0 (e :: es) tr) (hg:Gl X "sum" := by rfl) (he:starEach (e :: es) X.env = (false,eval e X.env) :: starEach es X.env:=by rfl) (hpl:(backTo pos (starEach es X.env)).any (·.1) = false:=by rfl):QE X H0 (.Call (.Name "sum" p) (e :: es) [] pos) (rCB dSum tr) :=
  ⟨M.e_sum hc hm ha.run hg he hpl⟩
end
section
variable {X:Cx} {H0:Hp} {e:Expr} {te:RE} {pos pos':Pos} {x:Str}
theorem s_augadd (i:Nat) (hN:X.N.Nodup) (he:QE X H0 e te) (hi:X.N[i]? = some x:=by rfl) (hx:Loc X.env.scope x:=by first | exact Or.inl rfl | exact Or.inr rfl) (hf:X.fn x = true \/ X.env.scope.names.lookup x = some .local:=by first | exact .inl rfl | exact .inr rfl | assumption):QS X H0 (.AugAssign (.Name x pos') .Add e pos) (rAug (λi j=>i + j) i te) :=
  ⟨M.s_augadd i hN he.run hi hx hf⟩
end
section
variable {X:Cx} {H0:Hp} {a b e f value o:Expr} {ta tb te tf:RE} {pos pos' apos cpos p:Pos} {x:Str}
theorem e_dget (hu:X.A.units + 1 < cLine) (ha:QB X H0 a ta) (hb:QB X H0 b tb) (hs:NoSl b:=by intro _ _;rfl):QE X H0 (.Subscript a b pos) (rOp dDGet ta tb) :=
  ⟨M.e_dget hu ha.run hb.run hs⟩
theorem t_din (hu:X.A.units + 1 < cLine) (ha:QB X H0 a ta) (hb:QB X H0 b tb) (h1:behindInMarks .In b = false:=by rfl):QT X H0 (.Compare a [.In] [b] pos) (rTest (rOp (dDIn false) ta tb)) :=
  ⟨M.t_din hu ha.run hb.run h1⟩
theorem e_dnotin (hu:X.A.units + 1 < cLine) (ha:QB X H0 a ta) (hb:QB X H0 b tb) (h1:behindInMarks .NotIn b = false:=by rfl):QE X H0 (.Compare a [.NotIn] [b] pos) (rOp (dDIn true) ta tb) :=
  ⟨M.e_dnotin hu ha.run hb.run h1⟩
theorem t_dnotin (hu:X.A.units + 1 < cLine) (ha:QB X H0 a ta) (hb:QB X H0 b tb) (h1:behindInMarks .NotIn b = false:=by rfl):QT X H0 (.Compare a [.NotIn] [b] pos) (rTest (rOp (dDIn true) ta tb)) :=
  ⟨M.t_dnotin hu ha.run hb.run h1⟩
theorem e_dget2 (hu:X.A.units + 1 < cLine) (ho:QB X H0 o ta) (he:QE X H0 e te) (hf:QE X H0 f tf) (m:M2 X o "get" apos e f cpos:=by exact ⟨rfl,rfl,rfl,rfl⟩):QE X H0 (.Call (.Attribute o "get" apos) [e,f] [] cpos) (rDGet2 ta te tf) :=
  ⟨M.e_dget2 hu ho.run he.run hf.run m⟩
theorem s_dput (i:Nat) (hu:X.A.units + 1 < cLine) (hk:QE X H0 e te) (hv:QE X H0 value tf) (hN:X.N[i]? = some x:=by rfl) (hvs:Vis X.env.scope x:=by first | exact Or.inl rfl | exact Or.inr (Or.inl rfl) | exact Or.inr (Or.inr rfl)) (hd:(x == ("__debug__" : Str)) = false:=by decide) (hcd:(x == ("__classdict__" : Str)) = false:=by decide) (hs:swapsWith value (some (.Subscript (.Name x p) e pos')) pos.line X.env = pure false:=by rfl):QS X H0 (.Assign [.Subscript (.Name x p) e pos'] value pos) (rDPut i te tf) :=
  ⟨M.s_dput i hu hk.run hv.run hN hvs hd hcd hs⟩
variable {es:List Expr} {tr:RA}
theorem n_dict (hm:X.mg "dict" = none) (ha:QAB X H0 (e :: es) tr) (hg:Gl X "dict" := by rfl) (he:starEach (e :: es) X.env = (false,eval e X.env) :: starEach es X.env:=by rfl) (hpl:(backTo pos (starEach es X.env)).any (·.1) = false:=by rfl):QN X H0 (.Call (.Name "dict" p) (e :: es) [] pos) (rCB dDict tr) :=
  ⟨M.n_dict hm ha.run hg he hpl⟩
end
section
variable {X:Cx} {H0:Hp} {c:Expr} {body:List Stmt} {tc:RT} {tb:RS} {pos:Pos}
theorem s_while (hp:PassesOwn (model X.prog X.w) X.A X.env X.xe) (hc:QT X H0 c tc) (hb:QSs X H0 body tb):QS X H0 (.While c body [] pos) (rWhile tc tb) :=
  ⟨M.s_while hp hc.run hb.run⟩
end
section
variable {K:PySem.W.Frag} {H0:Hp} {σ:L2.St} {δ:List Sl} {G H:Hp}
end
section
variable {P:Program} {w:World} {K:PySem.W.Frag} {mg:Str -> Option Value} {base:Heap}
theorem fun3_ok {x qual:Str} {st:Stmt} {f:Addr} {fd:FuncData} {N ps:List Str} {k:Nat} {sp:Sp3} (F:Fun K x qual st f fd) (S:FnScope N ps (defScope st)) (len:∀ ds d Qd,sp ds d Qd -> ds.length + 1 = ps.length) (hbody:∀ (cdv:Value) (A:Around) (outer:List Env) (s:Shared) (H G:Hp) (E:XK) (p:Addr),Room k (A.deeper (envOfC qual (defScope st) s.heap.objs.size f cdv)) -> ∀ ds d Qd,sp ds d Qd ->
 ∃ t,QSs (cxOf CX0 P w K mg base N qual (defScope st) f cdv A outer s H E).nox G (defBody st) t /\
 t { nx:=λδ=>∃ d',δ[ds.length]? = some (.lk p d') /\ Qd .non d',rt:=λr δ=>∃ x d',r = .val x /\ δ[ds.length]? = some (.lk p d') /\ Qd x d' } (start3 N ds p d)):FnOk P w K mg base CX0 (k + 1) f fd ps (liftSp3 K sp) :=
  M.fun3_ok F S len λcdv A outer s H G E p hr ds d Qd h=>let ⟨t,a,b⟩:=hbody cdv A outer s H G E p hr ds d Qd h;⟨t,a.run,b⟩
end
section
variable {X:Cx} {H0:Hp} {pins:List (Addr × Obj)} {σ:L2.St} {δ:List Sl} {G H:Hp} {s:Shared}
end
section
variable {X:Cx} {H0:Hp} {k:Nat} {x:Str} {sp:Sp3} {e:Expr} {es:List Expr} {t:RE} {tr:RA} {p pos:Pos} {i:Nat}
theorem al_nil (i:Nat) (hN:X.N[i]? = some x:=by rfl) (hv:Vis X.env.scope x:=by first | exact Or.inl rfl | exact Or.inr (Or.inl rfl) | exact Or.inr (Or.inr rfl)) (hd:(x == ("__debug__" : Str)) = false:=by decide) (hcd:(x == ("__classdict__" : Str)) = false:=by decide) (hs:starEach [.Name x p] X.env = (false,eval (.Name x p) X.env) :: starEach [] X.env:=by rfl):QAL X H0 i [.Name x p] rNil :=
  ⟨M.al_nil i hN hv hd hcd hs⟩
theorem al_cons (ha:QE X H0 e t) (hr:QAL X H0 i es tr) (hs:starEach (e :: es) X.env = (false,eval e X.env) :: starEach es X.env:=by rfl):QAL X H0 i (e :: es) (rCons t tr) :=
  ⟨M.al_cons ha.run hr.run hs⟩
variable {tg:Expr} {g:RG}
theorem s_asgL (F:Fn3 X.prog X.w X.K X.mg X.base k x sp) (hr:Room k X.A) (ha:QAL X H0 i (e :: es) tr) (hgt:QG X H0 tg g) (hg:Gl X x:=by rfl) (hdb:(x == ("__debug__" : Str)) = false:=by decide) (he:starEach (e :: es) X.env = (false,eval e X.env) :: starEach es X.env:=by rfl) (hpl:(backTo p (starEach es X.env)).any (·.1) = false:=by rfl) {p2:Pos} (hs:swapsWithSole [tg] (.Call (.Name x p2) (e :: es) [] p) pos.line X.env = pure false:=by rfl) (hw:swappedStores [tg] (.Call (.Name x p2) (e :: es) [] p) X.env = pure none:=by rfl) (h1:(assignEach [tg] X.env).map (·.2) = [assign tg X.env]:=by rfl):QS X H0 (.Assign [tg] (.Call (.Name x p2) (e :: es) [] p) pos) (rAsgL i sp tr g) :=
  ⟨M.s_asgL F hr ha.run hgt.run hg hdb he hpl hs hw h1⟩
end
section
variable {K:PySem.W.Frag} {H0:Hp} {σ:L2.St} {δ:List Sl} {G H H':Hp}
end
section
variable {X:Cx} {H0:Hp} {k:Nat} {fx:Str} {sp:Sp2} {e:Expr} {te:RE} {p p2 pos kp:Pos} {S:SR}
theorem n_sortK (sr:SortRule X S) (F:Fn2 X.prog X.w X.K X.mg X.base k fx sp) (hr:Room (k + 2) X.A) (hm:X.mg "sorted" = none) (ha:QE X H0 e te) (hg:Gl X "sorted" := by rfl) (hgf:Gl X fx:=by rfl) (hdb:(fx == ("__debug__" : Str)) = false:=by decide) (he1:starEach [e] X.env = (false,eval e X.env) :: starEach [] X.env:=by rfl) (he:backTo pos (starEach [e] X.env) = (false,eval e X.env) :: backTo pos (starEach [] X.env):=by rfl) (hplain:(backTo pos (starEach [e] X.env)).any (·.1) = false:=by rfl) (hall:(backToKw pos (keywordEach [⟨some "key", .Name fx p2,kp⟩] X.env)).all (·.1.isSome) = true:=by rfl) (hkw:(backToKw pos (keywordEach [⟨some "key", .Name fx p2,kp⟩] X.env)).any (·.1.isNone) = false:=by rfl) (hks:(backToKw pos (keywordEach [⟨some "key", .Name fx p2,kp⟩] X.env)).filterMap (·.1) = [Str.ofString "key"]:=by rfl):QN X H0 (.Call (.Name "sorted" p) [e] [⟨some "key", .Name fx p2,kp⟩] pos) (rSortK S sp te) :=
  ⟨M.n_sortK sr F hr hm ha.run hg hgf hdb he1 he hplain hall hkw hks⟩
end
section
variable {X:Cx} {H0:Hp} {a b e:Expr} {ta tb:RE} {pos:Pos}
theorem n_cat (ha:QB X H0 a ta) (hb:QB X H0 b tb):QN X H0 (.BinOp a .Add b pos) (rCat2 ta tb) :=
  ⟨M.n_cat ha.run hb.run⟩
variable {x:Str} {p apos cpos:Pos}
end
section
variable {prog:Program} {w:World} {A:Around} {E:Value -> Shared -> Prop} {s:Shared}
end
section
variable {X:Cx} {pins:List (Addr × Obj)} {σ:L2.St} {H:Hp} {s:Shared}
end
section
variable {X:Cx} {H0:Hp} {e:Expr} {es:List Expr} {tr:RA} {pos p:Pos}
end
section
variable {K:PySem.W.Frag} {H0:Hp} {σ:L2.St} {δ:List Sl} {G H:Hp}
end
section
variable {X:Cx} {H0:Hp} {tg:Expr} {g:RG} {body:List Stmt} {tb:RS} {pos p:Pos} {x:Str}
end
section
variable {X:Cx} {pins:List (Addr × Obj)} {σ:L2.St} {H:Hp} {s:Shared} {h':Heap}
end
section
variable {X:Cx} {H0:Hp}
variable {ts:List Expr} {k:Nat} {tp p pos pos2:Pos} {a b:Expr} {tr:RA} {g:RG} {tb:RS} {body:List Stmt}
end
section
variable {X:Cx} {H0:Hp} {pins:List (Addr × Obj)} {σ:L2.St} {H:Hp} {s:Shared}
variable {e:Expr} {es:List Expr} {tr:RA} {p pos:Pos}
variable {k i:Nat} {x:Str} {sp:Sp3} {b1 b2:List Stmt} {t u:RS} {p2 p3 p4:Pos}
end
section
variable {K:PySem.W.Frag} {H0:Hp} {σ:L2.St} {δ:List Sl} {G H:Hp}
end
section
variable {X:Cx} {H0:Hp} {nT:Nat} {x:Str} {pos:Pos} {e:Expr} {es:List Expr}
theorem gp_name (i:Nat) (hlt:i < nT) (hN:X.N.Nodup) (hi:X.N[i]? = some x:=by rfl) (hx:Loc X.env.scope x:=by first | exact Or.inl rfl | exact Or.inr rfl) (hf:X.fn x = true \/ X.env.scope.names.lookup x = some .local:=by first | exact .inl rfl | exact .inr rfl | assumption):QGp X H0 nT (.Name x pos) (gpSet i) :=
  ⟨M.gp_name i hlt hN hi hx hf⟩
theorem gsp_nil  : QGsp X H0 nT [] gpNil :=
  ⟨M.gsp_nil ⟩
variable {g:RGp} {gs:RGsp}
theorem gsp_cons (h1:QGp X H0 nT e g) (h2:QGsp X H0 nT es gs) (hs:(assignEach (e :: es) X.env).map (·.2) = assign e X.env :: (assignEach es X.env).map (·.2):=by rfl):QGsp X H0 nT (e :: es) (gpCons g gs) :=
  ⟨M.gsp_cons h1.run h2.run hs⟩
theorem gp_tup {n k:Nat} (hc:X.calm = true) (h:QGsp X H0 nT es gs) (hn:(assignEach es X.env).length = n:=by rfl) (hst:(assignEach es X.env).findIdx? (·.1) = none:=by rfl):QGp X H0 nT (.Tuple es k pos) (gpTup n gs) :=
  ⟨M.gp_tup hc h.run hn hst⟩
theorem if_nil  : QIf X H0 [] rTrue :=
  ⟨M.if_nil ⟩
theorem if_one {t:RT} (h:QT X H0 e t):QIf X H0 [e] t :=
  ⟨M.if_one h.run⟩
variable {target iter elt:Expr} {ifs:List Expr} {scope:Scope} {N':List Str} {te tel:RE} {tc:RT}
theorem n_comp (ok:CompOk X scope nT N') (hi:QE X H0 iter te) (hg:∀ s3 H3 C cl fp,QGp (compX X scope N' s3 H3 C cl fp) H0 nT target g) (hif:∀ s3 H3 C cl fp,QIf (compX X scope N' s3 H3 C cl fp) H0 ifs tc) (hel:∀ s3 H3 C cl fp,QE (compX X scope N' s3 H3 C cl fp) H0 elt tel) (hs:∀ x,foldedSetIterable iter X.env x = pure x:=by intro _;rfl):QN X H0 (.ListComp elt [⟨target,iter,ifs,0⟩] scope pos) (rComp nT te g tc tel) :=
  ⟨M.n_comp ok hi.run (λa b c d e=>(hg a b c d e).run) (λa b c d e=>(hif a b c d e).run) (λa b c d e=>(hel a b c d e).run) hs⟩
end
section
variable {X:Cx} {H0:Hp} {nT:Nat} {pos:Pos} {g:RGp} {target iter elt:Expr} {ifs:List Expr} {scope:Scope} {N':List Str} {te tel:RE} {tc:RT}
theorem s_setCompF {y:Str} {py spos:Pos} (i:Nat) (hNd:X.N.Nodup) (ok:CompOk X scope nT N') (hi:QE X H0 iter te) (hg:∀ s3 H3 C cl fp,QGp (compX X scope N' s3 H3 C cl fp) H0 nT target g) (hif:∀ s3 H3 C cl fp,QIf (compX X scope N' s3 H3 C cl fp) H0 ifs tc) (hel:∀ s3 H3 C cl fp,QE (compX X scope N' s3 H3 C cl fp) H0 elt tel) (hN:X.N[i]? = some y:=by rfl) (hx:Loc X.env.scope y:=by first | exact Or.inl rfl | exact Or.inr rfl) (hf:X.fn y = true \/ X.env.scope.names.lookup y = some .local:=by first | exact .inl rfl | exact .inr rfl | assumption) (hs:∀ x,foldedSetIterable iter X.env x = pure x:=by intro _;rfl) (hsw:swapsWith (.ListComp elt [⟨target,iter,ifs,0⟩] scope pos) (some (.Name y py)) spos.line X.env = pure true:=by rfl):QS X H0 (.Assign [.Name y py] (.ListComp elt [⟨target,iter,ifs,0⟩] scope pos) spos) (rSetCompF i nT te g tc tel) :=
  ⟨M.s_setCompF i hNd ok hi.run (λa b c d e=>(hg a b c d e).run) (λa b c d e=>(hif a b c d e).run) (λa b c d e=>(hel a b c d e).run) hN hx hf hs hsw⟩
end
section
variable {X:Cx} {H0:Hp} {nT:Nat} {pos:Pos} {g:RGp} {target iter kx vx:Expr} {ifs:List Expr} {scope:Scope} {N':List Str} {te tk tv:RE} {tc:RT}
theorem n_dcompT (hu:X.A.units < cLine) (ok:CompOk X scope nT N') (hi:QE X H0 iter te) (hg:∀ s3 H3 C cl fp,QGp (compX X scope N' s3 H3 C cl fp) H0 nT target g) (hif:∀ s3 H3 C cl fp,QIf (compX X scope N' s3 H3 C cl fp) H0 ifs tc) (hkx:∀ s3 H3 C cl fp,QE (compX X scope N' s3 H3 C cl fp) H0 kx tk) (hvx:∀ s3 H3 C cl fp,QE (compX X scope N' s3 H3 C cl fp) H0 vx tv) (hs:∀ x,foldedSetIterable iter X.env x = pure x:=by intro _;rfl):QN X H0 (.DictComp kx vx [⟨target,iter,ifs,0⟩] scope pos) (rCompT nT te g tc tk tv) :=
  ⟨M.n_dcompT hu ok hi.run (λa b c d e=>(hg a b c d e).run) (λa b c d e=>(hif a b c d e).run) (λa b c d e=>(hkx a b c d e).run) (λa b c d e=>(hvx a b c d e).run) hs⟩
end
section
variable {X:Cx} {H0:Hp} {o e:Expr} {ta te:RE} {apos cpos:Pos}
end
section
variable {X:Cx} {scope:Scope} {N':List Str} {target iter kx vx:Expr} {ifs:List Expr} {pos:Pos} {g:TG} {tc:TT} {tk tv:TE} {nT:Nat} {wi:TI}
end
section
variable {X:Cx} {H0:Hp} {nT:Nat} {pos:Pos} {g:RGp} {target iter kx vx:Expr} {ifs:List Expr} {scope:Scope} {N':List Str} {te tk tv:RE} {tc:RT}
end
section
variable {X:Cx} {H0:Hp} {a b:Expr} {p p2 pos pos2:Pos}
end
section
variable {K:PySem.W.Frag} {H0:Hp} {σ:L2.St} {δ:List Sl} {G H G1 H1:Hp} {i:Nat} {d:D} {p:Addr}
end
section
variable {X:Cx} {H0:Hp} {e:Expr} {t:RE} {u:RT}
theorem n_bor (i:Nat) (h:QN X H0 e t):QN X H0 e (rBorN i t) :=
  ⟨M.n_bor i h.run⟩
end
section
variable {X:Cx} {H0:Hp} {x y:Str} {pos p1 p2 p3:Pos} {k:Nat}
variable {f:Str} {sp:Sp2} {e:Expr} {es:List Expr} {tr:RA} {p:Pos}
end
section
variable {X:Cx} {pins:List (Addr × Obj)} {σ:L2.St} {H:Hp} {s:Shared} {a:Addr} {kws:List (Key × V)} {ob:Obj}
end
section
variable {X:Cx} {tg:Expr}
end
section
variable {X:Cx} {H0:Hp} {tg:Expr} {g:RG} {body:List Stmt} {tb:RS} {pos p:Pos} {x:Str}
end
section
variable {prog:Program} {w:World} {A:Around} {E:Value -> Shared -> Prop} {s:Shared}
end
section
variable {X:Cx} {H0:Hp} {e:Expr} {es:List Expr} {tr:RA} {pos p:Pos}
end
section
variable {X:Cx} {H0:Hp} {e value:Expr} {te tv:RE} {pos pos' cpos apos p:Pos} {x:Str}
end
section
variable {X:Cx} {H0:Hp} {ts:List Expr} {k:Nat} {tp p p2 pos pos2:Pos} {a:Expr} {ta:RE} {g:RG} {tb:RS} {body:List Stmt} {x:Str}
end
section
variable {K:PySem.W.Frag} {H0:Hp} {σ:L2.St} {δ:List Sl} {G H:Hp}
end
section
variable {X:Cx} {H0:Hp} {e e1 e2:Expr} {t t1 t2:RE} {pos p1 p3:Pos} {k3:Nat} {x:Str}
end
section
variable {X:Cx} {H0:Hp} {f x:Str} {sp:Sp2} {e:Expr} {es:List Expr} {tr:RA} {k:Nat} {p p1 pos p5:Pos}
end
section
variable {K:PySem.W.Frag} {H0:Hp} {σ:L2.St} {δ:List Sl} {G H:Hp} {i k g:Nat} {q:Addr} {ds:List D} {y:D}
end
section
variable {X:Cx} {H0:Hp} {e:Expr} {t:RE} {u:RT}
end
section
variable {X:Cx} {H0:Hp} {e:Expr} {te:RE} {pos cpos apos p ps pk:Pos} {x:Str} {kc:Nat}
end
section
variable {X:Cx} {H0:Hp} {f x:Str} {sp:Sp2} {e:Expr} {es:List Expr} {tr:RA} {k:Nat} {p p1 pos p5:Pos}
end
section
variable {X:Cx} {H0:Hp} {e a:Expr} {te ta:RE} {pos pos' cpos apos p p2 p3 p4 p5 p6:Pos} {x f:Str} {j:Nat}
end
end Wr
end M
namespace My
open PySem L2 M
def top (i:Nat):Stmt:=PySem.Challenge.pw_feastfall_k34_whole_runs_stand_alone.main.body.getD i (.Pass ⟨0,0,0,0⟩)
abbrev Z1d:Stmt:=top 1
abbrev Z1r:List Str:=["entries"]
theorem Z1b:FnScope Z1r ["entries"] (defScope Z1d):=⟨rfl,rfl,rfl,by decide +kernel,rfl,by decide +kernel,by decide +kernel⟩
abbrev Z1y:Stmt:=top 2
abbrev Z29:List Str:=["entries", "rows", "own"]
theorem Z28:FnScope Z29 ["entries", "rows"] (defScope Z1y):=⟨rfl,rfl,rfl,by decide +kernel,rfl,by decide +kernel,by decide +kernel⟩
abbrev Z2f:Stmt:=top 3
abbrev Z2l:List Str:=["entries", "rows", "own", "reaches", "joined", "first", "last"]
theorem Z2g:FnScope Z2l ["entries", "rows"] (defScope Z2f):=⟨rfl,rfl,rfl,by decide +kernel,rfl,by decide +kernel,by decide +kernel⟩
abbrev Z23:Stmt:=top 5
abbrev Z2b:List Str:=["entry"]
theorem Z22:FnScope Z2b ["entry"] (defScope Z23):=⟨rfl,rfl,rfl,by decide +kernel,rfl,by decide +kernel,by decide +kernel⟩
abbrev Z1o:Stmt:=top 6
abbrev Z21:List Str:=["entries"]
theorem Z1u:FnScope Z21 ["entries"] (defScope Z1o):=⟨rfl,rfl,rfl,by decide +kernel,rfl,by decide +kernel,by decide +kernel⟩
abbrev Z1p:Stmt:=top 7
abbrev Z26:List Str:=["rank", "day", "shut"]
theorem Z1v:FnScope Z26 ["rank", "day", "shut"] (defScope Z1p):=⟨rfl,rfl,rfl,by decide +kernel,rfl,by decide +kernel,by decide +kernel⟩
abbrev Zh:Stmt:=top 9
abbrev Z16:List Str:=["rank", "day", "shut", "onward", "passed", "gone"]
theorem Zl:FnScope Z16 ["rank", "day", "shut", "onward"] (defScope Zh):=⟨rfl,rfl,rfl,by decide +kernel,rfl,by decide +kernel,by decide +kernel⟩
abbrev Z1k:Stmt:=top 10
abbrev Z1s:List Str:=["entry", "shut", "onward", "rank", "number", "year", "way", "own", "day"]
theorem Z1a:FnScope Z1s ["entry", "shut", "onward"] (defScope Z1k):=⟨rfl,rfl,rfl,by decide +kernel,rfl,by decide +kernel,by decide +kernel⟩
abbrev Z2i:Stmt:=top 11
abbrev Z2q:List Str:=["entries", "shut", "onward", "rows", "entry", "how", "day"]
theorem Z2p:FnScope Z2q ["entries", "shut"] (defScope Z2i):=⟨rfl,rfl,rfl,by decide +kernel,rfl,by decide +kernel,by decide +kernel⟩
abbrev Z18:Stmt:=top 13
abbrev Z1i:List Str:=["_law_script", "_law_place"]
theorem Z17:FnScope Z1i ["_law_script", "_law_place"] (defScope Z18):=⟨rfl,rfl,rfl,by decide +kernel,rfl,by decide +kernel,by decide +kernel⟩
abbrev Zx:Stmt:=top 14
abbrev Z1m:List Str:=["_law_cell_here", "_law_one", "_law_two"]
theorem Z14:FnScope Z1m ["_law_cell_here"] (defScope Zx):=⟨rfl,rfl,rfl,by decide +kernel,rfl,by decide +kernel,by decide +kernel⟩
abbrev Z9:Stmt:=top 15
abbrev Zg:List Str:=["_law_cell_here", "_law_sizes", "_law_rest", "_law_found", "_law_k", "_law_size"]
theorem Zc:FnScope Zg ["_law_cell_here", "_law_sizes"] (defScope Z9):=⟨rfl,rfl,rfl,by decide +kernel,rfl,by decide +kernel,by decide +kernel⟩
abbrev Zf:Stmt:=top 16
abbrev Zq:List Str:=["_law_thing"]
theorem Ze:FnScope Zq ["_law_thing"] (defScope Zf):=⟨rfl,rfl,rfl,by decide +kernel,rfl,by decide +kernel,by decide +kernel⟩
abbrev Z2:Stmt:=top 17
abbrev Z6:List Str:=["_law_found", "_law_row"]
theorem Z1:FnScope Z6 ["_law_found"] (defScope Z2):=⟨rfl,rfl,rfl,by decide +kernel,rfl,by decide +kernel,by decide +kernel⟩
abbrev Zv:Stmt:=top 18
abbrev Z1g:List Str:=["_law_script", "_law_a", "_law_b", "_law_c", "_law_d", "_law_far", "_law_span", "_law_few", "_law_base"]
theorem Zt:FnScope Z1g ["_law_script"] (defScope Zv):=⟨rfl,rfl,rfl,by decide +kernel,rfl,by decide +kernel,by decide +kernel⟩
abbrev Z5:Stmt:=top 19
abbrev Zd:List Str:=["_law_cells", "_law_span", "_law_few", "_law_base", "_law_crowd", "_law_found", "_law_names", "_law_cell_here", "_law_rank", "_law_number", "_law_big", "_law_year", "_law_way", "_law_own", "_law_sort", "_law_k"]
theorem Z8:FnScope Zd ["_law_cells", "_law_span", "_law_few", "_law_base", "_law_crowd"] (defScope Z5):=⟨rfl,rfl,rfl,by decide +kernel,rfl,by decide +kernel,by decide +kernel⟩
abbrev Z10:Stmt:=top 20
abbrev Z1h:List Str:=["_law_cell_here", "_law_span", "_law_base", "_law_sizes", "_law_k", "_law_drawn", "_law_shut_here"]
theorem Zu:FnScope Z1h ["_law_cell_here", "_law_span", "_law_base"] (defScope Z10):=⟨rfl,rfl,rfl,by decide +kernel,rfl,by decide +kernel,by decide +kernel⟩
abbrev Zr:Stmt:=top 21
abbrev Z1c:List Str:=["_law_script", "_law_most", "_law_span", "_law_few", "_law_base", "_law_crowd", "_law_entries_here", "_law_shut_here"]
theorem Z15:FnScope Z1c ["_law_script", "_law_most"] (defScope Zr):=⟨rfl,rfl,rfl,by decide +kernel,rfl,by decide +kernel,by decide +kernel⟩
abbrev Z2k:Stmt:=top 22
abbrev Z2r:List Str:=["_law_script", "_law_entries_here", "_law_shut_here", "_law_whole_here", "_law_many", "_law_off", "_law_run", "_law_ones", "_law_names", "_law_one", "_law_closed", "_law_day", "_law_alone"]
theorem Z2m:FnScope Z2r ["_law_script"] (defScope Z2k):=⟨rfl,rfl,rfl,by decide +kernel,rfl,by decide +kernel,by decide +kernel⟩
theorem Zk:(["rank", "number", "year", "way", "own", "0acc", "0entries"]:List Str).Nodup:=by decide +kernel
theorem Z1n:(["number", "year", "how", "day", "0acc", "0entries", "0rows", "own"]:List Str).Nodup:=by decide +kernel
theorem Z25:(["number", "year", "how", "day", "0acc", "0entries", "0rows", "own", "0reaches", "0joined", "0first", "0last"]:List Str).Nodup:=by decide +kernel
theorem Z2c:(["_law_one", "0acc", "0_law_script", "0_law_entries_here", "0_law_shut_here", "0_law_whole_here", "0_law_many", "0_law_off", "_law_run", "0_law_ones", "0_law_names", "0_law_one", "0_law_closed", "0_law_day", "0_law_alone"]:List Str).Nodup:=by decide +kernel
theorem Z2a:(["_law_row", "0acc", "0_law_script", "0_law_entries_here", "0_law_shut_here", "0_law_whole_here", "0_law_many", "0_law_off", "0_law_run", "0_law_ones", "_law_names", "0_law_one", "0_law_closed", "0_law_day", "0_law_alone"]:List Str).Nodup:=by decide +kernel
def Z12:Sp2:=λds Q=>∃ c:Int,ds = [.int c] /\ ∀ v:Int,Q (.val (.int v))
def Zs:Sp2:=λds Q=>∃ (ns:List Int) (i:Int),ds = [.lst (ns.map D.int),.int i] /\ 0 <= i /\ ∀ v:Int,Q (.val (.int v))
def Za:Sp2:=λds Q=>∃ (c:Int) (sizes:List Int),ds = [.int c,.lst (sizes.map D.int)] /\ (∀ s ∈ sizes,0 < s /\ s < 2 ^ 200) /\ sizes.length <= 100 /\ ∀ out,Drawn out sizes -> Q (.new (.lst (out.map D.int)))
section
variable {P:Program} {w:World} {K:PySem.W.Frag} {mg:Str -> Option Value} {base:Heap}
theorem Zp {f:Addr} {fd:FuncData} (F:Fun K "_law_cell" "_law_cell" Z18 f fd)  (z_len:mg "len" = none)  : FnOk P w K mg base CX0 (0 + 1) f fd ["_law_script", "_law_place"] (liftSp K Zs):=by
  refine Wr.fun_ok F Z17 (by rintro ds Qd ⟨ns,i,rfl,_⟩;rfl) (λcdv A outer s H E hr ds Qd h=>?_);obtain ⟨ns,i,rfl,hi,q⟩:=h;obtain ⟨n,rfl⟩:=Int.eq_ofNat_of_zero_le hi
  refine ⟨_,(Wr.s_cons (Wr.s_if (Wr.t_cmp op_lt lf_lt (Wr.b_var 1) (Wr.PE2_bo (Wr.e_len z_len (Wr.ab_cons (Wr.b_var 0) Wr.ab_nil))) (nomark _)) (Wr.s_one (Wr.s_ret (Wr.e_ix (Wr.b_var 0) (Wr.b_var 1))))
      Wr.s_nil) (Wr.s_one (Wr.s_ret (Wr.e_int)))),?_⟩
  exact if_p (p:=(n:Int) < ((ns.map D.int).length:Int)) (λQ q=>q) (λhlt=>⟨_,atI_map (by rw [List.length_map] at hlt;omega),q _⟩) (λ_=>q _)
theorem Zz {f:Addr} {fd:FuncData} (F:Fun K "_law_seed" "_law_seed" Zx f fd)   : FnOk P w K mg base CX0 (0 + 1) f fd ["_law_cell_here"] (liftSp K Z12):=by
  refine Wr.fun_ok F Z14 (by rintro ds Qd ⟨c,rfl,_⟩;rfl) (λcdv A outer s H E hr ds Qd h=>?_);obtain ⟨c,rfl,q⟩:=h
  refine ⟨_,(Wr.s_cons (Wr.s_if (Wr.t_cmp op_ge lf_ge (Wr.b_var 0) (Wr.PE2_bo (Wr.e_pow (Wr.PE2_bo (Wr.e_int)) (Wr.PE2_bo (Wr.e_int)))) (nomark _)) (Wr.s_one (Wr.s_ret (Wr.e_var 0)))
      Wr.s_nil) (Wr.s_cons (Wr.s_set 1 Z14.nd (Wr.e_mod (Wr.PE2_bo (Wr.e_mul (Wr.PE2_bo (Wr.e_mod (Wr.PE2_bo (Wr.e_add (Wr.PE2_bo (Wr.e_mul (Wr.b_var 0) (Wr.PE2_bo (Wr.e_int)))) (Wr.PE2_bo (Wr.e_int)))) (Wr.PE2_bo (Wr.e_int)))) (Wr.PE2_bo (Wr.e_int)))) (Wr.PE2_bo (Wr.e_int)))) (Wr.s_cons (Wr.s_set 2 Z14.nd (Wr.e_mod (Wr.PE2_bo (Wr.e_mul (Wr.PE2_bo (Wr.e_mod (Wr.PE2_bo (Wr.e_add (Wr.PE2_bo (Wr.e_mul (Wr.b_var 0) (Wr.PE2_bo (Wr.e_int)))) (Wr.PE2_bo (Wr.e_int)))) (Wr.PE2_bo (Wr.e_int)))) (Wr.PE2_bo (Wr.e_int)))) (Wr.PE2_bo (Wr.e_int)))) (Wr.s_one (Wr.s_ret (Wr.e_add (Wr.PE2_bo (Wr.e_mul (Wr.b_var 1) (Wr.PE2_bo (Wr.e_int)))) (Wr.b_var 2))))))),?_⟩
  exact if_by (λQ q=>⟨cpow,q⟩) (λ_=>q _) (λ_=>⟨cmulR,cpos,cmulR,cpos,cmulR,cpos,cmulR,cpos,cmulR,q _⟩)
theorem Zb {f:Addr} {fd:FuncData} (F:Fun K "_law_digits" "_law_digits" Z9 f fd) (Y8:Fn2 P w K mg base 1 "_law_seed" Z12) (z_enumerate:mg "enumerate" = none)  : FnOk P w K mg base CX0 (1 + 1) f fd ["_law_cell_here", "_law_sizes"] (liftSp K Za):=by
  refine Wr.fun_ok F Zc (by rintro ds Qd ⟨c,ss,rfl,_⟩;rfl) (λcdv A outer s H E hr ds Qd h=>?_);obtain ⟨c,sizes,rfl,hpos,hlen,q⟩:=h
  refine ⟨_,(Wr.s_cons (Wr.s_set 2 Zc.nd (Wr.e_call Y8 hr (Wr.a_cons (Wr.e_var 0) Wr.a_nil))) (Wr.s_cons (Wr.s_setN 3 Zc.nd (Wr.n_lst Wr.a_nil)) (Wr.s_cons (Wr.s_forE PassesOwn.never rfl rfl z_enumerate (Wr.a_cons (Wr.e_var 1) Wr.a_nil) (Wr.g_tup (n:=2) rfl (Wr.gs_cons (Wr.g_name 4 Zc.nd) (Wr.gs_cons (Wr.g_name 5 Zc.nd) Wr.gs_nil))) (Wr.s_cons (Wr.s_if (Wr.t_cmp op_lt lf_lt (Wr.b_var 2) (Wr.b_var 5) (nomark _)) (Wr.s_one (Wr.s_set 2 Zc.nd (Wr.e_call Y8 hr (Wr.a_cons (Wr.e_add (Wr.PE2_bo (Wr.e_add (Wr.b_var 2) (Wr.PE2_bo (Wr.e_mul (Wr.PE2_bo (Wr.e_int)) (Wr.b_var 4))))) (Wr.PE2_bo (Wr.e_mod (Wr.b_var 0) (Wr.PE2_bo (Wr.e_int))))) Wr.a_nil))))
      Wr.s_nil) (Wr.s_cons (Wr.s_app 3 (Wr.e_mod (Wr.b_var 2) (Wr.b_var 5))) (Wr.s_one (Wr.s_set 2 Zc.nd (Wr.e_fdiv (Wr.b_var 2) (Wr.b_var 5))))))) (Wr.s_one (Wr.s_retO 3))))),?_⟩
  refine ⟨_,rfl,λr0=>⟨Nat.zero_le _,?_⟩⟩
  refine loop_ind (λds δ=>∃ (k:Nat) (rest:Int) (acc done ss:List Int),ds = enumD k (ss.map D.int) /\ δ = [.fr (.int c),.fr (.lst (sizes.map D.int)),.fr (.int rest),.ow (.lst (acc.map D.int)),.un,.un] /\
    Drawn acc done /\ sizes = done ++ ss /\ acc.length + ss.length <= 100) ?_ ?_ _ _ ⟨0,r0,[],[],sizes,rfl,rfl,.nil,rfl,by simpa using hlen⟩
  · rintro δ ⟨k,rest,acc,done,ss,e,rfl,hd,hs,_⟩
    cases ss with
    | cons s ss=>cases e
    | nil=>exact q acc (by rw [hs,List.append_nil];exact hd)
  · rintro d r δ L hL ⟨k,rest,acc,done,ss,e,rfl,hd,hs,hl⟩
    cases ss with
    | nil=>cases e
    | cons s ss =>
      have e1:d = .tup [.int k,.int s]:=by cases e;rfl
      have e2:r = enumD (k + 1) (ss.map D.int):=by cases e;rfl
      subst e1 e2;have hs':=hpos s (by rw [hs];simp);have hlen2:(acc.map D.int).length < sizeLine:=by rw [List.length_map];simp at hl;exact small1000 (by omega)
      have fin:∀ r':Int,L [.fr (.int c),.fr (.lst (sizes.map D.int)),.fr (.int (r' / s)),.ow (.lst (acc.map D.int ++ [.int (r' % s)])),.fr (.int k),.fr (.int s)]:=λr' =>
        hL _ _ ⟨k + 1,r' / s,acc ++ [r' % s],done ++ [s],ss,rfl,rfl,hd.snoc (Int.emod_nonneg _ (by omega)) (Int.emod_lt_of_pos _ hs'.1),by simp [hs],by simp at hl ⊢;omega⟩ (by rw [List.map_append];repeat constructor)
      refine ⟨rfl,if_by (λQ q=>q) (λ_=>⟨cmulL,cpos,_,rfl,λv=>⟨hs'.1,hlen2,hs',fin v⟩⟩) (λ_=>⟨hs'.1,hlen2,hs',fin rest⟩)⟩
def openM (kvs:List (Key × D)) (rank day:Int):Bool:=match valD kvs (.inl day) with
  | some (.int b)=>decide (rank <= b)
  | _=>true
def Bounds (kvs:List (Key × D)):Prop:=∀ p ∈ kvs,∃ b:Int,p.2 = .int b
theorem valD_mem {κ:Type} [DecidableEq κ] {kvs:List (κ × D)} {k:κ} {d:D} (h:valD kvs k = some d):∃ p ∈ kvs,p.2 = d:=by
  unfold valD at h;obtain ⟨p,hp,rfl⟩:=Option.map_eq_some_iff.mp h;exact ⟨p,List.mem_of_find?_eq_some hp,rfl⟩
theorem Bounds.at {kvs:List (Key × D)} (h:Bounds kvs) {k:Key} {d:D} (e:valD kvs k = some d):∃ b:Int,d = .int b:=by
  obtain ⟨p,hp,rfl⟩:=valD_mem e;exact h p hp
def Z1x:Sp2:=λds Q=>∃ (rank day:Int) (kvs:List (Key × D)),ds = [.int rank,.int day,.dK kvs] /\ Bounds kvs /\ Q (.val (.bl (openM kvs rank day)))
theorem Z1w {f:Addr} {fd:FuncData} (F:Fun K "open_to" "open_to" Z1p f fd)   : FnOk P w K mg base CX0 (0 + 1) f fd ["rank", "day", "shut"] (liftSp K Z1x):=by
  refine Wr.fun_ok F Z1v (by rintro ds Qd ⟨r,d,k,rfl,_⟩;rfl) (λcdv A outer s H E hr ds Qd h=>?_);obtain ⟨rank,day,kvs,rfl,hb,q⟩:=h;refine ⟨_,(Wr.s_one (Wr.s_ret (Wr.e_or (Wr.e_dnotin (hu_of hr) (Wr.b_var 1) (Wr.b_var 2)) (Wr.e_one (Wr.e_cmp op_le lf_le (Wr.b_var 0) (Wr.PE2_bo (Wr.e_dget (hu_of hr) (Wr.b_var 2) (Wr.b_var 1))) (nomark _)))))),?_⟩;unfold openM at q
  cases e:valD kvs (.inl day) with
  | none =>
    rw [e] at q;exact ret_by (orV_t (RdE.eq (λQ q=>q) (by rw [e];rfl))) q
  | some d =>
    obtain ⟨b,rfl⟩:=hb.at e;rw [e] at q;refine ret_by (RdE.eq (orV_by (b1:=false) (RdE.eq (λQ q=>q) (by rw [e];rfl)) λ_=>λQ q=>⟨_,e,q⟩) (by rw [Bool.false_or])) q
theorem Bounds.put {kvs:List (Key × D)} {k:Key} {b:Int} (h:Bounds kvs):Bounds (putD kvs k (.int b)):=putD_all (P:=λd=>∃ b:Int,d = .int b) h ⟨b,rfl⟩
def Z27:Sp2:=λds Q=>∃ a b c x y:D,ds = [.tup [a,b,c,x,y]] /\ Q (.val (.tup [a,b,c]))
theorem Z1z {f:Addr} {fd:FuncData} (F:Fun K "height" "height" Z23 f fd)   : FnOk P w K mg base CX0 (0 + 1) f fd ["entry"] (liftSp K Z27):=by
  refine Wr.fun_ok F Z22 (by rintro ds Qd ⟨a,b,c,x,y,rfl,_⟩;rfl) (λcdv A outer s H E hr ds Qd h=>?_);obtain ⟨a,b,c,x,y,rfl,q⟩:=h;refine ⟨_,(Wr.s_one (Wr.s_ret (Wr.e_slT (Wr.b_var 0) Wr.o_none (Wr.o_some (Wr.PE2_bo (Wr.e_int)))))),?_⟩;exact ⟨λz=>absurd (show (3:Nat) = 5 from z.2) (by decide),q⟩
structure Ent where
  rank:Int
  number:Int
  year:Int
  way:Str
  own:Int
def Ent.d (e:Ent):D:=.tup [.int e.rank,.int e.number,.int e.year,.str e.way,.int e.own]
structure Row where
  number:Int
  year:Int
  how:Str
  day:Int
def Row.d (r:Row):D:=.tup [.int r.number,.int r.year,.str r.how,.int r.day]
def Ent.key (e:Ent):List Int:=[e.rank,e.number,e.year]
def Ent.name (e:Ent):Int × Int:=(e.number,e.year)
def keyI:D -> List Int
  | .tup (.int a :: .int b :: .int c :: _)=>[a,b,c]
  | _=>[0]
theorem keyI_d (e:Ent):keyI e.d = e.key:=rfl
structure Ordd (es os:List Ent):Prop where
  perm:os.Perm es
  rise:os.Pairwise λa b=>HT.lexLt a.key b.key = true
theorem Ordd.uniq {es os os':List Ent} (h:Ordd es os) (h':Ordd es os'):os = os':=by
  have hp:os.Perm os':=h.perm.trans h'.perm.symm;exact hp.eq_of_pairwise (λa b _ _ x y=>by rw [lex_asym x] at y;cases y) h.rise h'.rise
abbrev Names (es:List Ent):Prop:=(es.map Ent.name).Nodup
theorem Names.keys {es:List Ent} (h:Names es):(es.map Ent.key).Nodup:=by
  unfold Names List.Nodup at h;unfold List.Nodup;rw [List.pairwise_map] at h ⊢;refine h.imp λ{a b} n e=>n ?_
  unfold Ent.key at e;unfold Ent.name
  injection e with _ e
  injection e with e1 e
  injection e with e2 _
  rw [e1,e2]
theorem keys_map (es:List Ent):(es.map Ent.d).map keyI = es.map Ent.key:=by rw [List.map_map];rfl
def keyD:D -> D
  | .tup [a,b,c,_,_]=>.tup [a,b,c]
  | d=>d
theorem ordd_of {es:List Ent} {ods:List D} (hp:ods.Perm (es.map Ent.d)) (hR:ods.Pairwise λa b=>HT.lexLt (keyI a) (keyI b) = true):∃ os,ods = os.map Ent.d /\ Ordd es os:=by
  obtain ⟨os,p,rfl⟩:=perm_map_inv Ent.d hp es rfl;rw [List.pairwise_map] at hR;exact ⟨os,rfl,p,hR⟩
def Z1t:Sp2:=λds Q=>∃ es:List Ent,ds = [.lst (es.map Ent.d)] /\ Names es /\ ∀ os,Ordd es os -> Q (.new (.lst (os.map Ent.d)))
theorem Z1q {f:Addr} {fd:FuncData} (F:Fun K "ordered" "ordered" Z1o f fd)  (Ye:Fn2 P w K mg base 1 "height" Z27) (z_sorted:mg "sorted" = none)  : FnOk P w K mg base CX0 (3 + 1) f fd ["entries"] (liftSp K Z1t):=by
  refine Wr.fun_ok F Z1u (by rintro ds Qd ⟨es,rfl,_⟩;rfl) (λcdv A outer s H E hr ds Qd h=>?_);obtain ⟨es,rfl,hn,q⟩:=h;refine ⟨_,(Wr.s_one (Wr.s_retN (Wr.n_sortK sort_lex Ye hr z_sorted (Wr.e_var 0)))),?_⟩;refine ⟨keyD,_,λd hd=>?_,⟨keyI,λd hd=>?_,by rw [keys_map];exact hn.keys,rfl⟩,λods hp hR=>?_⟩
  · obtain ⟨e,_,rfl⟩:=List.mem_map.mp hd
    exact ⟨_,_,_,_,_,rfl,rfl⟩
  · obtain ⟨e,_,rfl⟩:=List.mem_map.mp hd
    exact ⟨rfl,by rw [keyI_d];exact λz=>by cases z⟩
  · obtain ⟨os,rfl,ho⟩:=ordd_of hp hR
    exact q os ho
theorem nodup_le {α:Type} [DecidableEq α]:∀ (xs ks:List α),xs.Nodup -> (∀ x ∈ xs,x ∈ ks) -> xs.length <= ks.length
  | [],_,_,_=>Nat.zero_le _
  | x :: xs,ks,nd,h=>by
    rw [List.nodup_cons] at nd;have hx:=h x (.head _);have:=nodup_le xs (ks.erase x) nd.2 λy hy=>(List.mem_erase_of_ne (λe=>by subst e;exact nd.1 hy)).mpr (h y (.tail _ hy))
    rw [List.length_erase_of_mem hx] at this;have:=List.length_pos_of_mem hx;rw [List.length_cons];omega
def shutDom (kvs:List (Key × D)):List Int:=kvs.filterMap λp=>match p.1 with
  | .inl i=>some i
  | .inr _=>none
theorem shutDom_len (kvs:List (Key × D)):(shutDom kvs).length <= kvs.length:=List.length_filterMap_le _ _
theorem shut_in {kvs:List (Key × D)} {rank x:Int} (h:openM kvs rank x = false):x ∈ shutDom kvs:=by
  unfold openM at h
  cases e:valD kvs (.inl x) with
  | none=>rw [e] at h;cases h
  | some d =>
    unfold valD at e;obtain ⟨p,hp,_⟩:=Option.map_eq_some_iff.mp e;have h1:=List.mem_of_find?_eq_some hp;have h2:=List.find?_some hp;have h3:p.1 = .inl x:=by simpa using h2
    exact List.mem_filterMap.mpr ⟨p,h1,by rw [h3]⟩
theorem open_down {kvs:List (Key × D)} {r r' x:Int} (hr:r <= r') (h:openM kvs r x = false):openM kvs r' x = false:=by
  unfold openM at h ⊢
  cases e:valD kvs (.inl x) with
  | none=>rw [e] at h;cases h
  | some d =>
    rw [e] at h
    cases d with
    | int b=>simp only [decide_eq_false_iff_not] at h ⊢;omega
    | _=>cases h
theorem putD_mem {κ:Type} [DecidableEq κ] {kvs:List (κ × D)} {k:κ} {d:D} {p:κ × D} (h:p ∈ putD kvs k d):p = (k,d) \/ p ∈ kvs:=by
  unfold putD at h
  split at h
  · obtain ⟨q,hq,rfl⟩:=List.mem_map.mp h
    split
    · rename_i e;exact .inl (by rw [e])
    · exact .inr hq
  · rcases List.mem_append.mp h with h | h
    · exact .inr h
    · exact .inl (by simpa using h)
def Blocked (kvs:List (Key × D)) (rank:Int) (held:List Int) (x:Int):Prop:=x ∈ held \/ openM kvs rank x = false
structure Onw (kvs:List (Key × D)) (rank:Int) (held:List Int) (ow:List (Key × D)):Prop where
  nums:∀ p ∈ ow,∃ i e:Int,p = (.inl i,.int e)
  nd:(ow.map (·.1)).Nodup
  go:∀ d e:Int,valD ow (.inl d) = some (.int e) -> d < e /\ ∀ x,d <= x -> x < e -> Blocked kvs rank held x
  has:∀ x ∈ held,∃ e:Int,valD ow (.inl x) = some (.int e)
theorem Onw.at {kvs:List (Key × D)} {rank:Int} {held:List Int} {ow:List (Key × D)} (h:Onw kvs rank held ow) {k:Key} {d:D} (e:valD ow k = some d):∃ b:Int,d = .int b:=by
  obtain ⟨p,hp,rfl⟩:=valD_mem e;obtain ⟨i,b,rfl⟩:=h.nums p hp;exact ⟨b,rfl⟩
theorem mem_val {κ:Type} [DecidableEq κ] {kvs:List (κ × D)} {p:κ × D} (h:p ∈ kvs):(valD kvs p.1).isSome = true:=by
  rw [<- valD_any];exact List.any_eq_true.mpr ⟨p,h,by simp⟩
theorem Onw.len {kvs:List (Key × D)} {rank:Int} {held:List Int} {ow:List (Key × D)} (h:Onw kvs rank held ow):ow.length <= held.length + kvs.length:=by
  have h1:=nodup_le (ow.map (·.1)) ((held ++ shutDom kvs).map Sum.inl) h.nd (λx hx=>by
    obtain ⟨p,hp,rfl⟩:=List.mem_map.mp hx;obtain ⟨i,e,rfl⟩:=h.nums p hp;obtain ⟨d,hd⟩:=Option.isSome_iff_exists.mp (mem_val hp);obtain ⟨b,rfl⟩:=h.at hd;obtain ⟨g1,g2⟩:=h.go i b hd;refine List.mem_map.mpr ⟨i,?_,rfl⟩
    rcases g2 i (Int.le_refl _) g1 with z | z
    · exact List.mem_append_left _ z
    · exact List.mem_append_right _ (shut_in z))
  rw [List.length_map,List.length_map,List.length_append] at h1;have:=shutDom_len kvs;omega
theorem Onw.put {kvs:List (Key × D)} {rank:Int} {held:List Int} {ow:List (Key × D)} (h:Onw kvs rank held ow) {d e:Int} (hd:d < e) (hb:∀ x,d <= x -> x < e -> Blocked kvs rank held x):Onw kvs rank held (putD ow (.inl d) (.int e)):=by
  refine ⟨λp hp=>?_,putD_nodup h.nd,λd' e' h'=>?_,λx hx=>?_⟩
  · rcases putD_mem hp with rfl | hp
    · exact ⟨d,e,rfl⟩
    · exact h.nums p hp
  · rw [valD_put] at h'
    by_cases q:(Sum.inl d':Key) = .inl d
    · cases q
      rw [if_pos rfl] at h';cases h';exact ⟨hd,hb⟩
    · rw [if_neg q] at h'
      exact h.go d' e' h'
  · rw [valD_put]
    by_cases q:(Sum.inl x:Key) = .inl d
    · rw [if_pos q];exact ⟨e,rfl⟩
    · rw [if_neg q];exact h.has x hx
theorem Onw.more {kvs:List (Key × D)} {rank:Int} {held:List Int} {ow:List (Key × D)} (h:Onw kvs rank held ow) (f:Int):Onw kvs rank (f :: held) (putD ow (.inl f) (.int (f + 1))):=by
  refine ⟨λp hp=>?_,putD_nodup h.nd,λd' e' h'=>?_,λx hx=>?_⟩
  · rcases putD_mem hp with rfl | hp
    · exact ⟨f,f + 1,rfl⟩
    · exact h.nums p hp
  · rw [valD_put] at h'
    by_cases q:(Sum.inl d':Key) = .inl f
    · cases q
      rw [if_pos rfl] at h';cases h';refine ⟨by omega,λx h1 h2=>.inl ?_⟩;have : x = f:=by omega
      rw [this];exact .head _
    · rw [if_neg q] at h'
      obtain ⟨g1,g2⟩:=h.go d' e' h';exact ⟨g1,λx h1 h2=>(g2 x h1 h2).imp (λz=>.tail _ z) id⟩
  · rw [valD_put]
    by_cases q:(Sum.inl x:Key) = .inl f
    · rw [if_pos q];exact ⟨f + 1,rfl⟩
    · rw [if_neg q]
      rcases List.mem_cons.mp hx with rfl | hx
      · exact absurd rfl q
      · exact h.has x hx
theorem Onw.mono {kvs:List (Key × D)} {r r':Int} {held:List Int} {ow:List (Key × D)} (h:Onw kvs r held ow) (hr:r <= r'):Onw kvs r' held ow :=
  ⟨h.nums,h.nd,λd e q=>⟨(h.go d e q).1,λx h1 h2=>((h.go d e q).2 x h1 h2).imp id (open_down hr)⟩,h.has⟩
theorem Onw.nil {kvs:List (Key × D)} {r:Int}:Onw kvs r [] []:=⟨(λ_ z=>nomatch z),List.nodup_nil,(λd e q=>by cases q),(λ_ z=>nomatch z)⟩
structure IsFF (kvs:List (Key × D)) (rank:Int) (held:List Int) (d f:Int):Prop where
  le:d <= f
  nh:f ∉ held
  op:openM kvs rank f = true
  all:∀ x,d <= x -> x < f -> Blocked kvs rank held x
def ub:List Int -> Int
  | []=>0
  | x :: xs=>max (x + 1) (ub xs)
theorem ub_lt:∀ {l:List Int} {x:Int},x ∈ l -> x < ub l
  | y :: ys,x,h=>by
    rcases List.mem_cons.mp h with rfl | h
    · simp only [ub];omega
    · have:=ub_lt h
      simp only [ub];omega
theorem Blocked.lt {kvs:List (Key × D)} {rank:Int} {held:List Int} {x:Int} (h:Blocked kvs rank held x):x < ub (held ++ shutDom kvs):=by
  rcases h with z | z
  · exact ub_lt (List.mem_append_left _ z)
  · exact ub_lt (List.mem_append_right _ (shut_in z))
def Zn:Sp3:=λds d Q=>∃ (rank day:Int) (kvs:List (Key × D)) (held:List Int) (ow:List (Key × D)),ds = [.int rank,.int day,.dK kvs] /\ d = .dK ow /\ Bounds kvs /\ Onw kvs rank held ow /\ held.length + kvs.length <= 10000000 /\
  ∀ f ow',IsFF kvs rank held day f -> Onw kvs rank held ow' -> Q (.int f) (.dK ow')
theorem big7 {n:Nat} (h:n <= 10000000):n < sizeLine:=Nat.lt_of_le_of_lt h (by decide)
theorem Zm {f:Addr} {fd:FuncData} (F:Fun K "first_free" "first_free" Zh f fd) (Yd:Fn2 P w K mg base 1 "open_to" Z1x)  : FnOk P w K mg base CX0 (1 + 1) f fd ["rank", "day", "shut", "onward"] (liftSp3 K Zn):=by
  refine Wr.fun3_ok F Zl (by rintro ds d Qd ⟨r,d,k,hl,o,rfl,_⟩;rfl) (λcdv A outer s H G E p hr ds d Qd h=>?_);obtain ⟨rank,day,kvs,held,ow,rfl,rfl,hb,ho,hsz,q⟩:=h
  refine ⟨_,(Wr.s_cons (Wr.s_setN 4 Zl.nd (Wr.n_lst Wr.a_nil)) (Wr.s_cons (Wr.s_while PassesOwn.never (Wr.PW2_pt (Wr.t_or (Wr.t_din (hu_of hr) (Wr.b_var 1) (Wr.b_var 3)) (Wr.t_or1 (Wr.t_not (Wr.t_val (Wr.e_call Yd hr (Wr.a_cons (Wr.e_var 0) (Wr.a_cons (Wr.e_var 1) (Wr.a_cons (Wr.e_var 2) Wr.a_nil))))))))) (Wr.s_cons (Wr.s_app 4 (Wr.e_var 1)) (Wr.s_one (Wr.s_set 1 Zl.nd (Wr.e_dget2 (hu_of hr) (Wr.b_var 3) (Wr.e_var 1) (Wr.e_add (Wr.b_var 1) (Wr.PE2_bo (Wr.e_int)))))))) (Wr.s_freeze 4 (Wr.s_cons (Wr.s_forL PassesOwn.never rfl (Wr.e_var 4) (Wr.g_name 5 Zl.nd) (Wr.s_one (Wr.s_dput 3 (hu_of hr) (Wr.e_var 5) (Wr.e_var 1)))) (Wr.s_one (Wr.s_ret (Wr.e_var 1))))))),?_⟩
  refine ⟨Nat.zero_le _,?_⟩
  refine while_ind (λm δ=>∃ (d':Int) (passed:List Int),δ = [.fr (.int rank),.fr (.int d'),.fr (.dK kvs),.lk p (.dK ow),.ow (.lst (passed.map D.int)),.un] /\ day <= d' /\ (∀ x,day <= x -> x < d' -> Blocked kvs rank held x) /\ (∀ x ∈ passed,day <= x /\ x < d') /\ passed.Nodup /\
    m = (ub (held ++ shutDom kvs) - d').toNat) _ ⟨day,[],rfl,Int.le_refl _,(λx h1 h2=>by omega),(λx z=>nomatch z),List.nodup_nil,rfl⟩ ?_
  rintro m δ L hL ⟨d',passed,rfl,h1,h2,h3,h4,rfl⟩;have hlen:(passed.map D.int).length < sizeLine:=by
    have e1:=nodup_le passed (held ++ shutDom kvs) h4 (λx hx=>by
      obtain ⟨a1,a2⟩:=h3 x hx
      rcases h2 x a1 a2 with z | z
      · exact List.mem_append_left _ z
      · exact List.mem_append_right _ (shut_in z))
    have e2:=shutDom_len kvs;rw [List.length_append] at e1;rw [List.length_map];exact big7 (by omega)
  have step:∀ e:Int,d' < e -> (∀ x,d' <= x -> x < e -> Blocked kvs rank held x) -> L [.fr (.int rank),.fr (.int e),.fr (.dK kvs),.lk p (.dK ow),.ow (.lst (passed.map D.int ++ [.int d'])),.un]:=λe he hbl=>by
    have hblk:=(hbl d' (Int.le_refl _) he).lt;refine hL _ _ _ ⟨e,passed ++ [d'],rfl,by omega,λx a1 a2=>?_,λx hx=>?_,?_,rfl⟩ (by omega) (by rw [List.map_append];exact Fg.refl _)
    · by_cases hx:x < d'
      · exact h2 x a1 hx
      · exact hbl x (by omega) a2
    · rcases List.mem_append.mp hx with hx | hx
      · have:=h3 x hx;omega
      · have : x = d':=by simpa using hx
        omega
    · rw [List.nodup_append]
      refine ⟨h4,by simp,λa ha b hb' e=>?_⟩;have : b = d':=by simpa using hb'
      have:=h3 a ha;omega
  have stop:valD ow (.inl d') = none -> openM kvs rank d' = true -> rFreeze 4 (rSeq (rForL (rVar 4) (gSet 5) (rDPut 3 (rVar 5) (rVar 1))) (rRet (rVar 1))) { nx:=λδ=>∃ d',δ[3]? = some (.lk p d') /\ Qd .non d',rt:=λr δ=>∃ x d',r = .val x /\ δ[3]? = some (.lk p d') /\ Qd x d' }
      [.fr (.int rank),.fr (.int d'),.fr (.dK kvs),.lk p (.dK ow),.ow (.lst (passed.map D.int)),.un]:=λhn hop=>by
    have ff:IsFF kvs rank held day d':=⟨h1,(λz=>by obtain ⟨e,he⟩:=ho.has d' z;rw [hn] at he;cases he),hop,h2⟩;refine loop_ind (λds δ=>∃ (ms:List Int) (ow':List (Key × D)),ds = ms.map D.int /\ δ = [.fr (.int rank),.fr (.int d'),.fr (.dK kvs),.lk p (.dK ow'),.fr (.lst (passed.map D.int)),.un] /\ Onw kvs rank held ow' /\ ∀ x ∈ ms,day <= x /\ x < d') ?_ ?_ _ _ ⟨passed,ow,rfl,rfl,ho,h3⟩
    · rintro δ ⟨ms,ow',e,rfl,ho',_⟩
      exact ⟨_,_,rfl,rfl,q d' ow' ff ho'⟩
    · rintro d r δ L2 hL2 ⟨ms,ow',e,rfl,ho',hm⟩
      cases ms with
      | nil=>cases e
      | cons m ms =>
        obtain ⟨rfl,rfl⟩:d = .int m /\ r = ms.map D.int:=by cases e;exact ⟨rfl,rfl⟩
        obtain ⟨m1,m2⟩:=hm m (.head _);refine ⟨big7 (by have:=ho'.len;omega),hL2 _ _ ⟨ms,putD ow' (.inl m) (.int d'),rfl,rfl,ho'.put m2 (λx a1 a2=>h2 x (by omega) a2),λx hx=>hm x (.tail _ hx)⟩ (by repeat constructor)⟩
  cases ev:valD ow (.inl d') with
  | some dv =>
    obtain ⟨e,rfl⟩:=ho.at ev;obtain ⟨g1,g2⟩:=ho.go d' e ev;have hR:RdT (rOr (rTest (rOp (dDIn false) (rVarB 1) (rVarB 3))) (rNot (rTest (rCall Z1x (rCons (rVar 0) (rCons (rVar 1) (rCons (rVar 2) rNil))))))) [.fr (.int rank),.fr (.int d'),.fr (.dK kvs),.lk p (.dK ow),.ow (.lst (passed.map D.int)),.un] true :=
      or_t (RdT.eq (λQ q=>q) (by rw [ev];rfl))
    refine hR _ (Two.t ⟨hlen,?_⟩);have e3:((valD ow (.inl d')).getD (.int (d' + 1))) = .int e:=by rw [ev];rfl
    show L [.fr (.int rank),.fr ((valD ow (.inl d')).getD (.int (d' + 1))),.fr (.dK kvs),.lk p (.dK ow),.ow (.lst (passed.map D.int ++ [.int d'])),.un]
    rw [e3];exact step e g1 g2
  | none =>
    have hR:RdT (rOr (rTest (rOp (dDIn false) (rVarB 1) (rVarB 3))) (rNot (rTest (rCall Z1x (rCons (rVar 0) (rCons (rVar 1) (rCons (rVar 2) rNil))))))) [.fr (.int rank),.fr (.int d'),.fr (.dK kvs),.lk p (.dK ow),.ow (.lst (passed.map D.int)),.un] (false || !openM kvs rank d') :=
      or_by (RdT.eq (λQ q=>q) (by rw [ev];rfl)) λ_=>not_by (λQ q=>⟨_,_,_,rfl,hb,q⟩)
    cases hop:openM kvs rank d' with
    | true =>
      rw [hop] at hR;exact hR _ (Two.f (stop ev hop))
    | false =>
      rw [hop] at hR;refine hR _ (Two.t ⟨hlen,?_⟩);have e3:((valD ow (.inl d')).getD (.int (d' + 1))) = .int (d' + 1):=by rw [ev];rfl
      show L [.fr (.int rank),.fr ((valD ow (.inl d')).getD (.int (d' + 1))),.fr (.dK kvs),.lk p (.dK ow),.ow (.lst (passed.map D.int ++ [.int d'])),.un]
      rw [e3]
      exact step (d' + 1) (by omega) (λx a1 a2=>.inr (by have : x = d':=(by omega);rw [this];exact hop))
inductive Placed (kvs:List (Key × D)) (held:List Int) (e:Ent):Str -> Int -> List Int -> Prop where
  | stands {f:Int} (ff:IsFF kvs e.rank held e.own f) (h:e.way = "moves" \/ f = e.own):Placed kvs held e "stands" f (f :: held)
  | noted {f:Int} (ff:IsFF kvs e.rank held e.own f) (h1:¬ e.way = "moves") (h2:¬ f = e.own) (h3:e.way = "stays"):Placed kvs held e "noted" e.own held
  | gone {f:Int} (ff:IsFF kvs e.rank held e.own f) (h1:¬ e.way = "moves") (h2:¬ f = e.own) (h3:¬ e.way = "stays"):Placed kvs held e "out" e.own held
inductive Laid (kvs:List (Key × D)):List Int -> List Ent -> List Row -> List Int -> Prop where
  | nil {held:List Int}:Laid kvs held [] [] held
  | cons {held held' held2:List Int} {e:Ent} {es:List Ent} {how:Str} {day:Int} {rows:List Row} (p:Placed kvs held e how day held') (l:Laid kvs held' es rows held2):Laid kvs held (e :: es) (⟨e.number,e.year,how,day⟩ :: rows) held2
theorem Placed.len {kvs:List (Key × D)} {held held':List Int} {e:Ent} {how:Str} {day:Int} (h:Placed kvs held e how day held'):held'.length <= held.length + 1:=by
  cases h <;> simp
def Z1l:Sp3:=λds d Q=>∃ (e:Ent) (kvs:List (Key × D)) (held:List Int) (ow:List (Key × D)),ds = [e.d,.dK kvs] /\ d = .dK ow /\ Bounds kvs /\ Onw kvs e.rank held ow /\ held.length + kvs.length <= 9000000 /\
  ∀ how day held' ow',Placed kvs held e how day held' -> Onw kvs e.rank held' ow' -> Q (.tup [.str how,.int day]) (.dK ow')
theorem Z1e {f:Addr} {fd:FuncData} (F:Fun K "place_of" "place_of" Z1k f fd) (Y3:Fn3 P w K mg base 2 "first_free" Zn)  : FnOk P w K mg base CX0 (2 + 1) f fd ["entry", "shut", "onward"] (liftSp3 K Z1l):=by
  refine Wr.fun3_ok F Z1a (by rintro ds d Qd ⟨e,k,hl,o,rfl,_⟩;rfl) (λcdv A outer s H G E p hr ds d Qd h=>?_);obtain ⟨e,kvs,held,ow,rfl,rfl,hb,ho,hsz,q⟩:=h
  refine ⟨_,(Wr.s_cons (Wr.s_asg (Wr.e_var 0) (Wr.g_tup (n:=5) rfl (Wr.gs_cons (Wr.g_name 3 Z1a.nd) (Wr.gs_cons (Wr.g_name 4 Z1a.nd) (Wr.gs_cons (Wr.g_name 5 Z1a.nd) (Wr.gs_cons (Wr.g_name 6 Z1a.nd) (Wr.gs_cons (Wr.g_name 7 Z1a.nd) Wr.gs_nil))))))) (Wr.s_cons (Wr.s_asgL Y3 hr (Wr.al_cons (Wr.e_var 3) (Wr.al_cons (Wr.e_var 7) (Wr.al_cons (Wr.e_var 1) (Wr.al_nil 2)))) (Wr.g_name 8 Z1a.nd)) (Wr.s_cons (Wr.s_if (Wr.PW2_pt (Wr.t_or (Wr.t_cmp op_eq lf_eqS (Wr.b_var 6) (Wr.PE2_bo (Wr.e_str)) (nomark _)) (Wr.t_or1 (Wr.t_cmp op_eq lf_eqS (Wr.b_var 8) (Wr.b_var 7) (nomark _))))) (Wr.s_cons (Wr.s_dput 2 (hu_of hr) (Wr.e_var 8) (Wr.e_add (Wr.b_var 8) (Wr.PE2_bo (Wr.e_int)))) (Wr.s_one (Wr.s_ret (Wr.e_tup (Wr.a_cons (Wr.e_str) (Wr.a_cons (Wr.e_var 8) Wr.a_nil))))))
      Wr.s_nil) (Wr.s_cons (Wr.s_if (Wr.t_cmp op_eq lf_eqS (Wr.b_var 6) (Wr.PE2_bo (Wr.e_str)) (nomark _)) (Wr.s_one (Wr.s_ret (Wr.e_tup (Wr.a_cons (Wr.e_str) (Wr.a_cons (Wr.e_var 7) Wr.a_nil)))))
      Wr.s_nil) (Wr.s_one (Wr.s_ret (Wr.e_tup (Wr.a_cons (Wr.e_str) (Wr.a_cons (Wr.e_var 7) Wr.a_nil))))))))),?_⟩
  refine ⟨rfl,_,_,_,held,ow,rfl,rfl,hb,ho,by omega,λf ow' ff ho'=>?_⟩;refine if_by (or_by (b1:=decide (e.way = "moves")) (RdT.eq (λQ q=>q) (by simp)) (λ_=>RdT.eq (b2:=decide (f = e.own)) (λQ q=>q) (by simp))) (λhc=>?_) (λhc=>?_)
  · have hc':e.way = "moves" \/ f = e.own:=by simpa using hc
    exact ⟨big7 (by have:=ho'.len;omega),sz2,_,_,rfl,rfl,q _ _ _ _ (.stands ff hc') (ho'.more f)⟩
  · have hc':¬ e.way = "moves" /\ ¬ f = e.own:=by simpa using hc
    refine if_eq (p:=e.way = "stays") (λQ q=>q) (λh3=>⟨sz2,_,_,rfl,rfl,q _ _ _ _ (.noted ff hc'.1 hc'.2 h3) ho'⟩) (λh3=>⟨sz2,_,_,rfl,rfl,q _ _ _ _ (.gone ff hc'.1 hc'.2 h3) ho'⟩)
theorem lex_rank {a b:Ent} (h:HT.lexLt a.key b.key = true):a.rank <= b.rank:=by
  unfold Ent.key at h;rw [HT.lexLt_cons] at h
  split at h
  · omega
  · have:=of_decide_eq_true h;omega
def Z2o:Sp2:=λds Q=>∃ (es:List Ent) (kvs:List (Key × D)),ds = [.lst (es.map Ent.d),.dK kvs] /\ Names es /\ es.length <= 400 /\ Bounds kvs /\ kvs.length <= 5000000 /\ ∀ os rows held,Ordd es os -> Laid kvs [] os rows held -> Q (.new (.lst (rows.map Row.d)))
theorem Z2n {f:Addr} {fd:FuncData} (F:Fun K "lay" "lay" Z2i f fd) (Yc:Fn2 P w K mg base 4 "ordered" Z1t) (Yb:Fn3 P w K mg base 4 "place_of" Z1l)  : FnOk P w K mg base CX0 (4 + 1) f fd ["entries", "shut"] (liftSp K Z2o):=by
  refine Wr.fun_ok F Z2p (by rintro ds Qd ⟨es,k,rfl,_⟩;rfl) (λcdv A outer s H E hr ds Qd h=>?_);obtain ⟨es,kvs,rfl,hn,hl,hb,hk,q⟩:=h
  refine ⟨_,(Wr.s_cons (Wr.s_setN 2 Z2p.nd (Wr.n_dK)) (Wr.s_cons (Wr.s_setN 3 Z2p.nd (Wr.n_lst Wr.a_nil)) (Wr.s_cons (Wr.s_forL PassesOwn.never rfl (Wr.e_call Yc hr (Wr.a_cons (Wr.e_var 0) Wr.a_nil)) (Wr.g_name 4 Z2p.nd) (Wr.s_cons (Wr.s_asgL Yb hr (Wr.al_cons (Wr.e_var 4) (Wr.al_cons (Wr.e_var 1) (Wr.al_nil 2))) (Wr.g_tup (n:=2) rfl (Wr.gs_cons (Wr.g_name 5 Z2p.nd) (Wr.gs_cons (Wr.g_name 6 Z2p.nd) Wr.gs_nil)))) (Wr.s_one (Wr.s_app 3 (Wr.e_tup (Wr.a_cons (Wr.e_ix (Wr.b_var 4) (Wr.PE2_bo (Wr.e_int))) (Wr.a_cons (Wr.e_ix (Wr.b_var 4) (Wr.PE2_bo (Wr.e_int))) (Wr.a_cons (Wr.e_var 5) (Wr.a_cons (Wr.e_var 6) Wr.a_nil))))))))) (Wr.s_one (Wr.s_retO 3))))),?_⟩
  refine ⟨Nat.zero_le _,es,rfl,hn,λos ho=>?_⟩;have hlo:os.length <= 400:=by rw [ho.perm.length_eq];exact hl
  have hup:os.Pairwise (λa b=>a.rank <= b.rank):=ho.rise.imp lex_rank
  refine loop_ind (λds δ=>∃ (todo:List Ent) (rows:List Row) (held:List Int) (ow:List (Key × D)) (r0:Int),ds = todo.map Ent.d /\ δ = [.fr (.lst (es.map Ent.d)),.fr (.dK kvs),.ow (.dK ow),.ow (.lst (rows.map Row.d)),.un,.un,.un] /\
    (∀ rows' held',Laid kvs held todo rows' held' -> Laid kvs [] os (rows ++ rows') held') /\ Onw kvs r0 held ow /\ (∀ e ∈ todo,r0 <= e.rank) /\ todo.Pairwise (λa b=>a.rank <= b.rank) /\ rows.length + todo.length <= 1000 /\ held.length + todo.length <= 1000) ?_ ?_ _ _
    ⟨os,[],[],[],(os.head?.map (·.rank)).getD 0,rfl,rfl,λrows' held' l=>l,Onw.nil,?_,hup,by simp;omega,by simp;omega⟩
  · rintro δ ⟨todo,rows,held,ow,r0,e,rfl,hL,ho',hr0,hs,hl1,hl2⟩
    cases todo with
    | cons e todo=>cases e
    | nil =>
      have:=hL [] held .nil;rw [List.append_nil] at this;exact q os rows held ho this
  · rintro d r δ L hLL ⟨todo,rows,held,ow,r0,e,rfl,hL,ho',hr0,hs,hl1,hl2⟩
    cases todo with
    | nil=>cases e
    | cons e0 todo =>
      obtain ⟨rfl,rfl⟩:d = e0.d /\ r = todo.map Ent.d:=by cases e;exact ⟨rfl,rfl⟩
      rw [List.length_cons] at hl1 hl2;rw [List.pairwise_cons] at hs;refine ⟨e0,kvs,held,ow,rfl,rfl,hb,ho'.mono (hr0 e0 (.head _)),by omega,λhow day held' ow' hp ho2=>?_⟩;refine ⟨rfl,_,rfl,_,rfl,sz4,by rw [List.length_map];exact small1000 (by omega),?_⟩;refine hLL _ _ ⟨todo,rows ++ [⟨e0.number,e0.year,how,day⟩],held',ow',e0.rank,rfl,rfl,λrows' held2 l=>?_,ho2,λe he=>hs.1 e he,hs.2,by simp;omega,by have:=hp.len;omega⟩ (by rw [List.map_append];repeat constructor);have:=hL _ _ (.cons hp l);rw [List.append_assoc];exact this
  · intro e he
    match os,hup,he with
    | e1 :: es1,hup,he =>
      show e1.rank <= e.rank
      rw [List.pairwise_cons] at hup
      rcases List.mem_cons.mp he with rfl | he
      · exact Int.le_refl _
      · exact hup.1 e he
def Zj:Sp2:=λds Q=>∃ i:Int,ds = [.int i] /\ Q (.val (.bl true))
theorem Zi {f:Addr} {fd:FuncData} (F:Fun K "_law_whole" "_law_whole" Zf f fd)  (z_isinstance:mg "isinstance" = none) (z_bool:mg "bool" = none) (z_int:mg "int" = none)  : FnOk P w K mg base CX0 (0 + 1) f fd ["_law_thing"] (liftSp K Zj):=by
  refine Wr.fun_ok F Ze (by rintro ds Qd ⟨i,rfl,_⟩;rfl) (λcdv A outer s H E hr ds Qd h=>?_);obtain ⟨i,rfl,q⟩:=h;refine ⟨_,(Wr.s_one (Wr.s_ret (Wr.e_and (Wr.e_isi (kind_int _) z_isinstance z_int (Wr.b_var 0)) (Wr.e_one (Wr.e_not (Wr.e_isi (kind_bool _) z_isinstance z_bool (Wr.b_var 0))))))),?_⟩;exact ret_by (andV_tt (λQ q=>q) (λQ q=>q)) q
def Z0:Sp2:=λds Q=>∃ rows:List Row,ds = [.lst (rows.map Row.d)] /\ Q (.val (.bl true))
theorem Z3 {f:Addr} {fd:FuncData} (F:Fun K "_law_are_rows" "_law_are_rows" Z2 f fd) (Y4:Fn2 P w K mg base 1 "_law_whole" Zj) (z_isinstance:mg "isinstance" = none) (z_list:mg "list" = none) (z_len:mg "len" = none) (z_tuple:mg "tuple" = none) (z_str:mg "str" = none)  : FnOk P w K mg base CX0 (1 + 1) f fd ["_law_found"] (liftSp K Z0):=by
  refine Wr.fun_ok F Z1 (by rintro ds Qd ⟨r,rfl,_⟩;rfl) (λcdv A outer s H E hr ds Qd h=>?_);obtain ⟨rows,rfl,q⟩:=h
  refine ⟨_,(Wr.s_cons (Wr.s_if (Wr.t_not (Wr.t_val (Wr.e_isi (kind_list _) z_isinstance z_list (Wr.b_var 0)))) (Wr.s_one (Wr.s_ret (Wr.e_bl)))
      Wr.s_nil) (Wr.s_cons (Wr.s_forL PassesOwn.never rfl (Wr.e_var 0) (Wr.g_name 1 Z1.nd) (Wr.s_cons (Wr.s_if (Wr.PW2_pt (Wr.t_or (Wr.t_not (Wr.t_val (Wr.e_isi (kind_tuple _) z_isinstance z_tuple (Wr.b_var 1)))) (Wr.t_or1 (Wr.t_cmp op_ne lf_neS (Wr.PE2_bo (Wr.e_len z_len (Wr.ab_cons (Wr.b_var 1) Wr.ab_nil))) (Wr.PE2_bo (Wr.e_int)) (nomark _))))) (Wr.s_one (Wr.s_ret (Wr.e_bl)))
      Wr.s_nil) (Wr.s_cons (Wr.s_if (Wr.PW2_pt (Wr.t_or (Wr.t_not (Wr.t_val (Wr.e_call Y4 hr (Wr.a_cons (Wr.e_ix (Wr.b_var 1) (Wr.PE2_bo (Wr.e_int))) Wr.a_nil)))) (Wr.t_or1 (Wr.t_not (Wr.t_val (Wr.e_call Y4 hr (Wr.a_cons (Wr.e_ix (Wr.b_var 1) (Wr.PE2_bo (Wr.e_int))) Wr.a_nil))))))) (Wr.s_one (Wr.s_ret (Wr.e_bl)))
      Wr.s_nil) (Wr.s_one (Wr.s_if (Wr.PW2_pt (Wr.t_or (Wr.t_not (Wr.t_val (Wr.e_isi (kind_str _) z_isinstance z_str (Wr.PE2_bo (Wr.e_ix (Wr.b_var 1) (Wr.PE2_bo (Wr.e_int))))))) (Wr.t_or1 (Wr.t_not (Wr.t_val (Wr.e_call Y4 hr (Wr.a_cons (Wr.e_ix (Wr.b_var 1) (Wr.PE2_bo (Wr.e_int))) Wr.a_nil))))))) (Wr.s_one (Wr.s_ret (Wr.e_bl)))
      Wr.s_nil))))) (Wr.s_one (Wr.s_ret (Wr.e_bl))))),?_⟩
  refine if_f (not_by (b1:=true) (λQ q=>q)) ?_;refine loop_ind (λds δ=>∃ rs:List Row,ds = rs.map Row.d /\ δ = [.fr (.lst (rows.map Row.d)),.un]) ?_ ?_ _ _ ⟨rows,rfl,rfl⟩
  · rintro δ ⟨rs,e,rfl⟩
    exact q
  · rintro d r δ L hL ⟨rs,e,rfl⟩
    cases rs with
    | nil=>cases e
    | cons r0 rs =>
      obtain ⟨rfl,rfl⟩:d = r0.d /\ r = rs.map Row.d:=by cases e;exact ⟨rfl,rfl⟩
      refine if_f (or_ff (not_by (b1:=true) (λQ q=>q)) (RdT.eq (λQ q=>q) rfl)) ?_;refine if_f (or_ff (not_by (b1:=true) (λQ q=>⟨_,rfl,_,rfl,q⟩)) (not_by (b1:=true) (λQ q=>⟨_,rfl,_,rfl,q⟩))) ?_;refine if_f (or_ff (not_by (b1:=true) (λQ q=>⟨_,rfl,q⟩)) (not_by (b1:=true) (λQ q=>⟨_,rfl,_,rfl,q⟩))) ?_;exact hL _ _ ⟨rs,rfl,rfl⟩ (by repeat constructor)
theorem atI_in {xs:List D} {i:Int} (h0:0 <= i) (h1:i < xs.length):∃ d,atI xs i = some d /\ d ∈ xs:=by
  obtain ⟨n,rfl⟩:=Int.eq_ofNat_of_zero_le h0;have hn:n < xs.length:=by omega
  exact ⟨xs[n],atI_nat (List.getElem?_eq_getElem hn),List.getElem_mem hn⟩
theorem small200 {i:Int} (h:i <= 100000):i < 2 ^ 200:=Int.lt_of_le_of_lt h (by decide)
def Z13:Sp2:=λds Q=>∃ ns:List Int,ds = [.lst (ns.map D.int)] /\ ∀ span few base crowd:Int,0 < span -> span <= 40 -> 0 < few -> few <= 9 -> 0 <= base -> base <= 10 ^ 11 -> 0 <= crowd -> crowd < 3 -> Q (.val (.tup [.int span,.int few,.int base,.int crowd]))
theorem Zw {f:Addr} {fd:FuncData} (F:Fun K "_law_head" "_law_head" Zv f fd) (Y2:Fn2 P w K mg base 2 "_law_digits" Za) (Y6:Fn2 P w K mg base 2 "_law_cell" Zs)  : FnOk P w K mg base CX0 (2 + 1) f fd ["_law_script"] (liftSp K Z13):=by
  refine Wr.fun_ok F Zt (by rintro ds Qd ⟨ns,rfl,_⟩;rfl) (λcdv A outer s H E hr ds Qd h=>?_);obtain ⟨ns,rfl,q⟩:=h
  refine ⟨_,(Wr.s_cons (Wr.s_asg (Wr.e_call Y2 hr (Wr.a_cons (Wr.e_call Y6 hr (Wr.a_cons (Wr.e_var 0) (Wr.a_cons (Wr.e_int) Wr.a_nil))) (Wr.a_cons (Wr.PN2_fx (Wr.n_lst (Wr.a_cons (Wr.e_int) (Wr.a_cons (Wr.e_int) (Wr.a_cons (Wr.e_int) (Wr.a_cons (Wr.e_int) (Wr.a_cons (Wr.e_pow (Wr.PE2_bo (Wr.e_int)) (Wr.PE2_bo (Wr.e_int))) Wr.a_nil))))))) Wr.a_nil))) (Wr.g_lst (n:=5) rfl (Wr.gs_cons (Wr.g_name 1 Zt.nd) (Wr.gs_cons (Wr.g_name 2 Zt.nd) (Wr.gs_cons (Wr.g_name 3 Zt.nd) (Wr.gs_cons (Wr.g_name 4 Zt.nd) (Wr.gs_cons (Wr.g_name 5 Zt.nd) Wr.gs_nil))))))) (Wr.s_cons (Wr.s_set 6 Zt.nd (Wr.e_ix (Wr.PN2_bo (Wr.n_lst (Wr.a_cons (Wr.e_int) (Wr.a_cons (Wr.e_int) (Wr.a_cons (Wr.e_int) (Wr.a_cons (Wr.e_int) Wr.a_nil)))))) (Wr.b_var 1))) (Wr.s_cons (Wr.s_set 7 Zt.nd (Wr.e_ix (Wr.PN2_bo (Wr.n_lst (Wr.a_cons (Wr.e_int) (Wr.a_cons (Wr.e_int) (Wr.a_cons (Wr.e_int) Wr.a_nil))))) (Wr.b_var 2))) (Wr.s_cons (Wr.s_set 8 Zt.nd (Wr.e_ix (Wr.PN2_bo (Wr.n_lst (Wr.a_cons (Wr.e_int) (Wr.a_cons (Wr.e_int) (Wr.a_cons (Wr.e_int) (Wr.a_cons (Wr.e_var 5) Wr.a_nil)))))) (Wr.b_var 3))) (Wr.s_one (Wr.s_ret (Wr.e_tup (Wr.a_cons (Wr.e_var 6) (Wr.a_cons (Wr.e_var 7) (Wr.a_cons (Wr.e_var 8) (Wr.a_cons (Wr.e_var 4) Wr.a_nil))))))))))),?_⟩
  refine ⟨_,_,rfl,by decide,λv=>⟨cpow,sz5,_,[_,_,_,_,_],rfl,by decide,by decide,Drawn.five λa b c d far a0 a1 b0 b1 c0 c1 d0 d1 g0 g1=>⟨rfl,?_⟩⟩⟩;obtain ⟨ds,e1,m1⟩:=atI_in (xs:=[D.int 1,.int 4,.int 12,.int 40]) a0 a1;obtain ⟨df,e2,m2⟩:=atI_in (xs:=[D.int 1,.int 3,.int 9]) b0 b1;obtain ⟨db,e3,m3⟩:=atI_in (xs:=[D.int 0,.int 0,.int 3,.int far]) c0 c1;refine ⟨sz4,ds,e1,sz3,df,e2,sz4,db,e3,sz4,?_⟩;obtain ⟨span,rfl,s0,s1⟩:∃ i:Int,ds = .int i /\ 0 < i /\ i <= 40:=by
    simp only [List.mem_cons,List.not_mem_nil,or_false] at m1
    rcases m1 with rfl | rfl | rfl | rfl <;> exact ⟨_,rfl,by decide,by decide⟩
  obtain ⟨few,rfl,f0,f1⟩:∃ i:Int,df = .int i /\ 0 < i /\ i <= 9:=by
    simp only [List.mem_cons,List.not_mem_nil,or_false] at m2
    rcases m2 with rfl | rfl | rfl <;> exact ⟨_,rfl,by decide,by decide⟩
  obtain ⟨base,rfl,v0,v1⟩:∃ i:Int,db = .int i /\ 0 <= i /\ i <= 10 ^ 11:=by
    simp only [List.mem_cons,List.not_mem_nil,or_false] at m3
    rcases m3 with rfl | rfl | rfl | rfl <;> first | exact ⟨_,rfl,by decide,by decide⟩ | exact ⟨_,rfl,g0,Int.le_of_lt (Int.lt_of_lt_of_le g1 (by decide))⟩
  exact q _ _ _ _ s0 s1 f0 f1 v0 v1 d0 d1
theorem big10 {n:Int} (h:0 <= n):n * 10 ^ 10 < 100 \/ 10 ^ 10 <= n * 10 ^ 10:=by omega
def Way3 (x:Str):Prop:=x = "moves" \/ x = "stays" \/ x = "lapses"
structure EntOk (e:Ent):Prop where
  rank:1 <= e.rank
  way:Way3 e.way
  num:e.number < 1000 \/ 10 ^ 10 <= e.number
  own0:0 <= e.own
  own1:e.own <= 10 ^ 11 + 100
structure Ents (es:List Ent) (n:Nat):Prop where
  names:Names es
  all:∀ e ∈ es,EntOk e
  len:es.length <= n
theorem way_of {d:D} (h:d ∈ [D.str "moves", .str "moves", .str "stays", .str "lapses"]):∃ x,d = .str x /\ Way3 x:=by
  simp only [List.mem_cons,List.not_mem_nil,or_false] at h
  rcases h with rfl | rfl | rfl | rfl
  · exact ⟨_,rfl,.inl rfl⟩
  · exact ⟨_,rfl,.inl rfl⟩
  · exact ⟨_,rfl,.inr (.inl rfl)⟩
  · exact ⟨_,rfl,.inr (.inr rfl)⟩
def Z7:Sp2:=λds Q=>∃ (cells:List Int) (span few base crowd:Int),ds = [.lst (cells.map D.int),.int span,.int few,.int base,.int crowd] /\ 0 < span /\ span <= 40 /\ 0 < few /\ few <= 9 /\ 0 <= base /\ base <= 10 ^ 11 /\ 0 <= crowd /\ crowd <= 100 /\ cells.length <= 100 /\
  ∀ es,Ents es (cells.length + crowd.toNat) -> Q (.new (.lst (es.map Ent.d)))
theorem Ents.snoc {es:List Ent} {n:Nat} {e:Ent} (h:Ents es n) (he:EntOk e) (hn:e.name ∉ es.map Ent.name):Ents (es ++ [e]) (n + 1):=by
  refine ⟨?_,λx hx=>?_,by rw [List.length_append];have:=h.len;simp;omega⟩
  · unfold Names
    rw [List.map_append,List.nodup_append];refine ⟨h.names,by simp,λa ha b hb e'=>hn ?_⟩;have : b = e.name:=by simpa using hb
    rw [<- this,<- e'];exact ha
  · rcases List.mem_append.mp hx with hx | hx
    · exact h.all x hx
    · have : x = e:=by simpa using hx
      rw [this];exact he
theorem Ents.more {es:List Ent} {n m:Nat} (h:Ents es n) (hm:n <= m):Ents es m:=⟨h.names,h.all,Nat.le_trans h.len hm⟩
theorem Z4 {f:Addr} {fd:FuncData} (F:Fun K "_law_entries" "_law_entries" Z5 f fd) (Y2:Fn2 P w K mg base 2 "_law_digits" Za) (z_range:mg "range" = none) (z_sum:mg "sum" = none)  : FnOk P w K mg base CX0 (2 + 1) f fd ["_law_cells", "_law_span", "_law_few", "_law_base", "_law_crowd"] (liftSp K Z7):=by
  refine Wr.fun_ok F Z8 (by rintro ds Qd ⟨c,a,b,d,e,rfl,_⟩;rfl) (λcdv A outer s H E hr ds Qd h=>?_);obtain ⟨cells,span,few,base,crowd,rfl,s0,s1,f0,f1,v0,v1,c0,c1,hcl,q⟩:=h
  refine ⟨_,(Wr.s_cons (Wr.s_setN 5 Z8.nd (Wr.n_lst Wr.a_nil)) (Wr.s_cons (Wr.s_setN 6 Z8.nd (Wr.n_dT)) (Wr.s_cons (Wr.s_forL PassesOwn.never rfl (Wr.e_var 0) (Wr.g_name 7 Z8.nd) (Wr.s_cons (Wr.s_asg (Wr.e_call Y2 hr (Wr.a_cons (Wr.e_var 7) (Wr.a_cons (Wr.PN2_fx (Wr.n_lst (Wr.a_cons (Wr.e_int) (Wr.a_cons (Wr.e_int) (Wr.a_cons (Wr.e_int) (Wr.a_cons (Wr.e_int) (Wr.a_cons (Wr.e_int) (Wr.a_cons (Wr.e_var 1) Wr.a_nil)))))))) Wr.a_nil))) (Wr.g_lst (n:=6) rfl (Wr.gs_cons (Wr.g_name 8 Z8.nd) (Wr.gs_cons (Wr.g_name 9 Z8.nd) (Wr.gs_cons (Wr.g_name 10 Z8.nd) (Wr.gs_cons (Wr.g_name 11 Z8.nd) (Wr.gs_cons (Wr.g_name 12 Z8.nd) (Wr.gs_cons (Wr.g_name 13 Z8.nd) Wr.gs_nil)))))))) (Wr.s_cons (Wr.s_if (Wr.t_cmp op_eq lf_eqS (Wr.b_var 10) (Wr.PE2_bo (Wr.e_int)) (nomark _)) (Wr.s_one (Wr.s_set 9 Z8.nd (Wr.e_mul (Wr.b_var 9) (Wr.PE2_bo (Wr.e_pow (Wr.PE2_bo (Wr.e_int)) (Wr.PE2_bo (Wr.e_int)))))))
      Wr.s_nil) (Wr.s_cons (Wr.s_set 11 Z8.nd (Wr.e_ix (Wr.PN2_bo (Wr.n_lst (Wr.a_cons (Wr.e_int) (Wr.a_cons (Wr.e_int) (Wr.a_cons (Wr.e_int) (Wr.a_cons (Wr.e_int) (Wr.a_cons (Wr.e_int) (Wr.a_cons (Wr.e_int) (Wr.a_cons (Wr.e_int) (Wr.a_cons (Wr.e_int) (Wr.a_cons (Wr.e_pow (Wr.PE2_bo (Wr.e_int)) (Wr.PE2_bo (Wr.e_int))) Wr.a_nil))))))))))) (Wr.b_var 11))) (Wr.s_one (Wr.s_if (Wr.t_dnotin (hu_of hr) (Wr.PE2_bo (Wr.e_tup (Wr.a_cons (Wr.e_var 9) (Wr.a_cons (Wr.e_var 11) Wr.a_nil)))) (Wr.b_var 6)) (Wr.s_cons (Wr.s_dput 6 (hu_of hr) (Wr.e_tup (Wr.a_cons (Wr.e_var 9) (Wr.a_cons (Wr.e_var 11) Wr.a_nil))) (Wr.e_bl)) (Wr.s_cons (Wr.s_set 14 Z8.nd (Wr.e_ix (Wr.PN2_bo (Wr.n_lst (Wr.a_cons (Wr.e_str) (Wr.a_cons (Wr.e_str) (Wr.a_cons (Wr.e_str) (Wr.a_cons (Wr.e_str) Wr.a_nil)))))) (Wr.b_var 12))) (Wr.s_one (Wr.s_app 5 (Wr.e_tup (Wr.a_cons (Wr.e_add (Wr.PE2_bo (Wr.e_int)) (Wr.PE2_bo (Wr.e_mod (Wr.b_var 8) (Wr.b_var 2)))) (Wr.a_cons (Wr.e_var 9) (Wr.a_cons (Wr.e_var 11) (Wr.a_cons (Wr.e_var 14) (Wr.a_cons (Wr.e_add (Wr.b_var 3) (Wr.b_var 13)) Wr.a_nil))))))))))
      Wr.s_nil)))))) (Wr.s_cons (Wr.s_forR1 PassesOwn.never rfl rfl z_range (Wr.a_cons (Wr.e_var 4) Wr.a_nil) (Wr.g_name 15 Z8.nd) (Wr.s_cons (Wr.s_asg (Wr.e_call Y2 hr (Wr.a_cons (Wr.e_add (Wr.PE2_bo (Wr.e_sum rfl z_sum (Wr.ab_cons (Wr.b_var 0) Wr.ab_nil))) (Wr.PE2_bo (Wr.e_mul (Wr.PE2_bo (Wr.e_int)) (Wr.b_var 15)))) (Wr.a_cons (Wr.PN2_fx (Wr.n_lst (Wr.a_cons (Wr.e_int) (Wr.a_cons (Wr.e_int) Wr.a_nil)))) Wr.a_nil))) (Wr.g_lst (n:=2) rfl (Wr.gs_cons (Wr.g_name 8 Z8.nd) (Wr.gs_cons (Wr.g_name 12 Z8.nd) Wr.gs_nil)))) (Wr.s_cons (Wr.s_set 14 Z8.nd (Wr.e_ix (Wr.PN2_bo (Wr.n_lst (Wr.a_cons (Wr.e_str) (Wr.a_cons (Wr.e_str) (Wr.a_cons (Wr.e_str) (Wr.a_cons (Wr.e_str) Wr.a_nil)))))) (Wr.b_var 12))) (Wr.s_one (Wr.s_app 5 (Wr.e_tup (Wr.a_cons (Wr.e_add (Wr.PE2_bo (Wr.e_int)) (Wr.PE2_bo (Wr.e_mod (Wr.b_var 8) (Wr.b_var 2)))) (Wr.a_cons (Wr.e_add (Wr.PE2_bo (Wr.e_int)) (Wr.PE2_bo (Wr.e_mul (Wr.PE2_bo (Wr.e_int)) (Wr.b_var 15)))) (Wr.a_cons (Wr.e_int) (Wr.a_cons (Wr.e_var 14) (Wr.a_cons (Wr.e_add (Wr.b_var 3) (Wr.PE2_bo (Wr.e_mod (Wr.b_var 15) (Wr.PE2_bo (Wr.e_add (Wr.PE2_bo (Wr.e_int)) (Wr.PE2_bo (Wr.e_fdiv (Wr.b_var 1) (Wr.PE2_bo (Wr.e_int))))))))) Wr.a_nil))))))))))) (Wr.s_one (Wr.s_retO 5)))))),?_⟩
  refine ⟨Nat.zero_le _,?_⟩
  refine loop_ind (λds δ=>∃ (j:Nat) (ms:List Int) (es:List Ent) (nm:List (List Key × D)),ds = ms.map D.int /\ δ = [.fr (.lst (cells.map D.int)),.fr (.int span),.fr (.int few),.fr (.int base),.fr (.int crowd),.ow (.lst (es.map Ent.d)),.ow (.dT nm),.un,.un,.un,.un,.un,.un,.un,.un,.un] /\
    Ents es j /\ (∀ e ∈ es,(valD nm [.inl e.number,.inl e.year]).isSome = true /\ (e.number < 100 \/ 10 ^ 10 <= e.number)) /\ nm.length <= j /\ j + ms.length = cells.length) ?_ ?_ _ _ ⟨0,cells,[],[],rfl,rfl,⟨List.nodup_nil,(λ_ z=>nomatch z),Nat.le_refl _⟩,(λ_ z=>nomatch z),Nat.le_refl _,by omega⟩
  · rintro δ ⟨j,ms,es,nm,e,rfl,he,hn,hl,hj⟩
    cases ms with
    | cons m ms=>cases e
    | nil =>
    refine ⟨⟨by omega,Int.lt_of_le_of_lt c1 (by decide)⟩,?_⟩
    refine loop_ind (λds δ=>∃ (k:Nat) (es:List Ent),ds = (rng 0 crowd.toNat).drop k /\ k <= crowd.toNat /\ δ = [.fr (.lst (cells.map D.int)),.fr (.int span),.fr (.int few),.fr (.int base),.fr (.int crowd),.ow (.lst (es.map Ent.d)),.ow (.dT nm),.un,.un,.un,.un,.un,.un,.un,.un,.un] /\
      Ents es (cells.length + k) /\ ∀ e ∈ es,e.number < 100 + 7 * k \/ 10 ^ 10 <= e.number) ?_ ?_ _ _ ⟨0,es,rfl,Nat.zero_le _,rfl,he.more (by simp at hj;omega),λe he'=>by have:=(hn e he').2;omega⟩
    · rintro δ ⟨k,es,e,hk,rfl,he,hn⟩
      exact q es (he.more (by omega))
    · rintro d r δ L hL ⟨k,es,e,hk,rfl,he,hn⟩
      have hkn:k < crowd.toNat:=by
        rcases Nat.lt_or_ge k crowd.toNat with z | z
        · exact z
        · rw [List.drop_of_length_le (by simp [rng];omega)] at e;cases e
      rw [rng_drop 0 _ k hkn] at e;obtain ⟨rfl,rfl⟩:d = .int (0 + k) /\ r = (rng 0 crowd.toNat).drop (k + 1):=by cases e;exact ⟨rfl,rfl⟩
      refine ⟨cells,rfl,cmulL,sz2,_,[_,_],rfl,by decide,by decide,Drawn.two λrank way r0 r1 w0 w1=>⟨rfl,?_⟩⟩;obtain ⟨dw,e4,m4⟩:=atI_in (xs:=[D.str "moves", .str "moves", .str "stays", .str "lapses"]) w0 w1;obtain ⟨x,rfl,hx⟩:=way_of m4;have hq:0 < 1 + span / 4:=by omega
      have hln:(es.map Ent.d).length < sizeLine:=by rw [List.length_map];have:=he.len;exact small1000 (by omega)
      refine ⟨sz4,_,e4,?_⟩;have key:L [.fr (.lst (cells.map D.int)),.fr (.int span),.fr (.int few),.fr (.int base),.fr (.int crowd),.ow (.lst (es.map Ent.d ++ [.tup [.int (1 + rank % few),.int (100 + 7 * (0 + k)),.int 7,.str x,.int (base + (0 + k) % (1 + span / 4))]])),.ow (.dT nm),.un,.fr (.int rank),.un,.un,.un,.fr (.int way),.un,.fr (.str x),.fr (.int (0 + k))]:=by
        refine hL _ _ ⟨k + 1,es ++ [⟨1 + rank % few,100 + 7 * (0 + k),7,x,base + (0 + k) % (1 + span / 4)⟩],rfl,by omega,rfl,?_,λe he'=>?_⟩ (by rw [List.map_append];repeat constructor)
        · have hk0:=Int.emod_nonneg (0 + (k:Int)) (show 1 + span / 4 ≠ 0 by omega)
          have hk1:=Int.emod_lt_of_pos (0 + (k:Int)) hq;refine (he.snoc ⟨by have:=Int.emod_nonneg rank (show few ≠ 0 by omega);simp only;omega,hx,.inl (by simp only;omega),(by simp only;omega),(by simp only;omega)⟩ λhm=>?_).more (by omega);obtain ⟨e',he',en⟩:=List.mem_map.mp hm;have:=hn e' he';have e5:e'.number = 100 + 7 * (0 + k):=congrArg Prod.fst en;omega
        · rcases List.mem_append.mp he' with he' | he'
          · have:=hn e he';omega
          · have : e = ⟨1 + rank % few,100 + 7 * (0 + k),7,x,base + (0 + k) % (1 + span / 4)⟩:=by simpa using he'
            rw [this];simp only;omega
      exact ⟨f0,cmulL,⟨cpos,by decide⟩,hq,sz5,hln,key⟩
  · rintro d r δ L hL ⟨j,ms,es,nm,e,rfl,he,hn,hl,hj⟩
    cases ms with
    | nil=>cases e
    | cons m ms =>
      obtain ⟨rfl,rfl⟩:d = .int m /\ r = ms.map D.int:=by cases e;exact ⟨rfl,rfl⟩
      rw [List.length_cons] at hj;refine ⟨sz6,_,[_,_,_,_,_,_],rfl,λz hz=>?_,by simp,Drawn.six λrank number big year way own r0 r1 n0 n1 b0 b1 y0 y1 w0 w1 o0 o1=>⟨rfl,?_⟩⟩
      · simp only [List.mem_cons,List.not_mem_nil,or_false] at hz
        rcases hz with rfl | rfl | rfl | rfl | rfl | rfl
        iterate 5 exact ⟨by decide,by decide⟩
        exact ⟨s0,small200 (by omega)⟩
      obtain ⟨dw,e4,m4⟩:=atI_in (xs:=[D.str "moves", .str "moves", .str "stays", .str "lapses"]) w0 w1;obtain ⟨x,rfl,hx⟩:=way_of m4;obtain ⟨dy,e5,m5⟩:=atI_in (xs:=[D.int 0,.int 1,.int 2,.int 7,.int 9,.int 10,.int 11,.int 100,.int (10 ^ 11)]) y0 y1;obtain ⟨yr,rfl⟩:∃ i:Int,dy = .int i:=by
        simp only [List.mem_cons,List.not_mem_nil,or_false] at m5
        rcases m5 with rfl | rfl | rfl | rfl | rfl | rfl | rfl | rfl | rfl <;> exact ⟨_,rfl⟩
      have hnl:nm.length < sizeLine:=small1000 (by omega);have hln:(es.map Ent.d).length < sizeLine:=by rw [List.length_map];have:=he.len;exact small1000 (by omega)
      have fin2:∀ num:Int,L [.fr (.lst (cells.map D.int)),.fr (.int span),.fr (.int few),.fr (.int base),.fr (.int crowd),.ow (.lst (es.map Ent.d)),.ow (.dT nm),.fr (.int m),.fr (.int rank),.fr (.int num),.fr (.int big),.fr (.int yr),.fr (.int way),.fr (.int own),.un,.un]:=λnum =>
        hL _ _ ⟨j + 1,ms,es,nm,rfl,rfl,he.more (by omega),hn,by omega,by omega⟩ (by repeat constructor)
      have fin1:∀ num:Int,(num < 100 \/ 10 ^ 10 <= num) -> (true != (valD nm [.inl num,.inl yr]).isSome) = true -> L [.fr (.lst (cells.map D.int)),.fr (.int span),.fr (.int few),.fr (.int base),.fr (.int crowd),.ow (.lst (es.map Ent.d ++ [.tup [.int (1 + rank % few),.int num,.int yr,.str x,.int (base + own)]])),.ow (.dT (putD nm [.inl num,.inl yr] (.bl true))),.fr (.int m),.fr (.int rank),.fr (.int num),.fr (.int big),.fr (.int yr),.fr (.int way),.fr (.int own),.fr (.str x),.un]:=λnum h1 h2=>by
        have h3:(valD nm [.inl num,.inl yr]).isSome = false:=by
          cases hv:(valD nm [.inl num,.inl yr]).isSome with
          | false=>rfl
          | true=>rw [hv] at h2;cases h2
        refine hL _ _ ⟨j + 1,ms,es ++ [⟨1 + rank % few,num,yr,x,base + own⟩],_,rfl,rfl,?_,λe' he'=>?_,?_,by omega⟩ (by rw [List.map_append];repeat constructor)
        · refine he.snoc ⟨by have:=Int.emod_nonneg rank (show few ≠ 0 by omega);simp only;omega,hx,(by simp only;omega),(by simp only;omega),(by simp only;omega)⟩ λhm=>?_
          obtain ⟨e',he',en⟩:=List.mem_map.mp hm;have h4:=(hn e' he').1;have e6:e'.number = num:=congrArg Prod.fst en;have e7:e'.year = yr:=congrArg Prod.snd en;rw [e6,e7,h3] at h4;cases h4
        · rcases List.mem_append.mp he' with he' | he'
          · obtain ⟨a1,a2⟩:=hn e' he'
            refine ⟨?_,a2⟩;rw [valD_put]
            split
            · rfl
            · exact a1
          · have : e' = ⟨1 + rank % few,num,yr,x,base + own⟩:=by simpa using he'
            subst this;refine ⟨?_,h1⟩;rw [valD_put,if_pos rfl];rfl
        · have:=putD_length nm [.inl num,.inl yr] (.bl true)
          omega
      refine if_eq (p:=big = 0) (λQ q=>q) (λ_=>⟨cpow,cmulR,?_⟩) (λ_=>?_)
      · exact ⟨cpow,sz9,_,e5,if_by (λQ q=>⟨sz2,[.inl _,.inl _],rfl,q⟩) (λhc=>⟨sz2,[.inl _,.inl _],rfl,hnl,sz4,_,e4,f0,sz5,hln,fin1 _ (big10 n0) hc⟩) (λ_=>fin2 _)⟩
      · exact ⟨cpow,sz9,_,e5,if_by (λQ q=>⟨sz2,[.inl _,.inl _],rfl,q⟩) (λhc=>⟨sz2,[.inl _,.inl _],rfl,hnl,sz4,_,e4,f0,sz5,hln,fin1 _ (by omega) hc⟩) (λ_=>fin2 _)⟩
structure Shut (kvs:List (Key × D)) (n:Nat):Prop where
  all:∀ p ∈ kvs,∃ i b:Int,p = (.inl i,.int b) /\ 0 <= b /\ b <= 8
  nd:(kvs.map (·.1)).Nodup
  len:kvs.length <= n
theorem Shut.bounds {kvs:List (Key × D)} {n:Nat} (h:Shut kvs n):Bounds kvs:=λp hp=>by obtain ⟨i,b,rfl,_⟩:=h.all p hp;exact ⟨b,rfl⟩
theorem Shut.nil:Shut [] 0:=⟨(λ_ z=>nomatch z),List.nodup_nil,Nat.le_refl _⟩
theorem Shut.put {kvs:List (Key × D)} {n:Nat} (h:Shut kvs n) {i b:Int} (h0:0 <= b) (h1:b <= 8):Shut (putD kvs (.inl i) (.int b)) (n + 1) :=
  ⟨λp hp=>by
    rcases putD_mem hp with rfl | hp
    · exact ⟨i,b,rfl,h0,h1⟩
    · exact h.all p hp,putD_nodup h.nd,by have:=putD_length kvs (.inl i) (.int b);have:=h.len;omega⟩
theorem Shut.more {kvs:List (Key × D)} {n m:Nat} (h:Shut kvs n) (hm:n <= m):Shut kvs m:=⟨h.all,h.nd,Nat.le_trans h.len hm⟩
theorem drawn_ix:∀ {out ss:List Int} (_:Drawn out ss) (i:Nat) (s:Int),ss[i]? = some s -> ∃ d:Int,atI (out.map D.int) (i:Int) = some (.int d) /\ 0 <= d /\ d < s:=by
  intro out ss h i s e;have : ∃ d:Int,out[i]? = some d /\ 0 <= d /\ d < s:=by
    induction h generalizing i with
    | nil=>cases e
    | cons h0 h1 h ih =>
      cases i with
      | zero=>cases e;exact ⟨_,rfl,h0,h1⟩
      | succ i=>exact ih i e
  obtain ⟨d,e1,h0,h1⟩:=this;exact ⟨d,atI_nat (by rw [List.getElem?_map,e1];rfl),h0,h1⟩
def shutS (s:Int):List Int:=[7,s,9,s,9,s,9,s,9,s,9,s,9,31]
theorem shutS_pos {s:Int} (h0:0 < s) (h1:s <= 100):∀ z ∈ shutS s,0 < z /\ z < 2 ^ 200:=by
  intro z hz;simp only [shutS,List.mem_cons,List.not_mem_nil,or_false] at hz;have h2:s < 2 ^ 200:=small200 (by omega)
  rcases hz with rfl | rfl | rfl | rfl | rfl | rfl | rfl | rfl | rfl | rfl | rfl | rfl | rfl | rfl <;> first | exact ⟨h0,h2⟩ | exact ⟨by decide,by decide⟩
def Z19:Sp2:=λds Q=>∃ c span base:Int,ds = [.int c,.int span,.int base] /\ 0 < span /\ span <= 40 /\ ∀ kvs,Shut kvs 40 -> Q (.new (.dK kvs))
theorem Zy {f:Addr} {fd:FuncData} (F:Fun K "_law_shut" "_law_shut" Z10 f fd) (Y2:Fn2 P w K mg base 2 "_law_digits" Za) (z_range:mg "range" = none) (z_min:mg "min" = none)  : FnOk P w K mg base CX0 (2 + 1) f fd ["_law_cell_here", "_law_span", "_law_base"] (liftSp K Z19):=by
  refine Wr.fun_ok F Zu (by rintro ds Qd ⟨c,a,b,rfl,_⟩;rfl) (λcdv A outer s H E hr ds Qd h=>?_);obtain ⟨c,span,base,rfl,s0,s1,q⟩:=h
  refine ⟨_,(Wr.s_cons (Wr.s_set 3 Zu.nd (Wr.PN2_fx (Wr.n_lst (Wr.a_cons (Wr.e_int) Wr.a_nil)))) (Wr.s_cons (Wr.s_forR1 PassesOwn.never rfl rfl z_range (Wr.a_cons (Wr.e_int) Wr.a_nil) (Wr.g_name 4 Zu.nd) (Wr.s_one (Wr.s_set 3 Zu.nd (Wr.PN2_fx (Wr.n_cat (Wr.b_var 3) (Wr.PN2_bo (Wr.n_lst (Wr.a_cons (Wr.e_add (Wr.b_var 1) (Wr.PE2_bo (Wr.e_int))) (Wr.a_cons (Wr.e_int) Wr.a_nil))))))))) (Wr.s_cons (Wr.s_set 5 Zu.nd (Wr.e_call Y2 hr (Wr.a_cons (Wr.e_var 0) (Wr.a_cons (Wr.PN2_fx (Wr.n_cat (Wr.b_var 3) (Wr.PN2_bo (Wr.n_lst (Wr.a_cons (Wr.e_add (Wr.b_var 1) (Wr.PE2_bo (Wr.e_int))) (Wr.a_cons (Wr.e_int) (Wr.a_cons (Wr.e_int) Wr.a_nil))))))) Wr.a_nil)))) (Wr.s_cons (Wr.s_setN 6 Zu.nd (Wr.n_dK)) (Wr.s_cons (Wr.s_forR1 PassesOwn.never rfl rfl z_range (Wr.a_cons (Wr.e_min2 rfl z_min (Wr.ab_cons (Wr.PE2_bo (Wr.e_int)) (Wr.ab_cons (Wr.PE2_bo (Wr.e_ix (Wr.b_var 5) (Wr.PE2_bo (Wr.e_int)))) Wr.ab_nil))) Wr.a_nil) (Wr.g_name 4 Zu.nd) (Wr.s_one (Wr.s_dput 6 (hu_of hr) (Wr.e_add (Wr.b_var 2) (Wr.PE2_bo (Wr.e_ix (Wr.b_var 5) (Wr.PE2_bo (Wr.e_add (Wr.PE2_bo (Wr.e_int)) (Wr.PE2_bo (Wr.e_mul (Wr.PE2_bo (Wr.e_int)) (Wr.b_var 4)))))))) (Wr.e_ix (Wr.b_var 5) (Wr.PE2_bo (Wr.e_add (Wr.PE2_bo (Wr.e_int)) (Wr.PE2_bo (Wr.e_mul (Wr.PE2_bo (Wr.e_int)) (Wr.b_var 4))))))))) (Wr.s_cons (Wr.s_if (Wr.t_cmp op_eq lf_eqS (Wr.PE2_bo (Wr.e_ix (Wr.b_var 5) (Wr.PE2_bo (Wr.e_int)))) (Wr.PE2_bo (Wr.e_int)) (nomark _)) (Wr.s_one (Wr.s_forR1 PassesOwn.never rfl rfl z_range (Wr.a_cons (Wr.e_ix (Wr.b_var 5) (Wr.PE2_bo (Wr.e_int))) Wr.a_nil) (Wr.g_name 4 Zu.nd) (Wr.s_one (Wr.s_dput 6 (hu_of hr) (Wr.e_add (Wr.PE2_bo (Wr.e_add (Wr.b_var 2) (Wr.PE2_bo (Wr.e_ix (Wr.b_var 5) (Wr.PE2_bo (Wr.e_int)))))) (Wr.b_var 4)) (Wr.e_ix (Wr.b_var 5) (Wr.PE2_bo (Wr.e_int)))))))
      Wr.s_nil) (Wr.s_one (Wr.s_retO 6)))))))),?_⟩
  refine ⟨sz1,⟨by decide,by decide⟩,?_⟩;refine loop_ind (λds δ=>∃ k:Nat,ds = (rng 0 5).drop k /\ k <= 5 /\ δ = [.fr (.int c),.fr (.int span),.fr (.int base),.fr (.lst (((shutS (span + 6)).take (1 + 2 * k)).map D.int)),.un,.un,.un]) ?_ ?_ _ _ ⟨0,rfl,by decide,rfl⟩
  · rintro δ ⟨k,e,hk,rfl⟩
    have hk5:k = 5:=by
      rcases Nat.lt_or_ge k 5 with z | z
      · rw [rng_drop 0 5 k z] at e;cases e
      · omega
    subst hk5;refine ⟨sz3,(by show 11 + 3 <= sizeLine;decide),_,shutS (span + 6),rfl,shutS_pos (by omega) (by omega),(by show 14 <= 100;decide),λout hd=>?_⟩;obtain ⟨d0,e0,d00,d01⟩:=drawn_ix hd 0 7 rfl;obtain ⟨d11,e11,_,_⟩:=drawn_ix hd 11 (span + 6) rfl;obtain ⟨d12,e12,d120,d121⟩:=drawn_ix hd 12 9 rfl;obtain ⟨d13,e13,d130,d131⟩:=drawn_ix hd 13 31 rfl;refine ⟨_,e0,?_⟩
    have hm:(if d0 < 5 then d0 else 5:Int) <= 5 /\ 0 <= (if d0 < 5 then d0 else 5:Int):=by split <;> omega
    refine ⟨(show Small62 (if d0 < 5 then d0 else 5:Int) from ⟨by omega,by omega⟩),(show loop _ _ _ (rng 0 (if d0 < 5 then d0 else 5:Int).toNat) _ from ?_)⟩;generalize (if d0 < 5 then d0 else 5:Int) = m at hm ⊢;refine loop_ind (λds δ=>∃ (k:Nat) (kvs:List (Key × D)),ds = (rng 0 m.toNat).drop k /\ k <= m.toNat /\ δ = [.fr (.int c),.fr (.int span),.fr (.int base),.fr (.lst ((shutS (span + 6)).take 11 |>.map D.int)),.un,.fr (.lst (out.map D.int)),.ow (.dK kvs)] /\ Shut kvs k) ?_ ?_ _ _ ⟨0,[],rfl,Nat.zero_le _,rfl,Shut.nil⟩
    · rintro δ ⟨k,kvs,e,hk,rfl,hs⟩
      refine if_eq (p:=d0 = 6) (λQ q=>⟨_,e0,q⟩) (λ_=>⟨_,e13,⟨by omega,by omega⟩,?_⟩) (λ_=>q kvs (hs.more (by omega)));refine loop_ind (λds δ=>∃ (j:Nat) (kvs:List (Key × D)),ds = (rng 0 d13.toNat).drop j /\ j <= d13.toNat /\ δ = [.fr (.int c),.fr (.int span),.fr (.int base),.fr (.lst ((shutS (span + 6)).take 11 |>.map D.int)),.un,.fr (.lst (out.map D.int)),.ow (.dK kvs)] /\ Shut kvs (5 + j)) ?_ ?_ _ _ ⟨0,kvs,rfl,Nat.zero_le _,rfl,hs.more (by omega)⟩
      · rintro δ ⟨j,kvs,e,hj,rfl,hs⟩
        exact q kvs (hs.more (by omega))
      · rintro d r δ L hL ⟨j,kvs,e,hj,rfl,hs⟩
        have hjn:j < d13.toNat:=by
          rcases Nat.lt_or_ge j d13.toNat with z | z
          · exact z
          · rw [List.drop_of_length_le (by simp [rng];omega)] at e;cases e
        rw [rng_drop 0 _ j hjn] at e;obtain ⟨rfl,rfl⟩:d = .int (0 + j) /\ r = (rng 0 d13.toNat).drop (j + 1):=by cases e;exact ⟨rfl,rfl⟩
        refine ⟨_,e12,_,e11,by have:=hs.len;exact small1000 (by omega),?_⟩;exact hL _ _ ⟨j + 1,_,rfl,by omega,rfl,hs.put d120 (by omega)⟩ (by repeat constructor)
    · rintro d r δ L hL ⟨k,kvs,e,hk,rfl,hs⟩
      have hkn:k < m.toNat:=by
        rcases Nat.lt_or_ge k m.toNat with z | z
        · exact z
        · rw [List.drop_of_length_le (by simp [rng];omega)] at e;cases e
      rw [rng_drop 0 _ k hkn] at e;obtain ⟨rfl,rfl⟩:d = .int (0 + k) /\ r = (rng 0 m.toNat).drop (k + 1):=by cases e;exact ⟨rfl,rfl⟩
      have hk5:k < 5:=by omega
      obtain ⟨da,ea,_,_⟩:=drawn_ix hd (1 + 2 * k) (span + 6) (by rcases k with _ | _ | _ | _ | _ | k <;> first | rfl | omega)
      obtain ⟨db,eb,db0,db1⟩:=drawn_ix hd (2 + 2 * k) 9 (by rcases k with _ | _ | _ | _ | _ | k <;> first | rfl | omega);rw [show (((1 + 2 * k:Nat)):Int) = 1 + 2 * (0 + (k:Int)) by omega] at ea;rw [show (((2 + 2 * k:Nat)):Int) = 2 + 2 * (0 + (k:Int)) by omega] at eb;refine ⟨cmulL,_,eb,cmulL,_,ea,by have:=hs.len;exact small1000 (by omega),?_⟩;exact hL _ _ ⟨k + 1,_,rfl,by omega,rfl,hs.put db0 (by omega)⟩ (by repeat constructor)
  · rintro d r δ L hL ⟨k,e,hk,rfl⟩
    have hkn:k < 5:=by
      rcases Nat.lt_or_ge k 5 with z | z
      · exact z
      · rw [List.drop_of_length_le (by simp [rng];omega)] at e;cases e
    rw [rng_drop 0 _ k hkn] at e;obtain ⟨rfl,rfl⟩:d = .int (0 + k) /\ r = (rng 0 5).drop (k + 1):=by cases e;exact ⟨rfl,rfl⟩
    refine ⟨sz2,?_,?_⟩
    · rw [List.length_map,List.length_take]
      show min (1 + 2 * k) 14 + 2 <= sizeLine
      exact Nat.le_trans (show min (1 + 2 * k) 14 + 2 <= 12 by omega) sz12
    · refine hL _ _ ⟨k + 1,rfl,by omega,rfl⟩ ?_
      have : ((shutS (span + 6)).take (1 + 2 * (k + 1))).map D.int = ((shutS (span + 6)).take (1 + 2 * k)).map D.int ++ [.int (span + 6),.int 9]:=by
        rcases k with _ | _ | _ | _ | _ | k <;> first | rfl | omega
      rw [this]
      repeat constructor
def Z11:Sp2:=λds Q=>∃ (ns:List Int) (most:Nat),ds = [.lst (ns.map D.int),.int most] /\ ns.length <= 63 /\ ∀ es kvs,Ents es 80 -> Shut kvs 40 -> Q (.val (.tup [.lst (es.map Ent.d),.dK kvs]))
theorem Zo {f:Addr} {fd:FuncData} (F:Fun K "_law_laid" "_law_laid" Zr f fd) (Y7:Fn2 P w K mg base 3 "_law_head" Z13) (Y1:Fn2 P w K mg base 3 "_law_entries" Z7) (Y9:Fn2 P w K mg base 3 "_law_shut" Z19) (Y6:Fn2 P w K mg base 3 "_law_cell" Zs)  : FnOk P w K mg base CX0 (3 + 1) f fd ["_law_script", "_law_most"] (liftSp K Z11):=by
  refine Wr.fun_ok F Z15 (by rintro ds Qd ⟨ns,m,rfl,_⟩;rfl) (λcdv A outer s H E hr ds Qd h=>?_);obtain ⟨ns,most,rfl,hlen,q⟩:=h
  refine ⟨_,(Wr.s_cons (Wr.s_asg (Wr.e_call Y7 hr (Wr.a_cons (Wr.e_var 0) Wr.a_nil)) (Wr.g_tup (n:=4) rfl (Wr.gs_cons (Wr.g_name 2 Z15.nd) (Wr.gs_cons (Wr.g_name 3 Z15.nd) (Wr.gs_cons (Wr.g_name 4 Z15.nd) (Wr.gs_cons (Wr.g_name 5 Z15.nd) Wr.gs_nil)))))) (Wr.s_cons (Wr.s_set 6 Z15.nd (Wr.e_call Y1 hr (Wr.a_cons (Wr.PN2_fx (Wr.n_slL (Wr.b_var 0) (Wr.o_some (Wr.PE2_bo (Wr.e_int))) (Wr.o_some (Wr.PE2_bo (Wr.e_add (Wr.PE2_bo (Wr.e_int)) (Wr.b_var 1)))))) (Wr.a_cons (Wr.e_var 2) (Wr.a_cons (Wr.e_var 3) (Wr.a_cons (Wr.e_var 4) (Wr.a_cons (Wr.e_mul (Wr.PE2_bo (Wr.e_int)) (Wr.b_var 5)) Wr.a_nil))))))) (Wr.s_cons (Wr.s_set 7 Z15.nd (Wr.e_call Y9 hr (Wr.a_cons (Wr.e_call Y6 hr (Wr.a_cons (Wr.e_var 0) (Wr.a_cons (Wr.e_int) Wr.a_nil))) (Wr.a_cons (Wr.e_var 2) (Wr.a_cons (Wr.e_var 4) Wr.a_nil))))) (Wr.s_one (Wr.s_ret (Wr.e_tup (Wr.a_cons (Wr.e_var 6) (Wr.a_cons (Wr.e_var 7) Wr.a_nil)))))))),?_⟩
  refine ⟨ns,rfl,λspan few base crowd s0 s1 f0 f1 v0 v1 c0 c1=>⟨rfl,?_⟩⟩;refine ⟨cmulL,(ns.drop 2).take most,span,few,base,6 * crowd,?_,s0,s1,f0,f1,v0,v1,by omega,by omega,by simp;omega,λes he=>?_⟩
  · have e:=cut_mid (xs:=ns.map D.int) (a:=2) (b:=2 + most)
    rw [Nat.add_sub_cancel_left,<- List.map_drop,<- List.map_take] at e;exact congrArg (λz=>[D.lst z,.int span,.int few,.int base,.int (6 * crowd)]) e
  · refine ⟨ns,_,rfl,by decide,λv=>⟨_,span,base,rfl,s0,s1,λkvs hs=>⟨sz2,q es kvs (he.more (by simp;omega)) hs⟩⟩⟩
theorem IsFF.uniq {kvs:List (Key × D)} {rank:Int} {held:List Int} {d f f':Int} (h:IsFF kvs rank held d f) (h':IsFF kvs rank held d f'):f = f':=by
  have no:∀ {a b:Int},IsFF kvs rank held d a -> IsFF kvs rank held d b -> ¬ a < b:=λ{a b} ha hb z=>by
    rcases hb.all a ha.le z with y | y
    · exact ha.nh y
    · rw [ha.op] at y;cases y
  have h1:=no h h';have h2:=no h' h;omega
theorem Placed.uniq {kvs:List (Key × D)} {held h1 h2:List Int} {e:Ent} {w1 w2:Str} {d1 d2:Int} (a:Placed kvs held e w1 d1 h1) (b:Placed kvs held e w2 d2 h2):w1 = w2 /\ d1 = d2 /\ h1 = h2:=by
  cases a with
  | stands ff hw =>
    cases b with
    | stands ff' hw'=>obtain rfl:=ff.uniq ff';exact ⟨rfl,rfl,rfl⟩
    | noted ff' a1 a2 a3 =>
      obtain rfl:=ff.uniq ff';exact (hw.elim a1 a2).elim
    | gone ff' a1 a2 a3 =>
      obtain rfl:=ff.uniq ff';exact (hw.elim a1 a2).elim
  | noted ff a1 a2 a3 =>
    cases b with
    | stands ff' hw' =>
      obtain rfl:=ff.uniq ff';exact (hw'.elim a1 a2).elim
    | noted ff' _ _ _=>exact ⟨rfl,rfl,rfl⟩
    | gone ff' _ _ b3=>exact absurd a3 b3
  | gone ff a1 a2 a3 =>
    cases b with
    | stands ff' hw' =>
      obtain rfl:=ff.uniq ff';exact (hw'.elim a1 a2).elim
    | noted ff' _ _ b3=>exact absurd b3 a3
    | gone ff' _ _ _=>exact ⟨rfl,rfl,rfl⟩
theorem Laid.len {kvs:List (Key × D)} {held held2:List Int} {es:List Ent} {rows:List Row} (h:Laid kvs held es rows held2):rows.length = es.length:=by
  induction h with
  | nil=>rfl
  | cons p l ih=>simp [ih]
structure DaysAre (dy:List (Key × D)) (held:List Int):Prop where
  has:∀ x:Int,(valD dy (.inl x)).isSome = true ↔ x ∈ held
  len:dy.length <= held.length
def Row.name (r:Row):Int × Int:=(r.number,r.year)
theorem seq_by {t u:RS} {E:Ends2} {δ:List Sl} (I:List Sl -> Prop) (h1:∀ L:List Sl -> Prop,(∀ δ',I δ' -> L δ') -> t { E with nx:=L } δ) (h2:∀ δ',I δ' -> u E δ'):rSeq t u E δ:=h1 _ h2
theorem flat_rows:∀ rs:List Row,flats (rs.map Row.d) = true
  | []=>rfl
  | r :: rs=>by rw [List.map_cons];simp only [flats,flat_rows rs,Row.d,flat,Bool.and_true]
theorem plain_rows (k:Nat) (rs:List Row):plainD (k + 2) (.lst (rs.map Row.d)) = true:=by
  simp only [plainD,List.all_map,List.all_eq_true];intro e _
  cases k <;> rfl
theorem same_rows (rs:List Row):eqD (.lst (rs.map Row.d)) (.lst (rs.map Row.d)) = true:=eq_self60 (plain_rows 58 rs)
theorem gOwn_ok {i:Nat} {d:D} {δ:List Sl} {Q:List Sl -> Prop} {l:Sl} (e:δ[i]? = some l) (nl:l.locked = false) (q:Q (δ.set i (.ow d))):gOwn i d δ Q:=by
  unfold gOwn;rw [e]
  cases l with
  | lk p d'=>cases nl
  | _=>exact q
theorem nx_mk {f:List Sl -> Prop} {rt:Ret -> List Sl -> Prop} {bk ct:List Sl -> Prop} {δ:List Sl} (h:f δ):Ends2.nx { nx:=f,rt:=rt,bk:=bk,ct:=ct } δ:=h
def ownT:List Ent -> List (List Key × D) -> List (List Key × D)
  | [],kv=>kv
  | e :: es,kv=>ownT es (putD kv [.inl e.number,.inl e.year] (.int e.own))
theorem okey_name {a b:Ent} (h:([.inl a.number,.inl a.year]:List Key) = [.inl b.number,.inl b.year]):a.name = b.name:=by
  injection h with h1 h2
  injection h2 with h2 _
  injection h1 with h1
  injection h2 with h2
  exact Prod.ext h1 h2
theorem ownT_keep:∀ (es:List Ent) (kv:List (List Key × D)) (x:Ent),(∀ e ∈ es,e.name ≠ x.name) -> valD (ownT es kv) [.inl x.number,.inl x.year] = valD kv [.inl x.number,.inl x.year]
  | [],kv,x,_=>rfl
  | e :: es,kv,x,h=>by
    simp only [ownT];rw [ownT_keep es _ x λy hy=>h y (.tail _ hy),valD_put,if_neg (λz=>h e (.head _) (okey_name z).symm)]
theorem own_get:∀ (es:List Ent) (kv:List (List Key × D)),Names es -> ∀ x ∈ es,valD (ownT es kv) [.inl x.number,.inl x.year] = some (.int x.own)
  | [],kv,_,x,h=>nomatch h
  | e :: es,kv,hn,x,h=>by
    unfold Names at hn;rw [List.map_cons,List.nodup_cons] at hn;simp only [ownT]
    rcases List.mem_cons.mp h with rfl | h
    · rw [ownT_keep es _ x λy hy z=>hn.1 (List.mem_map.mpr ⟨y,hy,z⟩),valD_put,if_pos rfl]
    · exact own_get es _ hn.2 x h
def Z1j:Sp2:=λds Q=>∃ es:List Ent,ds = [.lst (es.map Ent.d)] /\ es.length <= 900 /\ Q (.new (.dT (ownT es [])))
theorem Z1f {f:Addr} {fd:FuncData} (F:Fun K "own_days" "own_days" Z1d f fd)   : FnOk P w K mg base CX0 (0 + 1) f fd ["entries"] (liftSp K Z1j):=by
  refine Wr.fun_ok F Z1b (by rintro ds Qd ⟨r,rfl,_⟩;rfl) (λcdv A outer s H E hr ds Qd h=>?_);obtain ⟨es,rfl,hl,q⟩:=h;refine ⟨_,(Wr.s_one (Wr.s_retN (Wr.n_dcompT (Nat.lt_of_succ_lt (hu_of hr)) (nT:=5) (N':=["rank", "number", "year", "way", "own", "0acc", "0entries"]) (compOk_mk (defScope Z1d) (N:=Z1r) rfl rfl rfl (by decide +kernel)) (Wr.e_var 0) (λ_ _ _ _ _=>(Wr.gp_tup (n:=5) rfl (Wr.gsp_cons (Wr.gp_name 0 (by decide) Zk) (Wr.gsp_cons (Wr.gp_name 1 (by decide) Zk) (Wr.gsp_cons (Wr.gp_name 2 (by decide) Zk) (Wr.gsp_cons (Wr.gp_name 3 (by decide) Zk) (Wr.gsp_cons (Wr.gp_name 4 (by decide) Zk) Wr.gsp_nil))))))) (λ_ _ _ _ _=>Wr.if_nil) (λ_ _ _ _ _=>(Wr.e_tup (Wr.a_cons (Wr.e_var 1) (Wr.a_cons (Wr.e_var 2) Wr.a_nil)))) (λ_ _ _ _ _=>(Wr.e_var 4))))),?_⟩
  have key:∀ (ss:List Ent) (a b c d e:Sl) (kv:List (List Key × D)) (Q:List (List Key × D) -> Prop) (δ:List Sl),kv.length + ss.length <= 900 -> Q (ownT ss kv) ->
      compT (gpTup 5 (gpCons (gpSet 0) (gpCons (gpSet 1) (gpCons (gpSet 2) (gpCons (gpSet 3) (gpCons (gpSet 4) gpNil)))))) rTrue (rTupD (rCons (rVar 1) (rCons (rVar 2) rNil))) (rVar 4) δ (ss.map Ent.d) [a,b,c,d,e] kv Q:=by
    intro ss
    induction ss with
    | nil=>intro a b c d e kv Q δ _ q;exact q
    | cons x ss ih =>
      intro a b c d e kv Q δ hlen q;rw [List.length_cons] at hlen;exact ⟨rfl,Two.t ⟨sz2,[.inl _,.inl _],rfl,small1000 (by omega),ih _ _ _ _ _ _ Q δ (by have:=putD_length kv [.inl x.number,.inl x.year] (.int x.own);omega) q⟩⟩
  exact key es .un .un .un .un .un [] _ _ (by simpa using hl) q
section
variable {X:Cx} {H0:Hp} {a e value:Expr} {es:List Expr} {te tv:RE} {tr:RA} {pos pos' p:Pos} {x:Str}
theorem w_truB (ha:QB X H0 a te) (he:∀ whole,isTrue a X.env whole = (do let v <- whole;standAt a.pos;holding [v] (truthy v)):=by intro _;rfl):QT X H0 a (rTruL te):=⟨t_truB ha.run he⟩
theorem w_llast (i:Nat) (hk:QE X H0 e te) (hv:QE X H0 value tv) (hN:X.N[i]? = some x:=by rfl) (hvs:Vis X.env.scope x:=by first | exact Or.inl rfl | exact Or.inr (Or.inl rfl) | exact Or.inr (Or.inr rfl)) (hd:(x == ("__debug__" : Str)) = false:=by decide)
 (hcd:(x == ("__classdict__" : Str)) = false:=by decide) (hs:swapsWith value (some (.Subscript (.Name x p) e pos')) pos.line X.env = pure false:=by rfl) :
 QS X H0 (.Assign [.Subscript (.Name x p) e pos'] value pos) (rLLast i te tv):=⟨s_llast i hk.run hv.run hN hvs hd hcd hs⟩
theorem w_sortW (hm:X.mg "sorted" = none) (ha:QAB X H0 (e :: es) tr) (hg:Gl X "sorted" := by rfl)
 (he:starEach (e :: es) X.env = (false,eval e X.env) :: starEach es X.env:=by rfl) (hpl:(backTo pos (starEach es X.env)).any (·.1) = false:=by rfl):QN X H0 (.Call (.Name "sorted" p) (e :: es) [] pos) (rCB dSortW tr):=⟨n_sortW hm ha.run hg he hpl⟩
end
section
variable {X:Cx} {H0:Hp} {nT:Nat} {pos:Pos} {g:RGp} {target elt:Expr} {ifs:List Expr} {scope:Scope} {N':List Str} {tel:RE} {tc:RT}
end
def prD (q:Int × Int):D:=.tup [.int q.1,.int q.2]
def keyP:D -> List Int
  | .tup [.int a,.int b]=>[a,b]
  | _=>[0]
def prKey (q:Int × Int):List Int:=[q.1,q.2]
theorem atI_last {α:Type} (xs:List α) (x:α):atI (xs ++ [x]) (-1) = some x:=by
  have h:ixN (xs ++ [x]).length (-1) = some xs.length:=by
    unfold ixN;rw [if_neg (by decide),if_pos (by simp;omega)]
    congr 1
    simp;omega
  unfold atI;rw [h];simp
def rch:List Ent -> List Row -> List (Int × Int)
  | e :: es,r :: rs=>(e.own,r.day) :: rch es rs
  | _,_=>[]
def jstep (acc:List (Int × Int)) (q:Int × Int):List (Int × Int):=match acc.getLast? with
  | some l=>if q.1 <= l.2 then acc.dropLast ++ [(l.1,if q.2 > l.2 then q.2 else l.2)] else acc ++ [q]
  | none=>acc ++ [q]
theorem jstep_len (acc:List (Int × Int)) (q:Int × Int):(jstep acc q).length <= acc.length + 1:=by
  unfold jstep
  split
  · split <;> simp <;> omega
  · simp
def Z2d:Sp2:=λds Q=>∃ (es os:List Ent) (rows:List Row) (kvs:List (Key × D)) (h1 h2:List Int),ds = [.lst (es.map Ent.d),.lst (rows.map Row.d)] /\ Names es /\ (∀ e ∈ os,e ∈ es) /\ Laid kvs h1 os rows h2 /\ es.length <= 400 /\ rows.length <= 400 /\
  ∀ ps:List (Int × Int),ps.Perm (rch os rows) -> ps.Pairwise (λa b=>HT.lexLt (prKey b) (prKey a) = false) -> Q (.new (.lst ((ps.foldl jstep []).map prD)))
theorem Z2e {f:Addr} {fd:FuncData} (F:Fun K "runs" "runs" Z2f f fd) (Ya:Fn2 P w K mg base 1 "own_days" Z1j) (z_sorted:mg "sorted" = none) (z_max:mg "max" = none)  : FnOk P w K mg base CX0 (1 + 1) f fd ["entries", "rows"] (liftSp K Z2d):=by
  refine Wr.fun_ok F Z2g (by rintro ds Qd ⟨es,os,r,k,h1,h2,rfl,_⟩;rfl) (λcdv A outer s H E hr ds Qd h=>?_);obtain ⟨es,os,rows,kvs,h1,h2,rfl,hn,ho,l,hl,hrl,q⟩:=h
  refine ⟨_,(Wr.s_cons (Wr.s_set 2 Z2g.nd (Wr.e_call Ya hr (Wr.a_cons (Wr.e_var 0) Wr.a_nil))) (Wr.s_cons (Wr.s_set 3 Z2g.nd (Wr.PN2_fx (w_sortW z_sorted (Wr.ab_cons (Wr.PN2_bo (Wr.n_comp (nT:=4) (N':=["number", "year", "how", "day", "0acc", "0entries", "0rows", "own", "0reaches", "0joined", "0first", "0last"]) (compOk_mk (defScope Z2f) (N:=Z2l) rfl rfl rfl (by decide +kernel)) (Wr.e_var 1) (λ_ _ _ _ _=>(Wr.gp_tup (n:=4) rfl (Wr.gsp_cons (Wr.gp_name 0 (by decide) Z25) (Wr.gsp_cons (Wr.gp_name 1 (by decide) Z25) (Wr.gsp_cons (Wr.gp_name 2 (by decide) Z25) (Wr.gsp_cons (Wr.gp_name 3 (by decide) Z25) Wr.gsp_nil)))))) (λ_ _ _ _ _=>Wr.if_nil) (λ_ _ _ _ _=>(Wr.e_tup (Wr.a_cons (Wr.e_dget (hu_of hr) (Wr.b_var 7) (Wr.PE2_bo (Wr.e_tup (Wr.a_cons (Wr.e_var 0) (Wr.a_cons (Wr.e_var 1) Wr.a_nil))))) (Wr.a_cons (Wr.e_var 3) Wr.a_nil)))))) Wr.ab_nil)))) (Wr.s_cons (Wr.s_setN 4 Z2g.nd (Wr.n_lst Wr.a_nil)) (Wr.s_cons (Wr.s_forL PassesOwn.never rfl (Wr.e_var 3) (Wr.g_tup (n:=2) rfl (Wr.gs_cons (Wr.g_name 5 Z2g.nd) (Wr.gs_cons (Wr.g_name 6 Z2g.nd) Wr.gs_nil))) (Wr.s_one (Wr.s_if (Wr.PW2_pt (Wr.t_and (w_truB (Wr.b_var 4)) (Wr.t_and1 (Wr.t_cmp op_le lf_le (Wr.b_var 5) (Wr.PE2_bo (Wr.e_ix (Wr.PE2_bo (Wr.e_ix (Wr.b_var 4) (Wr.PE2_bo (Wr.e_neg (Wr.PE2_bo (Wr.e_int)))))) (Wr.PE2_bo (Wr.e_int)))) (nomark _))))) (Wr.s_one (w_llast 4 (Wr.e_neg (Wr.PE2_bo (Wr.e_int))) (Wr.e_tup (Wr.a_cons (Wr.e_ix (Wr.PE2_bo (Wr.e_ix (Wr.b_var 4) (Wr.PE2_bo (Wr.e_neg (Wr.PE2_bo (Wr.e_int)))))) (Wr.PE2_bo (Wr.e_int))) (Wr.a_cons (Wr.e_max2 rfl z_max (Wr.ab_cons (Wr.PE2_bo (Wr.e_ix (Wr.PE2_bo (Wr.e_ix (Wr.b_var 4) (Wr.PE2_bo (Wr.e_neg (Wr.PE2_bo (Wr.e_int)))))) (Wr.PE2_bo (Wr.e_int)))) (Wr.ab_cons (Wr.b_var 6) Wr.ab_nil))) Wr.a_nil))))) (Wr.s_one (Wr.s_app 4 (Wr.e_tup (Wr.a_cons (Wr.e_var 5) (Wr.a_cons (Wr.e_var 6) Wr.a_nil)))))))) (Wr.s_one (Wr.s_retO 4)))))),?_⟩
  refine ⟨es,rfl,by omega,?_⟩;have rk:∀ x ∈ os,valD (ownT es []) [.inl x.number,.inl x.year] = some (.int x.own):=λx hx=>own_get es [] hn x (ho x hx)
  generalize hO:ownT es [] = ow at rk;have key:∀ {o:List Ent} {rs:List Row} {h1 h2:List Int},Laid kvs h1 o rs h2 -> (∀ x ∈ o,valD ow [.inl x.number,.inl x.year] = some (.int x.own)) -> ∀ (a b c d:Sl) (acc:List (Int × Int)) (Q:List D -> Prop) (s0 s1 s3 s4 s5 s6:Sl),acc.length + rs.length <= 900 -> Q ((acc ++ rch o rs).map prD) ->
      compD (gpTup 4 (gpCons (gpSet 0) (gpCons (gpSet 1) (gpCons (gpSet 2) (gpCons (gpSet 3) gpNil))))) rTrue (rTupD (rCons (rOp dDGet (rVarB 7) (rTupD (rCons (rVar 0) (rCons (rVar 1) rNil)))) (rCons (rVar 3) rNil))) [s0,s1,.fr (.dT ow),s3,s4,s5,s6] (rs.map Row.d) [a,b,c,d] (acc.map prD) Q:=by
    intro o rs h1 h2 l
    induction l with
    | nil =>
      intro _ a b c d acc Q s0 s1 s3 s4 s5 s6 _ q;have q:Q (acc.map prD):=by simpa [rch] using q
      exact q
    | @cons g1 g2 g3 e0 o how day rs p l ih =>
      intro hv a b c d acc Q s0 s1 s3 s4 s5 s6 hlen q;rw [List.length_cons] at hlen;refine ⟨rfl,Two.t ⟨sz2,[.inl e0.number,.inl e0.year],rfl,_,hv e0 (.head _),sz2,by rw [List.length_map];exact small1000 (by omega),?_⟩⟩;have:=ih (λx hx=>hv x (.tail _ hx)) (.fr (.int e0.number)) (.fr (.int e0.year)) (.fr (.str how)) (.fr (.int day)) (acc ++ [(e0.own,day)]) Q s0 s1 s3 s4 s5 s6 (by simp;omega) (by rw [List.append_assoc];exact q);rw [List.map_append] at this;exact this
  have hrc:(rch os rows).length <= 400:=by
    have : ∀ (o:List Ent) (rs:List Row),(rch o rs).length <= rs.length:=by
      intro o
      induction o with
      | nil=>intro rs;exact Nat.zero_le _
      | cons e o ih =>
        intro rs
        cases rs with
        | nil=>exact Nat.zero_le _
        | cons r rs=>exact Nat.succ_le_succ (ih rs)
    have:=this os rows;omega
  refine key l rk .un .un .un .un [] _ _ _ _ _ _ _ (by simp;omega) ?_;rw [List.nil_append];refine ⟨keyP,2,⟨by decide,λd hd=>?_⟩,λods hp hR=>?_⟩
  · obtain ⟨m,_,rfl⟩:=List.mem_map.mp hd
    exact ⟨rfl,rfl⟩
  obtain ⟨ps,pp,rfl⟩:=perm_map_inv prD hp _ rfl;rw [List.pairwise_map] at hR;have hps:ps.length <= 400:=by rw [pp.length_eq];exact hrc
  refine ⟨Nat.zero_le _,?_⟩;refine loop_ind (λds δ=>∃ done todo:List (Int × Int),ds = todo.map prD /\ ps = done ++ todo /\ (done.foldl jstep []).length <= done.length /\ δ = [.fr (.lst (es.map Ent.d)),.fr (.lst (rows.map Row.d)),.fr (.dT ow),.fr (.lst (ps.map prD)),.ow (.lst ((done.foldl jstep []).map prD)),.un,.un]) ?_ ?_ _ _ ⟨[],ps,rfl,rfl,Nat.le_refl _,rfl⟩
  · rintro δ ⟨done,todo,e,e2,_,rfl⟩
    cases todo with
    | cons x todo=>cases e
    | nil =>
      rw [List.append_nil] at e2;subst e2;exact q ps pp hR
  · rintro d r δ L hL ⟨done,todo,e,e2,hdl,rfl⟩
    cases todo with
    | nil=>cases e
    | cons x todo =>
      obtain ⟨rfl,rfl⟩:d = prD x /\ r = todo.map prD:=by cases e;exact ⟨rfl,rfl⟩
      have hlen:done.length < 400:=by rw [e2,List.length_append,List.length_cons] at hps;omega
      have go:∀ acc:List D,acc = (jstep (done.foldl jstep []) x).map prD -> L [.fr (.lst (es.map Ent.d)),.fr (.lst (rows.map Row.d)),.fr (.dT ow),.fr (.lst (ps.map prD)),.ow (.lst acc),.fr (.int x.1),.fr (.int x.2)]:=λacc ha=>by
        subst ha;refine hL _ [.fr (.lst (es.map Ent.d)),.fr (.lst (rows.map Row.d)),.fr (.dT ow),.fr (.lst (ps.map prD)),.ow (.lst ((jstep (done.foldl jstep []) x).map prD)),.un,.un] ⟨done ++ [x],todo,rfl,by rw [e2,List.append_assoc];rfl,?_,by simp only [List.foldl_append,List.foldl_cons,List.foldl_nil]⟩ (by repeat constructor);rw [List.foldl_append,List.length_append];have:=jstep_len (done.foldl jstep []) x
        show (jstep (done.foldl jstep []) x).length <= done.length + 1
        omega
      have sml:((done.foldl jstep []).map prD).length < sizeLine:=by rw [List.length_map];exact small1000 (by omega)
      generalize hacc:done.foldl jstep [] = acc at go sml;refine ⟨rfl,?_⟩
      rcases List.eq_nil_or_concat acc with rfl | ⟨A,l,rfl⟩
      · refine if_f (and_f (λQ q=>q)) ?_
        exact ⟨sz2,sml,go _ rfl⟩
      · rw [List.concat_eq_append] at go sml ⊢
        have al:atI ((A ++ [l]).map prD) (-1) = some (prD l):=by rw [List.map_append];exact atI_last _ _
        have jl:jstep (A ++ [l]) x = if x.1 <= l.2 then A ++ [(l.1,if x.2 > l.2 then x.2 else l.2)] else A ++ [l] ++ [x]:=by
          unfold jstep;rw [List.getLast?_concat,List.dropLast_concat]
        refine if_by (b:=decide (x.1 <= l.2)) (RdT.eq (and_by (b1:=true) (b2:=decide (x.1 <= l.2)) (RdT.eq (λQ q=>q) (by simp)) (λ_ Q q=>⟨_,al,_,rfl,q⟩)) (Bool.true_and _)) (λhc=>?_) (λhc=>?_)
        · have hc:=of_decide_eq_true hc
          refine ⟨_,al,_,rfl,_,al,_,rfl,sz2,rfl,by simp,go _ ?_⟩;rw [jl,if_pos hc];simp [prD]
        · have hc:=of_decide_eq_false hc
          refine ⟨sz2,sml,go _ ?_⟩;rw [jl,if_neg hc];simp [prD]
structure Joined (ps js:List (Int × Int)):Prop where
  apart:js.Pairwise λa b=>a.2 < b.1
  fine:∀ j ∈ js,j.1 <= j.2
  has:∀ p ∈ ps,∃ j ∈ js,j.1 <= p.1 /\ p.2 <= j.2
  day:∀ j ∈ js,∀ x,j.1 <= x -> x <= j.2 -> ∃ p ∈ ps,p.1 <= x /\ x <= p.2
  step:∀ j ∈ js,∀ x,j.1 <= x -> x < j.2 -> ∃ p ∈ ps,p.1 <= x /\ x < p.2
  first:∀ j ∈ js,∃ p ∈ ps,p.1 = j.1
theorem Joined.nil:Joined [] []:=⟨.nil,(λ_ z=>by cases z),(λ_ z=>by cases z),(λ_ z=>by cases z),(λ_ z=>by cases z),(λ_ z=>by cases z)⟩
theorem Joined.add {ps js:List (Int × Int)} (J:Joined ps js) {q:Int × Int} (hq:q.1 <= q.2) (hs:∀ p ∈ ps,p.1 <= q.1):Joined (ps ++ [q]) (jstep js q):=by
  have old:∀ {p:Int × Int},p ∈ ps -> p ∈ ps ++ [q]:=λh=>List.mem_append_left _ h
  have new:q ∈ ps ++ [q]:=by simp
  rcases List.eq_nil_or_concat js with rfl | ⟨A,l,rfl⟩
  · have e:jstep [] q = [q]:=rfl
    rw [e];refine ⟨List.pairwise_singleton _ _,λj hj=>?_,λp hp=>?_,λj hj x h1 h2=>?_,λj hj x h1 h2=>?_,λj hj=>?_⟩
    · rw [List.mem_singleton.mp hj];exact hq
    · rcases List.mem_append.mp hp with z | z
      · obtain ⟨j,hj,_⟩:=J.has p z;cases hj
      · rw [List.mem_singleton.mp z];exact ⟨q,.head _,Int.le_refl _,Int.le_refl _⟩
    · rw [List.mem_singleton.mp hj] at h1 h2;exact ⟨q,new,h1,h2⟩
    · rw [List.mem_singleton.mp hj] at h1 h2;exact ⟨q,new,h1,h2⟩
    · exact ⟨q,new,by rw [List.mem_singleton.mp hj]⟩
  · rw [List.concat_eq_append] at J ⊢
    have hl:l ∈ A ++ [l]:=by simp
    have lf:=J.fine l hl;have l1:l.1 <= q.1:=by
      obtain ⟨p,hp,e⟩:=J.first l hl;have:=hs p hp;omega
    have ap:=List.pairwise_append.mp J.apart;have jl:jstep (A ++ [l]) q = if q.1 <= l.2 then A ++ [(l.1,if q.2 > l.2 then q.2 else l.2)] else A ++ [l] ++ [q]:=by
      unfold jstep;rw [List.getLast?_concat,List.dropLast_concat]
    rw [jl]
    by_cases hc:q.1 <= l.2
    · rw [if_pos hc]
      generalize hm:(if q.2 > l.2 then q.2 else l.2) = m;have m1:q.2 <= m /\ l.2 <= m /\ (m = q.2 \/ m = l.2):=by
        rw [<- hm];split <;> omega
      refine ⟨?_,λj hj=>?_,λp hp=>?_,λj hj x h1 h2=>?_,λj hj x h1 h2=>?_,λj hj=>?_⟩
      · refine List.pairwise_append.mpr ⟨ap.1,List.pairwise_singleton _ _,λa ha b hb=>?_⟩
        rw [List.mem_singleton.mp hb];exact ap.2.2 a ha l (.head _)
      · rcases List.mem_append.mp hj with z | z
        · exact J.fine j (List.mem_append_left _ z)
        · rw [List.mem_singleton.mp z];show l.1 <= m;omega
      · rcases List.mem_append.mp hp with z | z
        · obtain ⟨j,hj,a1,a2⟩:=J.has p z
          rcases List.mem_append.mp hj with y | y
          · exact ⟨j,List.mem_append_left _ y,a1,a2⟩
          · rw [List.mem_singleton.mp y] at a1 a2
            exact ⟨(l.1,m),by simp,a1,by show p.2 <= m;omega⟩
        · rw [List.mem_singleton.mp z]
          exact ⟨(l.1,m),by simp,l1,m1.1⟩
      · rcases List.mem_append.mp hj with z | z
        · obtain ⟨p,hp,a⟩:=J.day j (List.mem_append_left _ z) x h1 h2
          exact ⟨p,old hp,a⟩
        · rw [List.mem_singleton.mp z] at h1 h2
          have h1:l.1 <= x:=h1;have h2:x <= m:=h2
          by_cases hx:x <= l.2
          · obtain ⟨p,hp,a⟩:=J.day l hl x h1 hx
            exact ⟨p,old hp,a⟩
          · exact ⟨q,new,by omega,by omega⟩
      · rcases List.mem_append.mp hj with z | z
        · obtain ⟨p,hp,a⟩:=J.step j (List.mem_append_left _ z) x h1 h2
          exact ⟨p,old hp,a⟩
        · rw [List.mem_singleton.mp z] at h1 h2
          have h1:l.1 <= x:=h1;have h2:x < m:=h2
          by_cases hx:x < l.2
          · obtain ⟨p,hp,a⟩:=J.step l hl x h1 hx
            exact ⟨p,old hp,a⟩
          · exact ⟨q,new,by omega,by omega⟩
      · rcases List.mem_append.mp hj with z | z
        · obtain ⟨p,hp,a⟩:=J.first j (List.mem_append_left _ z)
          exact ⟨p,old hp,a⟩
        · rw [List.mem_singleton.mp z]
          obtain ⟨p,hp,a⟩:=J.first l hl;exact ⟨p,old hp,a⟩
    · rw [if_neg hc]
      refine ⟨?_,λj hj=>?_,λp hp=>?_,λj hj x h1 h2=>?_,λj hj x h1 h2=>?_,λj hj=>?_⟩
      · refine List.pairwise_append.mpr ⟨J.apart,List.pairwise_singleton _ _,λa ha b hb=>?_⟩
        rw [List.mem_singleton.mp hb]
        rcases List.mem_append.mp ha with z | z
        · have:=ap.2.2 a z l (.head _)
          omega
        · rw [List.mem_singleton.mp z];omega
      · rcases List.mem_append.mp hj with z | z
        · exact J.fine j z
        · rw [List.mem_singleton.mp z];exact hq
      · rcases List.mem_append.mp hp with z | z
        · obtain ⟨j,hj,a⟩:=J.has p z
          exact ⟨j,List.mem_append_left _ hj,a⟩
        · rw [List.mem_singleton.mp z];exact ⟨q,by simp,Int.le_refl _,Int.le_refl _⟩
      · rcases List.mem_append.mp hj with z | z
        · obtain ⟨p,hp,a⟩:=J.day j z x h1 h2
          exact ⟨p,old hp,a⟩
        · rw [List.mem_singleton.mp z] at h1 h2;exact ⟨q,new,h1,h2⟩
      · rcases List.mem_append.mp hj with z | z
        · obtain ⟨p,hp,a⟩:=J.step j z x h1 h2
          exact ⟨p,old hp,a⟩
        · rw [List.mem_singleton.mp z] at h1 h2;exact ⟨q,new,h1,h2⟩
      · rcases List.mem_append.mp hj with z | z
        · obtain ⟨p,hp,a⟩:=J.first j z
          exact ⟨p,old hp,a⟩
        · exact ⟨q,new,by rw [List.mem_singleton.mp z]⟩
theorem joined_all:∀ (todo:List (Int × Int)) (done js:List (Int × Int)),Joined done js -> (∀ p ∈ todo,p.1 <= p.2) -> (done ++ todo).Pairwise (λa b=>a.1 <= b.1) -> Joined (done ++ todo) (todo.foldl jstep js)
  | [],done,js,J,_,_=>by rw [List.append_nil];exact J
  | q :: todo,done,js,J,h1,h2=>by
    have e:done ++ q :: todo = (done ++ [q]) ++ todo:=by rw [List.append_assoc];rfl
    rw [e] at h2 ⊢;have h3:=List.pairwise_append.mp (List.pairwise_append.mp h2).1;exact joined_all todo (done ++ [q]) _ (J.add (h1 q (.head _)) λp hp=>h3.2.2 p hp q (.head _)) (λp hp=>h1 p (.tail _ hp)) h2
def wl:List Ent -> List Row -> List Int
  | e :: es,r :: rs=>if r.how = ("stands" : Str) then (r.day - e.own) :: wl es rs else wl es rs
  | _,_=>[]
def Z24:Sp2:=λds Q=>∃ (es os:List Ent) (rows:List Row) (kvs:List (Key × D)) (h1 h2:List Int),ds = [.lst (es.map Ent.d),.lst (rows.map Row.d)] /\ Names es /\ (∀ e ∈ os,e ∈ es) /\ Laid kvs h1 os rows h2 /\ es.length <= 400 /\ rows.length <= 400 /\ Q (.val (.int (wl os rows).sum))
theorem Z20 {f:Addr} {fd:FuncData} (F:Fun K "waited" "waited" Z1y f fd) (Ya:Fn2 P w K mg base 1 "own_days" Z1j) (z_sum:mg "sum" = none)  : FnOk P w K mg base CX0 (1 + 1) f fd ["entries", "rows"] (liftSp K Z24):=by
  refine Wr.fun_ok F Z28 (by rintro ds Qd ⟨es,os,r,k,h1,h2,rfl,_⟩;rfl) (λcdv A outer s H E hr ds Qd h=>?_);obtain ⟨es,os,rows,kvs,h1,h2,rfl,hn,ho,l,hl,hrl,q⟩:=h
  refine ⟨_,(Wr.s_cons (Wr.s_set 2 Z28.nd (Wr.e_call Ya hr (Wr.a_cons (Wr.e_var 0) Wr.a_nil))) (Wr.s_one (Wr.s_ret (Wr.e_sum rfl z_sum (Wr.ab_cons (Wr.PN2_bo (Wr.n_comp (nT:=4) (N':=["number", "year", "how", "day", "0acc", "0entries", "0rows", "own"]) (compOk_mk (defScope Z1y) (N:=Z29) rfl rfl rfl (by decide +kernel)) (Wr.e_var 1) (λ_ _ _ _ _=>(Wr.gp_tup (n:=4) rfl (Wr.gsp_cons (Wr.gp_name 0 (by decide) Z1n) (Wr.gsp_cons (Wr.gp_name 1 (by decide) Z1n) (Wr.gsp_cons (Wr.gp_name 2 (by decide) Z1n) (Wr.gsp_cons (Wr.gp_name 3 (by decide) Z1n) Wr.gsp_nil)))))) (λ_ _ _ _ _=>(Wr.if_one (Wr.t_cmp op_eq lf_eqS (Wr.b_var 2) (Wr.PE2_bo (Wr.e_str)) (nomark _)))) (λ_ _ _ _ _=>(Wr.e_sub (Wr.b_var 3) (Wr.PE2_bo (Wr.e_dget (hu_of hr) (Wr.b_var 7) (Wr.PE2_bo (Wr.e_tup (Wr.a_cons (Wr.e_var 0) (Wr.a_cons (Wr.e_var 1) Wr.a_nil)))))))))) Wr.ab_nil))))),?_⟩
  refine ⟨es,rfl,by omega,?_⟩;have rk:∀ x ∈ os,valD (ownT es []) [.inl x.number,.inl x.year] = some (.int x.own):=λx hx=>own_get es [] hn x (ho x hx)
  generalize hO:ownT es [] = ow at rk;have key:∀ {o:List Ent} {rs:List Row} {h1 h2:List Int},Laid kvs h1 o rs h2 -> (∀ x ∈ o,valD ow [.inl x.number,.inl x.year] = some (.int x.own)) -> ∀ (a b c d:Sl) (acc:List Int) (Q:List D -> Prop) (s0 s1:Sl),acc.length + rs.length <= 900 -> Q ((acc ++ wl o rs).map D.int) ->
      compD (gpTup 4 (gpCons (gpSet 0) (gpCons (gpSet 1) (gpCons (gpSet 2) (gpCons (gpSet 3) gpNil))))) (rTest (rOp (dEqS false) (rVarB 2) (rC (.str "stands")))) (rOp (dI0 λi j=>.int (i - j)) (rVarB 3) (rOp dDGet (rVarB 7) (rTupD (rCons (rVar 0) (rCons (rVar 1) rNil))))) [s0,s1,.fr (.dT ow)] (rs.map Row.d) [a,b,c,d] (acc.map D.int) Q:=by
    intro o rs h1 h2 l
    induction l with
    | nil =>
      intro _ a b c d acc Q s0 s1 _ q;have q:Q (acc.map D.int):=by simpa [wl] using q
      exact q
    | @cons g1 g2 g3 e0 o how day rs p l ih =>
      intro hv a b c d acc Q s0 s1 hlen q;rw [List.length_cons] at hlen;refine ⟨rfl,?_⟩
      show Two (false != decide (how = ("stands" : Str))) _ _
      by_cases hs:how = ("stands" : Str)
      · rw [decide_eq_true hs]
        simp only [wl,if_pos hs] at q;refine Two.t ⟨sz2,[.inl e0.number,.inl e0.year],rfl,_,hv e0 (.head _),by rw [List.length_map];exact small1000 (by omega),?_⟩;have:=ih (λx hx=>hv x (.tail _ hx)) (.fr (.int e0.number)) (.fr (.int e0.year)) (.fr (.str how)) (.fr (.int day)) (acc ++ [day - e0.own]) Q s0 s1 (by simp;omega) (by rw [List.append_assoc];exact q);rw [List.map_append] at this;exact this
      · rw [decide_eq_false hs]
        simp only [wl,if_neg hs] at q;exact Two.f (ih (λx hx=>hv x (.tail _ hx)) _ _ _ _ acc Q s0 s1 (by omega) q)
  exact key l rk .un .un .un .un [] _ _ _ (by simp;omega) ⟨wl os rows,rfl,q⟩
theorem w_forKF {X:Cx} {H0:Hp} {tg:Expr} {g:RG} {body:List Stmt} {tb:RS} {pos p:Pos} {x:Str} (i:Nat) (hp:PassesOwn (model X.prog X.w) X.A X.env X.xe) (hc:X.calm = true) (hg:∀ H1,QG X H1 tg g) (hb:∀ H1,QSs X H1 body tb) (hN:X.N[i]? = some x:=by rfl) (hv:Vis X.env.scope x:=by first | exact Or.inl rfl | exact Or.inr (Or.inl rfl) | exact Or.inr (Or.inr rfl)) (hd:(x == ("__debug__" : Str)) = false:=by decide)
 (hcd:(x == ("__classdict__" : Str)) = false:=by decide) (hs:∀ y,foldedSetIterable (.Name x p) X.env y = pure y:=by intro _;rfl) :
 QS X H0 (.For tg (.Name x p) body [] pos) (rForKF i g tb):=⟨s_forKF i hp hc (λH1=>(hg H1).run) (λH1=>(hb H1).run) hN hv hd hcd hs⟩
theorem shut_keys:∀ {kvs:List (Key × D)},(∀ p ∈ kvs,∃ i b:Int,p = (.inl i,.int b) /\ 0 <= b /\ b <= 8) -> (kvs.map (·.1)).Nodup -> ∃ ns:List Int,keysD kvs = ns.map D.int /\ kvs.map (·.1) = ns.map Sum.inl /\ ns.Nodup /\ ns.length = kvs.length
  | [],_,_=>⟨[],rfl,rfl,List.nodup_nil,rfl⟩
  | p :: kvs,h,nd=>by
    rw [List.map_cons,List.nodup_cons] at nd;obtain ⟨ns,e1,e2,e3,e4⟩:=shut_keys (λq hq=>h q (.tail _ hq)) nd.2;obtain ⟨i,b,rfl,_⟩:=h p (.head _);refine ⟨i :: ns,?_,by rw [List.map_cons,List.map_cons,e2],?_,by rw [List.length_cons,List.length_cons,e4]⟩
    · have e1':=e1
      unfold keysD at e1' ⊢;rw [List.map_cons,List.map_cons,e1'];rfl
    · rw [List.nodup_cons]
      refine ⟨λz=>nd.1 ?_,e3⟩;rw [e2];exact List.mem_map.mpr ⟨i,z,rfl⟩
def pin (j:Int × Int) (e:Ent):Bool:=decide (j.1 <= e.own) && decide (e.own <= j.2)
theorem pin_iff {j:Int × Int} {e:Ent}:pin j e = true ↔ j.1 <= e.own /\ e.own <= j.2:=by
  unfold pin;rw [Bool.and_eq_true,decide_eq_true_iff,decide_eq_true_iff]
theorem Laid.alone {kvs kv2:List (Key × D)} {j:Int × Int} (hk:∀ r x,j.1 <= x -> x <= j.2 -> openM kv2 r x = openM kvs r x) {held h2:List Int} {os:List Ent} {rows:List Row} (l:Laid kvs held os rows h2) :
 (∀ p ∈ rch os rows,p.1 <= p.2 /\ ((j.1 <= p.1 /\ p.2 <= j.2) \/ p.2 < j.1 \/ j.2 < p.1)) -> ∀ {held' h2':List Int} {rows':List Row},(∀ x,j.1 <= x -> x <= j.2 -> (x ∈ held ↔ x ∈ held')) -> Laid kv2 held' (os.filter (pin j)) rows' h2' ->
 rows' = ((os.zip rows).filter (λz=>pin j z.1)).map (·.2):=by
  induction l with
  | nil =>
    intro _ held' h2' rows' _ l';cases l';rfl
  | @cons g1 g2 g3 e0 o how day rs p l ih =>
    intro hr held' h2' rows' hh l';have h0:e0.own <= day /\ ((j.1 <= e0.own /\ day <= j.2) \/ day < j.1 \/ j.2 < e0.own):=hr (e0.own,day) (.head _);have hr':∀ p ∈ rch o rs,p.1 <= p.2 /\ ((j.1 <= p.1 /\ p.2 <= j.2) \/ p.2 < j.1 \/ j.2 < p.1):=λp hp=>hr p (.tail _ hp)
    rw [List.zip_cons_cons]
    rcases h0.2 with hin | hout
    · have hp:pin j e0 = true:=pin_iff.mpr ⟨hin.1,by omega⟩
      rw [List.filter_cons_of_pos hp] at l';rw [List.filter_cons_of_pos (by exact hp),List.map_cons]
      cases l' with
      | @cons _ k2 _ _ _ how' day' rs' p' l' =>
        have fin:how' = how -> day' = day -> (∀ x,j.1 <= x -> x <= j.2 -> (x ∈ g2 ↔ x ∈ k2)) -> (⟨e0.number,e0.year,how',day'⟩ :: rs':List Row) = ⟨e0.number,e0.year,how,day⟩ :: ((o.zip rs).filter (λz=>pin j z.1)).map (·.2):=λa b c=>by
          rw [a,b,ih hr' c l']
        have blk:∀ {f:Int},IsFF kvs e0.rank g1 e0.own f -> ¬ f = e0.own -> ∀ {f':Int},IsFF kv2 e0.rank held' e0.own f' -> ¬ f' = e0.own:=λ{f} ff hf {f'} ff' e=>by
          have hl:=ff.le
          rcases ff.all e0.own (Int.le_refl _) (by omega) with z | z
          · exact ff'.nh (by rw [e];exact (hh _ hin.1 (by omega)).mp z)
          · have:=ff'.op
            rw [e,hk _ _ hin.1 (by omega),z] at this;cases this
        cases p with
        | stands ff hw =>
          have ff2:IsFF kv2 e0.rank held' e0.own day:=⟨ff.le,λz=>ff.nh ((hh _ (by omega) hin.2).mpr z),by rw [hk _ _ (by omega) hin.2];exact ff.op,λx h1 h2=>(ff.all x h1 h2).imp (λz=>(hh x (by omega) (by omega)).mp z) (λz=>by rw [hk _ _ (by omega) (by omega)];exact z)⟩;obtain ⟨e1,e2,e3⟩:=p'.uniq (.stands ff2 hw);refine fin e1 e2 (λx a b=>?_);rw [e3,List.mem_cons,List.mem_cons,hh x a b]
        | noted ff a1 a2 a3 =>
          cases p' with
          | stands ff' hw'=>exact (hw'.elim a1 (blk ff a2 ff')).elim
          | noted ff' _ _ _=>exact fin rfl rfl hh
          | gone ff' _ _ b3=>exact absurd a3 b3
        | gone ff a1 a2 a3 =>
          cases p' with
          | stands ff' hw'=>exact (hw'.elim a1 (blk ff a2 ff')).elim
          | noted ff' _ _ b3=>exact absurd b3 a3
          | gone ff' _ _ _=>exact fin rfl rfl hh
    · have hp:¬ pin j e0 = true:=λz=>by
        have:=pin_iff.mp z;omega
      rw [List.filter_cons_of_neg hp] at l';rw [List.filter_cons_of_neg (by exact hp)];refine ih hr' (λx a b=>?_) l'
      cases p with
      | stands ff hw =>
        rw [List.mem_cons,<- hh x a b];exact ⟨λz=>z.elim (λy=>by omega) id,.inr⟩
      | noted=>exact hh x a b
      | gone=>exact hh x a b
theorem Laid.zipd {kvs:List (Key × D)} {held h2:List Int} {os:List Ent} {rows:List Row} (l:Laid kvs held os rows h2):os = (os.zip rows).map (·.1) /\ rows = (os.zip rows).map (·.2) /\ ∀ z ∈ os.zip rows,z.2.name = z.1.name:=by
  induction l with
  | nil=>exact ⟨rfl,rfl,λ_ z=>by cases z⟩
  | cons p l ih =>
    obtain ⟨a,b,c⟩:=ih;rw [List.zip_cons_cons];refine ⟨by rw [List.map_cons,<- a],by rw [List.map_cons,<- b],λz hz=>?_⟩
    rcases List.mem_cons.mp hz with rfl | hz
    · rfl
    · exact c z hz
theorem zip_fs {α β:Type}:∀ l:List (α × β),(l.map (·.1)).zip (l.map (·.2)) = l
  | []=>rfl
  | z :: l=>by rw [List.map_cons,List.map_cons,List.zip_cons_cons,zip_fs l]
def wt (z:Ent × Row):Int:=if z.2.how = ("stands" : Str) then z.2.day - z.1.own else 0
theorem wl_sum:∀ (os:List Ent) (rows:List Row),(wl os rows).sum = ((os.zip rows).map wt).sum
  | [],_=>rfl
  | _ :: _,[]=>rfl
  | e :: os,r :: rs=>by
    rw [List.zip_cons_cons,List.map_cons,List.sum_cons,<- wl_sum os rs];simp only [wl,wt]
    split
    · rw [List.sum_cons]
    · omega
theorem one_sum {α:Type} (q:α -> Bool) (c:Int):∀ js:List α,(js.map λj=>if q j = true then c else 0).sum = (js.filter q).length * c
  | []=>by simp
  | j :: js=>by
    rw [List.map_cons,List.sum_cons,one_sum q c js]
    by_cases h:q j = true
    · rw [if_pos h,List.filter_cons_of_pos h,List.length_cons,Int.natCast_succ,Int.add_mul];omega
    · rw [if_neg h,List.filter_cons_of_neg h];omega
theorem sum_add {α:Type} (f g:α -> Int):∀ js:List α,(js.map λj=>f j + g j).sum = (js.map f).sum + (js.map g).sum
  | []=>rfl
  | j :: js=>by simp only [List.map_cons,List.sum_cons,sum_add f g js];omega
theorem parts_sum {α β:Type} (p:β -> α -> Bool) (g:α -> Int) (js:List β):∀ L:List α,(∀ x ∈ L,(js.filter (λj=>p j x)).length = 1) -> (js.map λj=>((L.filter (p j)).map g).sum).sum = (L.map g).sum
  | [],_=>by
    have : ∀ l:List β,(l.map λ_=>(0:Int)).sum = 0:=λl=>by
      induction l with
      | nil=>rfl
      | cons a l ih=>rw [List.map_cons,List.sum_cons,ih];rfl
    exact this js
  | x :: L,h=>by
    have e:(js.map λj=>(((x :: L).filter (p j)).map g).sum) = js.map λj=>(if p j x = true then g x else 0) + ((L.filter (p j)).map g).sum:=by
      refine List.map_congr_left λj _=>?_
      by_cases hj:p j x = true
      · rw [if_pos hj,List.filter_cons_of_pos hj,List.map_cons,List.sum_cons]
      · rw [if_neg hj,List.filter_cons_of_neg hj];omega
    rw [e,sum_add (λj=>if p j x = true then g x else 0),one_sum (λj=>p j x),h x (.head _),parts_sum p g js L (λy hy=>h y (.tail _ hy)),List.map_cons,List.sum_cons];omega
theorem one_run {js:List (Int × Int)} {q:Int × Int -> Bool} (ap:js.Pairwise λa b=>a.2 < b.1) (ex:∃ j ∈ js,q j = true) (no:∀ a b,q a = true -> q b = true -> ¬ a.2 < b.1):(js.filter q).length = 1:=by
  have p2:=ap.filter q;obtain ⟨j,hj,hq⟩:=ex;have hm:j ∈ js.filter q:=List.mem_filter.mpr ⟨hj,hq⟩;have al:∀ x ∈ js.filter q,q x = true:=λx hx=>(List.mem_filter.mp hx).2
  generalize js.filter q = l at p2 hm al
  cases l with
  | nil=>cases hm
  | cons a l =>
    cases l with
    | nil=>rfl
    | cons b l =>
      rw [List.pairwise_cons] at p2;exact absurd (p2.1 b (.head _)) (no a b (al a (.head _)) (al b (.tail _ (.head _))))
theorem Ordd.filter {es os:List Ent} (h:Ordd es os) (p:Ent -> Bool):Ordd (es.filter p) (os.filter p):=⟨h.perm.filter p,h.rise.filter p⟩
theorem len_sum {α:Type}:∀ l:List α,(l.map λ_=>(1:Int)).sum = l.length
  | []=>rfl
  | x :: l=>by rw [List.map_cons,List.sum_cons,len_sum l,List.length_cons];omega
theorem Joined.side {ps js:List (Int × Int)} (J:Joined ps js) {j:Int × Int} (hj:j ∈ js) {p:Int × Int} (hp:p ∈ ps) (h:p.1 <= p.2):(j.1 <= p.1 /\ p.2 <= j.2) \/ p.2 < j.1 \/ j.2 < p.1:=by
  obtain ⟨i,hi,a1,a2⟩:=J.has p hp
  by_cases e:i = j
  · rw [<- e];exact .inl ⟨a1,a2⟩
  · obtain ⟨n,hn,rfl⟩:=List.getElem_of_mem hi
    obtain ⟨m,hm,rfl⟩:=List.getElem_of_mem hj;have hne:n ≠ m:=λz=>e (by subst z;rfl)
    have ap:=List.pairwise_iff_getElem.mp J.apart
    rcases Nat.lt_or_gt_of_ne hne with z | z
    · have:=ap n m hn hm z
      right;left;omega
    · have:=ap m n hm hn z
      right;right;omega
theorem Joined.one {ps js:List (Int × Int)} (J:Joined ps js) {p:Int × Int} (hp:p ∈ ps) (h:p.1 <= p.2):(js.filter λj=>decide (j.1 <= p.1) && decide (p.1 <= j.2)).length = 1:=by
  refine one_run J.apart ?_ (λa b ha hb=>?_)
  · obtain ⟨i,hi,a1,a2⟩:=J.has p hp
    exact ⟨i,hi,by rw [Bool.and_eq_true,decide_eq_true_iff,decide_eq_true_iff];omega⟩
  · rw [Bool.and_eq_true,decide_eq_true_iff,decide_eq_true_iff] at ha hb
    omega
theorem Laid.inRch {kvs:List (Key × D)} {held h2:List Int} {os:List Ent} {rows:List Row} (l:Laid kvs held os rows h2):∀ z ∈ os.zip rows,(z.1.own,z.2.day) ∈ rch os rows:=by
  induction l with
  | nil=>intro z hz;cases hz
  | cons p l ih =>
    intro z hz;rw [List.zip_cons_cons] at hz
    rcases List.mem_cons.mp hz with rfl | hz
    · exact .head _
    · exact .tail _ (ih z hz)
theorem rch_le {kvs:List (Key × D)} {h1 h2:List Int} {os:List Ent} {rows:List Row} (l:Laid kvs h1 os rows h2):∀ p ∈ rch os rows,p.1 <= p.2:=by
  induction l with
  | nil=>intro _ z;cases z
  | @cons g1 g2 g3 e0 o how day rs p l ih =>
    intro x hx
    rcases List.mem_cons.mp hx with rfl | hx
    · show e0.own <= day
      cases p with
      | stands ff hw=>exact ff.le
      | noted ff=>exact Int.le_refl _
      | gone ff=>exact Int.le_refl _
    · exact ih x hx
def nmT:List Ent -> List (List Key × D) -> List (List Key × D)
  | [],kv=>kv
  | e :: es,kv=>nmT es (putD kv [.inl e.number,.inl e.year] (.bl true))
theorem nmT_has (k:List Key):∀ (es:List Ent) (kv:List (List Key × D)),(valD (nmT es kv) k).isSome = true ↔ (valD kv k).isSome = true \/ ∃ e ∈ es,k = [.inl e.number,.inl e.year]
  | [],kv=>by simp [nmT]
  | e :: es,kv=>by
    simp only [nmT];rw [nmT_has k es,valD_put]
    by_cases h:k = [.inl e.number,.inl e.year]
    · rw [if_pos h];simp [h]
    · rw [if_neg h];simp [h]
theorem nmT_len:∀ (es:List Ent) (kv:List (List Key × D)),(nmT es kv).length <= kv.length + es.length
  | [],kv=>Nat.le_refl _
  | e :: es,kv=>by
    simp only [nmT,List.length_cons];have:=nmT_len es (putD kv [.inl e.number,.inl e.year] (.bl true));have:=putD_length kv [.inl e.number,.inl e.year] (.bl true);omega
theorem chain_le {ta tb tc:RE} {δ:List Sl} {a x b:Int} (h1:RdE ta δ (.int a)) (h2:RdE tb δ (.int x)) (h3:RdE tc δ (.int b)):RdT (rTest (rChain dLe dLe ta tb tc)) δ (decide (a <= x) && decide (x <= b)):=by
  intro Q q;refine h1 _ (h2 _ ?_)
  show if decide (a <= x) = true then _ else _
  by_cases h:a <= x
  · rw [decide_eq_true h] at q ⊢
    rw [if_pos rfl];exact h3 _ q
  · rw [decide_eq_false h] at q ⊢
    rw [if_neg Bool.false_ne_true];exact q
abbrev L34 (ns:List Int) (es:List Ent) (kvs:List (Key × D)) (rows:List Row) (many off:Int) (a6 a7 a8 a9 a10 a11 a12:Sl):List Sl:=[.fr (.lst (ns.map D.int)),.fr (.lst (es.map Ent.d)),.fr (.dK kvs),.fr (.lst (rows.map Row.d)),.fr (.int many),.fr (.int off),a6,a7,a8,a9,a10,a11,a12]
def pinD (j:Int × Int):D -> Bool
  | .tup [_,_,_,_,.int o]=>decide (j.1 <= o) && decide (o <= j.2)
  | _=>false
theorem pinD_filter (j:Int × Int) (es:List Ent):(es.map Ent.d).filter (pinD j) = (es.filter (pin j)).map Ent.d:=by
  rw [List.filter_map];rfl
def nmD (kv:List (List Key × D)):D -> Bool
  | .tup [.int n,.int y,_,_]=>(valD kv [.inl n,.inl y]).isSome
  | _=>false
structure Cut (kvs:List (Key × D)) (j:Int × Int) (done:List Int) (kc:List (Key × D)):Prop where
  val:∀ x,valD kc (.inl x) = if x ∈ done /\ j.1 <= x /\ x <= j.2 then valD kvs (.inl x) else none
  bnd:Bounds kc
  len:kc.length <= done.length
theorem Cut.open {kvs kc:List (Key × D)} {j:Int × Int} {done:List Int} (h:Cut kvs j done kc) (hd:∀ x,(valD kvs (.inl x)).isSome = true -> x ∈ done) (r x:Int) (h1:j.1 <= x) (h2:x <= j.2):openM kc r x = openM kvs r x:=by
  unfold openM;rw [h.val x]
  by_cases e:x ∈ done
  · rw [if_pos ⟨e,h1,h2⟩]
  · rw [if_neg (λz=>e z.1)]
    cases hv:valD kvs (.inl x) with
    | none=>rfl
    | some d=>exact absurd (hd x (by rw [hv];rfl)) e
theorem names_inj:∀ {es:List Ent},Names es -> ∀ {a b:Ent},a ∈ es -> b ∈ es -> a.name = b.name -> a = b
  | e :: es,hn,a,b,ha,hb,eq=>by
    unfold Names at hn;rw [List.map_cons,List.nodup_cons] at hn
    rcases List.mem_cons.mp ha with ea | ha'
    · rcases List.mem_cons.mp hb with eb | hb'
      · rw [ea,eb]
      · rw [ea] at eq
        exact absurd (List.mem_map.mpr ⟨b,hb',eq.symm⟩) hn.1
    · rcases List.mem_cons.mp hb with eb | hb'
      · rw [eb] at eq
        exact absurd (List.mem_map.mpr ⟨a,ha',eq⟩) hn.1
      · exact names_inj hn.2 ha' hb' eq
def Z2h:Sp2:=λds Q=>∃ ns:List Int,ds = [.lst (ns.map D.int)] /\ ns.length <= 63 /\ Q (.val (.bl true))
theorem Z2j {f:Addr} {fd:FuncData} (F:Fun K "law" "law" Z2k f fd) (Y5:Fn2 P w K mg base 5 "_law_laid" Z11) (Yh:Fn2 P w K mg base 5 "lay" Z2o) (Y0:Fn2 P w K mg base 5 "_law_are_rows" Z0) (Yg:Fn2 P w K mg base 5 "runs" Z2d) (Yf:Fn2 P w K mg base 5 "waited" Z24) (z_dict:mg "dict" = none) (z_list:mg "list" = none) (z_len:mg "len" = none)  : FnOk P w K mg base CX0 (5 + 1) f fd ["_law_script"] (liftSp K Z2h):=by
  refine Wr.fun_ok F Z2m (by rintro ds Qd ⟨ns,rfl,_⟩;rfl) (λcdv A outer s H E hr ds Qd h=>?_);obtain ⟨ns,rfl,hlen,h⟩:=h
  refine ⟨_,(Wr.s_cons (Wr.s_asg (Wr.e_call Y5 hr (Wr.a_cons (Wr.e_var 0) (Wr.a_cons (Wr.e_int) Wr.a_nil))) (Wr.g_tup (n:=2) rfl (Wr.gs_cons (Wr.g_name 1 Z2m.nd) (Wr.gs_cons (Wr.g_name 2 Z2m.nd) Wr.gs_nil)))) (Wr.s_cons (Wr.s_set 3 Z2m.nd (Wr.e_call Yh hr (Wr.a_cons (Wr.PN2_fx (Wr.n_list z_list (Wr.ab_cons (Wr.b_var 1) Wr.ab_nil))) (Wr.a_cons (Wr.PN2_fx (Wr.n_dict z_dict (Wr.ab_cons (Wr.b_var 2) Wr.ab_nil))) Wr.a_nil)))) (Wr.s_cons (Wr.s_if (Wr.PW2_pt (Wr.t_or (Wr.t_not (Wr.t_val (Wr.e_call Y0 hr (Wr.a_cons (Wr.e_var 3) Wr.a_nil)))) (Wr.t_or1 (Wr.t_cmp op_ne lf_neS (Wr.PE2_bo (Wr.e_len z_len (Wr.ab_cons (Wr.b_var 3) Wr.ab_nil))) (Wr.PE2_bo (Wr.e_len z_len (Wr.ab_cons (Wr.b_var 1) Wr.ab_nil))) (nomark _))))) (Wr.s_one (Wr.s_ret (Wr.e_bl)))
      Wr.s_nil) (Wr.s_cons (Wr.s_set 4 Z2m.nd (Wr.e_int)) (Wr.s_cons (Wr.s_set 5 Z2m.nd (Wr.e_int)) (Wr.s_cons (Wr.s_forL PassesOwn.never rfl (Wr.e_call Yg hr (Wr.a_cons (Wr.PN2_fx (Wr.n_list z_list (Wr.ab_cons (Wr.b_var 1) Wr.ab_nil))) (Wr.a_cons (Wr.PN2_fx (Wr.n_list z_list (Wr.ab_cons (Wr.b_var 3) Wr.ab_nil))) Wr.a_nil))) (Wr.g_name 6 Z2m.nd) (Wr.s_cons (Wr.s_setCompF 7 Z2m.nd (nT:=1) (N':=["_law_one", "0acc", "0_law_script", "0_law_entries_here", "0_law_shut_here", "0_law_whole_here", "0_law_many", "0_law_off", "_law_run", "0_law_ones", "0_law_names", "0_law_one", "0_law_closed", "0_law_day", "0_law_alone"]) (compOk_mk (defScope Z2k) (N:=Z2r) rfl rfl rfl (by decide +kernel)) (Wr.e_var 1) (λ_ _ _ _ _=>(Wr.gp_name 0 (by decide) Z2c)) (λ_ _ _ _ _=>(Wr.if_one (Wr.t_chain op_le op_le lf_le lf_le (Wr.PE2_bo (Wr.e_ix (Wr.b_var 8) (Wr.PE2_bo (Wr.e_int)))) (Wr.PE2_bo (Wr.e_ix (Wr.b_var 0) (Wr.PE2_bo (Wr.e_int)))) (Wr.PE2_bo (Wr.e_ix (Wr.b_var 8) (Wr.PE2_bo (Wr.e_int))))))) (λ_ _ _ _ _=>(Wr.e_var 0))) (Wr.s_cons (Wr.s_setN 8 Z2m.nd (Wr.n_dT)) (Wr.s_cons (Wr.s_forL PassesOwn.never rfl (Wr.e_var 7) (Wr.g_name 9 Z2m.nd) (Wr.s_one (Wr.s_dput 8 (hu_of hr) (Wr.e_tup (Wr.a_cons (Wr.e_ix (Wr.b_var 9) (Wr.PE2_bo (Wr.e_int))) (Wr.a_cons (Wr.e_ix (Wr.b_var 9) (Wr.PE2_bo (Wr.e_int))) Wr.a_nil))) (Wr.e_bl)))) (Wr.s_cons (Wr.s_setN 10 Z2m.nd (Wr.n_dK)) (Wr.s_cons (w_forKF 2 PassesOwn.never rfl (λ_=>(Wr.g_name 11 Z2m.nd))
      (λ_=>(Wr.s_one (Wr.s_if (Wr.t_chain op_le op_le lf_le lf_le (Wr.PE2_bo (Wr.e_ix (Wr.b_var 6) (Wr.PE2_bo (Wr.e_int)))) (Wr.b_var 11) (Wr.PE2_bo (Wr.e_ix (Wr.b_var 6) (Wr.PE2_bo (Wr.e_int))))) (Wr.s_one (Wr.s_dput 10 (hu_of hr) (Wr.e_var 11) (Wr.e_dget (hu_of hr) (Wr.b_var 2) (Wr.b_var 11))))
      Wr.s_nil)))) (Wr.s_cons (Wr.s_set 12 Z2m.nd (Wr.PN2_fx (Wr.n_bor 10 (Wr.n_call Yh hr (Wr.a_cons (Wr.PN2_fx (Wr.n_list z_list (Wr.ab_cons (Wr.b_var 7) Wr.ab_nil))) (Wr.a_cons (Wr.e_var 10) Wr.a_nil)))))) (Wr.s_cons (Wr.s_if (Wr.t_cmp (op_neD hr.units) lf_eqU (Wr.b_var 12) (Wr.PN2_bo (Wr.n_comp (nT:=1) (N':=["_law_row", "0acc", "0_law_script", "0_law_entries_here", "0_law_shut_here", "0_law_whole_here", "0_law_many", "0_law_off", "0_law_run", "0_law_ones", "_law_names", "0_law_one", "0_law_closed", "0_law_day", "0_law_alone"]) (compOk_mk (defScope Z2k) (N:=Z2r) rfl rfl rfl (by decide +kernel)) (Wr.e_var 3) (λ_ _ _ _ _=>(Wr.gp_name 0 (by decide) Z2a)) (λ_ _ _ _ _=>(Wr.if_one (Wr.t_din (hu_of hr) (Wr.PE2_bo (Wr.e_tup (Wr.a_cons (Wr.e_ix (Wr.b_var 0) (Wr.PE2_bo (Wr.e_int))) (Wr.a_cons (Wr.e_ix (Wr.b_var 0) (Wr.PE2_bo (Wr.e_int))) Wr.a_nil)))) (Wr.b_var 10)))) (λ_ _ _ _ _=>(Wr.e_var 0)))) (nomark _)) (Wr.s_one (Wr.s_ret (Wr.e_bl)))
      Wr.s_nil) (Wr.s_cons (Wr.s_augadd 4 Z2m.nd (Wr.e_len z_len (Wr.ab_cons (Wr.b_var 7) Wr.ab_nil))) (Wr.s_one (Wr.s_augadd 5 Z2m.nd (Wr.e_call Yf hr (Wr.a_cons (Wr.e_var 7) (Wr.a_cons (Wr.e_var 12) Wr.a_nil)))))))))))))) (Wr.s_one (Wr.s_ret (Wr.e_and (Wr.e_cmp op_eq lf_eqS (Wr.b_var 4) (Wr.PE2_bo (Wr.e_len z_len (Wr.ab_cons (Wr.b_var 1) Wr.ab_nil))) (nomark _)) (Wr.e_one (Wr.e_cmp op_eq lf_eqS (Wr.b_var 5) (Wr.PE2_bo (Wr.e_call Yf hr (Wr.a_cons (Wr.e_var 1) (Wr.a_cons (Wr.e_var 3) Wr.a_nil)))) (nomark _)))))))))))),?_⟩
  refine ⟨ns,61,rfl,hlen,λes kvs he hk=>⟨rfl,?_⟩⟩;have hel:=he.len;have hkl:=hk.len;refine ⟨es,kvs,rfl,he.names,by omega,hk.bounds,by omega,λos rows held2 ho hl=>?_⟩;have hol:os.length <= 80:=by rw [ho.perm.length_eq];exact he.len
  have hrl:rows.length <= 80:=by rw [hl.len];exact hol
  have hre:rows.length = es.length:=by rw [hl.len,ho.perm.length_eq]
  refine if_f (or_ff (not_by (b1:=true) (λQ q=>⟨rows,rfl,q⟩)) (RdT.eq (λQ q=>q) (by simp [hre]))) ?_;refine ⟨es,os,rows,kvs,[],held2,rfl,he.names,(λe hx=>ho.perm.mem_iff.mp hx),hl,by omega,by omega,λps pp pR=>?_⟩;have mem:∀ p,p ∈ ps ↔ p ∈ rch os rows:=λp=>pp.mem_iff
  have rle:=rch_le hl
  have J:Joined ps (ps.foldl jstep []):=joined_all ps [] [] Joined.nil (λp hp=>rle p ((mem p).mp hp)) (pR.imp λ{a b} hab=>by
    have hab:HT.lexLt [b.1,b.2] [a.1,a.2] = false:=hab;rw [HT.lexLt_cons] at hab
    by_cases z:b.1 = a.1
    · omega
    · rw [if_neg z] at hab
      have:=of_decide_eq_false hab
      omega)
  show loop _ _ _ ((ps.foldl jstep []).map prD) _
  generalize hjs:ps.foldl jstep [] = js at J ⊢;obtain ⟨z1,z2,z3⟩:=hl.zipd;have zr:=hl.inRch;have one:∀ z ∈ os.zip rows,(js.filter λj=>pin j z.1).length = 1:=λz hz=>J.one (p:=(z.1.own,z.2.day)) ((mem _).mpr (zr z hz)) (rle _ (zr z hz))
  have tot1:=parts_sum (λ(j:Int × Int) (z:Ent × Row)=>pin j z.1) wt js (os.zip rows) one;have tot2:=parts_sum (λ(j:Int × Int) (z:Ent × Row)=>pin j z.1) (λ_=>1) js (os.zip rows) one;refine loop_ind (λds δ=>∃ (done todo:List (Int × Int)) (a8 a10:Sl),ds = todo.map prD /\ js = done ++ todo /\ a8.locked = false /\ a10.locked = false /\ δ = L34 ns es kvs rows ((done.map λj=>(((os.zip rows).filter λz=>pin j z.1).map λ_=>(1:Int)).sum).sum) ((done.map λj=>(((os.zip rows).filter λz=>pin j z.1).map wt).sum).sum) .un .un a8 .un a10 .un .un) ?_ ?_ _ _ ⟨[],js,.un,.un,rfl,rfl,rfl,rfl,rfl⟩
  · rintro δ ⟨done,todo,a8,a10,e,ej,_,_,rfl⟩
    cases todo with
    | cons x todo=>cases e
    | nil =>
    rw [List.append_nil] at ej;subst ej;refine nx_mk ?_;have es1:((js.map λj=>(((os.zip rows).filter λz=>pin j z.1).map λ_=>(1:Int)).sum).sum) = ((es.map Ent.d).length:Int):=by
      rw [tot2,len_sum,List.length_map,<- hre];have : (os.zip rows).length = rows.length:=by rw [List.length_zip];have:=hl.len;omega
      rw [this]
    have es2:((js.map λj=>(((os.zip rows).filter λz=>pin j z.1).map wt).sum).sum) = (wl os rows).sum:=by rw [tot1,wl_sum]
    refine ret_by (andV_tt (RdE.eq (λQ q=>q) ?_) (RdE.eq (λQ q=>⟨es,os,rows,kvs,[],held2,rfl,he.names,(λe hx=>ho.perm.mem_iff.mp hx),hl,by omega,by omega,q⟩) ?_)) h
    · rw [decide_eq_true (by rw [es1])];rfl
    · rw [decide_eq_true (by rw [es2])];rfl
  · rintro d r δ L hL ⟨done,todo,a8,a10,e,ej,l8,l10,rfl⟩
    cases todo with
    | nil=>cases e
    | cons j todo =>
    obtain ⟨rfl,rfl⟩:d = prD j /\ r = todo.map prD:=by cases e;exact ⟨rfl,rfl⟩
    have hj:j ∈ js:=by rw [ej];simp
    refine gSet_ok (l:=.un) rfl rfl ?_
    show compD (gpSet 0) _ _ _ (es.map Ent.d) [.un] [] _
    refine compD_map (p:=pinD j) (f:=id) (es.map Ent.d) _ [] (by simp;exact Nat.le_trans hel (by decide)) (λx hx acc=>?_) (λx hx _ acc=>λQ q=>q) ?_
    · obtain ⟨e0,_,rfl⟩:=List.mem_map.mp hx
      exact chain_le (λQ q=>⟨_,rfl,q⟩) (λQ q=>⟨_,rfl,q⟩) (λQ q=>⟨_,rfl,q⟩)
    rw [List.nil_append,List.map_id,pinD_filter];generalize hon:es.filter (pin j) = on;have onl:on.length <= 80:=by rw [<- hon];exact Nat.le_trans (List.length_filter_le ..) hel
    refine gSet_ok (l:=.un) rfl rfl (nx_mk ?_);refine gOwn_ok (l:=a8) rfl l8 (nx_mk ?_);refine seq_by (λδ=>δ = L34 ns es kvs rows ((done.map λj=>(((os.zip rows).filter λz=>pin j z.1).map λ_=>(1:Int)).sum).sum) ((done.map λj=>(((os.zip rows).filter λz=>pin j z.1).map wt).sum).sum) (.fr (prD j)) (.fr (.lst (on.map Ent.d))) (.ow (.dT (nmT on []))) .un a10 .un .un) (λL2 hL2=>?_) ?_
    · show loop _ _ _ (on.map Ent.d) _
      refine loop_ind (λds δ=>∃ (d2 t2:List Ent),ds = t2.map Ent.d /\ on = d2 ++ t2 /\ δ = L34 ns es kvs rows ((done.map λj=>(((os.zip rows).filter λz=>pin j z.1).map λ_=>(1:Int)).sum).sum) ((done.map λj=>(((os.zip rows).filter λz=>pin j z.1).map wt).sum).sum) (.fr (prD j)) (.fr (.lst (on.map Ent.d))) (.ow (.dT (nmT d2 []))) .un a10 .un .un) ?_ ?_ _ _ ⟨[],on,rfl,rfl,rfl⟩
      · rintro δ ⟨d2,t2,e2,eo,rfl⟩
        cases t2 with
        | cons x t2=>cases e2
        | nil =>
        rw [List.append_nil] at eo;subst eo;exact hL2 _ rfl
      · rintro d r δ L3 hL3 ⟨d2,t2,e2,eo,rfl⟩
        cases t2 with
        | nil=>cases e2
        | cons x t2 =>
        obtain ⟨rfl,rfl⟩:d = x.d /\ r = t2.map Ent.d:=by cases e2;exact ⟨rfl,rfl⟩
        have l2:(nmT d2 []).length <= 80:=by
          have h1:=nmT_len d2 [];have h2:d2.length <= on.length:=by rw [eo];simp
          simp at h1;omega
        refine ⟨_,rfl,_,rfl,sz2,[.inl x.number,.inl x.year],rfl,small1000 (by omega),?_⟩;refine hL3 _ _ ⟨d2 ++ [x],t2,rfl,by rw [eo];simp,rfl⟩ ?_;have : nmT (d2 ++ [x]) [] = putD (nmT d2 []) [.inl x.number,.inl x.year] (.bl true):=by
          have : ∀ (l:List Ent) (kv:List (List Key × D)),nmT (l ++ [x]) kv = putD (nmT l kv) [.inl x.number,.inl x.year] (.bl true):=by
            intro l
            induction l with
            | nil=>intro kv;rfl
            | cons y l ih=>intro kv;exact ih _
          exact this d2 []
        rw [this]
        repeat constructor
    rintro δ rfl;refine gOwn_ok (l:=a10) rfl l10 (nx_mk ?_);obtain ⟨ks,e1,e2,e3,e4⟩:=shut_keys hk.all hk.nd;have ksl:ks.length <= 40:=by omega
    refine seq_by (λδ=>∃ kc:List (Key × D),Cut kvs j ks kc /\ δ = L34 ns es kvs rows ((done.map λj=>(((os.zip rows).filter λz=>pin j z.1).map λ_=>(1:Int)).sum).sum) ((done.map λj=>(((os.zip rows).filter λz=>pin j z.1).map wt).sum).sum) (.fr (prD j)) (.fr (.lst (on.map Ent.d))) (.ow (.dT (nmT on []))) .un (.ow (.dK kc)) .un .un) (λL2 hL2=>?_) ?_
    · show loop _ _ _ (keysD kvs) _
      rw [e1];refine loop_ind (λds δ=>∃ (d2 t2:List Int) (kc:List (Key × D)),ds = t2.map D.int /\ ks = d2 ++ t2 /\ Cut kvs j d2 kc /\ δ = L34 ns es kvs rows ((done.map λj=>(((os.zip rows).filter λz=>pin j z.1).map λ_=>(1:Int)).sum).sum) ((done.map λj=>(((os.zip rows).filter λz=>pin j z.1).map wt).sum).sum) (.fr (prD j)) (.fr (.lst (on.map Ent.d))) (.ow (.dT (nmT on []))) .un (.ow (.dK kc)) .un .un) ?_ ?_ _ _
        ⟨[],ks,[],rfl,rfl,⟨(λx=>by rw [if_neg (λz=>by cases z.1)];rfl),(λ_ z=>by cases z),Nat.le_refl _⟩,rfl⟩
      · rintro δ ⟨d2,t2,kc,e5,eo,hc,rfl⟩
        cases t2 with
        | cons x t2=>cases e5
        | nil =>
        rw [List.append_nil] at eo;subst eo;exact hL2 _ ⟨kc,hc,rfl⟩
      · rintro d r δ L3 hL3 ⟨d2,t2,kc,e5,eo,hc,rfl⟩
        cases t2 with
        | nil=>cases e5
        | cons x t2 =>
        obtain ⟨rfl,rfl⟩:d = .int x /\ r = t2.map D.int:=by cases e5;exact ⟨rfl,rfl⟩
        have hin:(Sum.inl x:Key) ∈ kvs.map (·.1):=by rw [e2,eo];exact List.mem_map.mpr ⟨x,by simp,rfl⟩
        obtain ⟨p,hp,hp1⟩:=List.mem_map.mp hin;have hs:=mem_val hp;rw [hp1] at hs;obtain ⟨dv,ev⟩:=Option.isSome_iff_exists.mp hs;obtain ⟨b,rfl⟩:=hk.bounds.at ev;have hdl:d2.length + t2.length + 1 = ks.length:=by rw [eo];simp;omega
        have hcl:=hc.len;refine if_by (chain_le (a:=j.1) (x:=x) (b:=j.2) (λQ q=>⟨_,rfl,q⟩) (λQ q=>q) (λQ q=>⟨_,rfl,q⟩)) (λhb=>?_) (λhb=>?_)
        · rw [Bool.and_eq_true,decide_eq_true_iff,decide_eq_true_iff] at hb
          refine ⟨_,ev,small1000 (by omega),?_⟩;refine hL3 _ _ ⟨d2 ++ [x],t2,putD kc (.inl x) (.int b),rfl,by rw [eo];simp,⟨λy=>?_,hc.bnd.put,by have:=putD_length kc (.inl x) (.int b);simp;omega⟩,rfl⟩ (by repeat constructor);rw [valD_put]
          by_cases ey:y = x
          · rw [if_pos (by rw [ey]),if_pos ⟨by simp [ey],by omega,by omega⟩,ey,ev]
          · rw [if_neg (λz=>ey (by injection z)),hc.val y]
            simp [ey]
        · refine hL3 _ _ ⟨d2 ++ [x],t2,kc,rfl,by rw [eo];simp,⟨λy=>?_,hc.bnd,by simp;omega⟩,rfl⟩ (by repeat constructor)
          rw [hc.val y]
          by_cases ey:y = x
          · have : ¬ (j.1 <= y /\ y <= j.2):=λz=>by
              rw [ey] at z;rw [decide_eq_true z.1,decide_eq_true z.2] at hb;cases hb
            rw [if_neg (λz=>this z.2),if_neg (λz=>this z.2)]
          · simp [ey]
    rintro δ ⟨kc,hc,rfl⟩;have hcl:=hc.len;have non:Names on:=by rw [<- hon];exact List.Nodup.sublist (List.Sublist.map _ List.filter_sublist) he.names
    refine ⟨on,kc,rfl,non,by omega,hc.bnd,by omega,λos' rows' held' ho' l'=>⟨flat_rows rows',?_⟩⟩;refine gSet_ok (l:=.un) rfl rfl (nx_mk ?_);have eos:os' = os.filter (pin j):=(show Ordd on os' from ho').uniq (by rw [<- hon];exact ho.filter (pin j));rw [eos] at l'
    have er:rows' = ((os.zip rows).filter (λz=>pin j z.1)).map (·.2):=hl.alone (λr x a b=>hc.open (λy hy=>by
        obtain ⟨d,hd⟩:=Option.isSome_iff_exists.mp hy;rw [<- valD_any,List.any_eq_true] at hy;obtain ⟨q,hq,eq⟩:=hy;have eq:=of_decide_eq_true eq;have : (Sum.inl y:Key) ∈ ks.map Sum.inl:=by rw [<- e2,<- eq];exact List.mem_map.mpr ⟨q,hq,rfl⟩
        obtain ⟨k,hk1,hk2⟩:=List.mem_map.mp this
        injection hk2 with hk2
        rw [<- hk2];exact hk1) r x a b) (λp hp=>⟨rle p hp,J.side hj ((mem p).mpr hp) (rle p hp)⟩) (λx _ _=>Iff.rfl) l'
    have eo2:os.filter (pin j) = ((os.zip rows).filter (λz=>pin j z.1)).map (·.1):=by
      conv=>lhs;rw [z1]
      rw [List.filter_map];rfl
    have enm:(rows.map Row.d).filter (nmD (nmT on [])) = rows'.map Row.d:=by
      rw [er]
      conv=>lhs;rw [z2]
      rw [List.map_map,List.filter_map,List.map_map]
      congr 1
      refine List.filter_congr λz hz=>?_
      have hn:=z3 z hz;have hi:z.1 ∈ es:=ho.perm.mem_iff.mp (by rw [z1];exact List.mem_map.mpr ⟨z,hz,rfl⟩);have en:z.2.number = z.1.number /\ z.2.year = z.1.year:=⟨congrArg Prod.fst hn,congrArg Prod.snd hn⟩
      show (valD (nmT on []) [.inl z.2.number,.inl z.2.year]).isSome = pin j z.1
      rw [Bool.eq_iff_iff,nmT_has,en.1,en.2]
      constructor
      · rintro (y | ⟨e,hin,ee⟩)
        · cases y
        · rw [<- hon] at hin
          obtain ⟨h1,h2⟩:=List.mem_filter.mp hin;have : z.1 = e:=names_inj he.names hi h1 (okey_name ee);rw [this];exact h2
      · intro y
        exact .inr ⟨z.1,by rw [<- hon];exact List.mem_filter.mpr ⟨hi,y⟩,rfl⟩
    refine if_f (RdT.eq (b1:=true != true) (λQ q=>?_) rfl) ?_
    · refine compD_map (p:=nmD (nmT on [])) (f:=id) (rows.map Row.d) _ [] (by simp;exact Nat.le_trans hrl (by decide)) (λx hx acc=>?_) (λx hx _ acc=>λQ q=>q) ?_
      · obtain ⟨r,_,rfl⟩:=List.mem_map.mp hx
        exact RdT.eq (λQ q=>⟨_,rfl,_,rfl,sz2,[.inl r.number,.inl r.year],rfl,q⟩) (Bool.false_bne _)
      rw [List.nil_append,List.map_id,enm];refine ⟨plain_rows 58 _,plain_rows 58 _,?_⟩;rw [same_rows];exact q
    refine ⟨on,os.filter (pin j),rows',kc,[],held',rfl,non,(λe hx=>?_),l',by omega,by have:=l'.len;have : (os.filter (pin j)).length <= os.length:=List.length_filter_le ..;omega,?_⟩
    · rw [<- hon]
      obtain ⟨h1,h2⟩:=List.mem_filter.mp hx;exact List.mem_filter.mpr ⟨ho.perm.mem_iff.mp h1,h2⟩
    have s1:(on.length:Int) = (((os.zip rows).filter λz=>pin j z.1).map λ_=>(1:Int)).sum:=by
      rw [len_sum];have h1:=(ho'.perm).length_eq;have h2:=congrArg List.length eo2;rw [List.length_map] at h2;rw [eos] at h1;omega
    have s2:(wl (os.filter (pin j)) rows').sum = (((os.zip rows).filter λz=>pin j z.1).map wt).sum:=by
      rw [wl_sum,er,eo2,zip_fs]
    refine hL _ _ ⟨done ++ [j],todo,.ow (.dT (nmT on [])),.ow (.dK kc),rfl,by rw [ej];simp,rfl,rfl,rfl⟩ ?_;rw [List.map_append,List.sum_append,List.map_append,List.sum_append];simp only [List.map_cons,List.map_nil,List.sum_cons,List.sum_nil,Int.add_zero];rw [<- s1,<- s2,List.length_map]
    repeat constructor
end
theorem lenS {n:Nat} {us:List Value} (h:us.length = n + 1):∃ a vs,us = a :: vs /\ vs.length = n:=by
  cases us with
  | nil=>exact absurd h (λz=>by cases z)
  | cons a vs=>exact ⟨a,vs,rfl,Nat.succ.inj h⟩
theorem lenIs0 {us:List Value} (h:us.length = 0):us = []:=List.eq_nil_of_length_eq_zero h
theorem lenIs1 {us:List Value} (h:us.length = 1):∃ a0,us = [a0]:=by
  obtain ⟨a,vs,rfl,h2⟩:=lenS (n:=0) h;obtain rfl:=lenIs0 h2;exact ⟨a,rfl⟩
theorem lenIs2 {us:List Value} (h:us.length = 2):∃ a0 a1,us = [a0,a1]:=by
  obtain ⟨a,vs,rfl,h2⟩:=lenS (n:=1) h;obtain ⟨a1,rfl⟩:=lenIs1 h2;exact ⟨a,a1,rfl⟩
theorem lenIs3 {us:List Value} (h:us.length = 3):∃ a0 a1 a2,us = [a0,a1,a2]:=by
  obtain ⟨a,vs,rfl,h2⟩:=lenS (n:=2) h;obtain ⟨a1,a2,rfl⟩:=lenIs2 h2;exact ⟨a,a1,a2,rfl⟩
theorem lenIs4 {us:List Value} (h:us.length = 4):∃ a0 a1 a2 a3,us = [a0,a1,a2,a3]:=by
  obtain ⟨a,vs,rfl,h2⟩:=lenS (n:=3) h;obtain ⟨a1,a2,a3,rfl⟩:=lenIs3 h2;exact ⟨a,a1,a2,a3,rfl⟩
theorem lenIs5 {us:List Value} (h:us.length = 5):∃ a0 a1 a2 a3 a4,us = [a0,a1,a2,a3,a4]:=by
  obtain ⟨a,vs,rfl,h2⟩:=lenS (n:=4) h;obtain ⟨a1,a2,a3,a4,rfl⟩:=lenIs4 h2;exact ⟨a,a1,a2,a3,a4,rfl⟩
abbrev LkF (K:PySem.W.Frag) (n:Str) (st:Stmt) (f:Addr) (oc:Value) (od:Option Addr) (kV dc pm:Value) (an:Option Addr) (cd ct:Value) (sl:Array (Option Value)):Prop:=K.lookup f = some ⟨oc,od,.func (PySem.W.fnOf n n (defArgs st) (defBody st) (defScope st) .none kV dc pm an cd ct),sl⟩
theorem mkF2 {P:Program} {w:World} {K:PySem.W.Frag} {mg:Str -> Option Value} {base:Heap} {i j:Nat} {n:Str} {sp:Sp2} {f:Addr} {fd:FuncData} {ps:List Str} (g:∀ base:Heap,FnOk P w K mg base CX0 j f fd ps (liftSp K sp)) (m:mg n = some (.ref f)) (k:PySem.W.keepIn K (.ref f) = true) (b:Binds K fd ps []) (h:j <= i):Fn2 P w K mg base i n sp:=⟨⟨f,fd,ps,(g base).mono h,m,k,b⟩⟩
theorem mkF3 {P:Program} {w:World} {K:PySem.W.Frag} {mg:Str -> Option Value} {base:Heap} {i j:Nat} {n:Str} {sp:Sp3} {f:Addr} {fd:FuncData} {ps:List Str} (g:∀ base:Heap,FnOk P w K mg base CX0 j f fd ps (liftSp3 K sp)) (m:mg n = some (.ref f)) (k:PySem.W.keepIn K (.ref f) = true) (b:Binds K fd ps []) (h:j <= i):Fn3 P w K mg base i n sp:=⟨⟨f,fd,ps,(g base).mono h,m,k,b⟩⟩
theorem all_mk {l:PySem.W.OpenLaw} {w:World} {K:PySem.W.Frag} {h:Heap} {mg:Str -> Option Value} {fa:Addr} (X:K.In h) (G:h.Ns mainGlobals mg) (hfa:mg "law" = some (.ref fa))
 {od0 an0:Option Addr} {sl0:Array (Option Value)} {oc0 kV0 dc0 pm0 cd0 ct0:Value} {f0:Addr}
 (a0:PySem.W.nsIn K mainGlobals "own_days" = some (some (.ref f0))) (l0:LkF K "own_days" Z1d f0 oc0 od0 kV0 dc0 pm0 an0 cd0 ct0 sl0) (c0:PySem.W.codeIn K cd0 "own_days" = true) (k0:PySem.W.keepIn K (.ref f0) = true)
{od1 an1:Option Addr} {sl1:Array (Option Value)} {oc1 kV1 dc1 pm1 cd1 ct1:Value} {f1:Addr}
 (a1:PySem.W.nsIn K mainGlobals "waited" = some (some (.ref f1))) (l1:LkF K "waited" Z1y f1 oc1 od1 kV1 dc1 pm1 an1 cd1 ct1 sl1) (c1:PySem.W.codeIn K cd1 "waited" = true) (k1:PySem.W.keepIn K (.ref f1) = true)
{od2 an2:Option Addr} {sl2:Array (Option Value)} {oc2 kV2 dc2 pm2 cd2 ct2:Value} {f2:Addr}
 (a2:PySem.W.nsIn K mainGlobals "runs" = some (some (.ref f2))) (l2:LkF K "runs" Z2f f2 oc2 od2 kV2 dc2 pm2 an2 cd2 ct2 sl2) (c2:PySem.W.codeIn K cd2 "runs" = true) (k2:PySem.W.keepIn K (.ref f2) = true)
{od3 an3:Option Addr} {sl3:Array (Option Value)} {oc3 kV3 dc3 pm3 cd3 ct3:Value} {f3:Addr}
 (a3:PySem.W.nsIn K mainGlobals "height" = some (some (.ref f3))) (l3:LkF K "height" Z23 f3 oc3 od3 kV3 dc3 pm3 an3 cd3 ct3 sl3) (c3:PySem.W.codeIn K cd3 "height" = true) (k3:PySem.W.keepIn K (.ref f3) = true)
{od4 an4:Option Addr} {sl4:Array (Option Value)} {oc4 kV4 dc4 pm4 cd4 ct4:Value} {f4:Addr}
 (a4:PySem.W.nsIn K mainGlobals "ordered" = some (some (.ref f4))) (l4:LkF K "ordered" Z1o f4 oc4 od4 kV4 dc4 pm4 an4 cd4 ct4 sl4) (c4:PySem.W.codeIn K cd4 "ordered" = true) (k4:PySem.W.keepIn K (.ref f4) = true)
{od5 an5:Option Addr} {sl5:Array (Option Value)} {oc5 kV5 dc5 pm5 cd5 ct5:Value} {f5:Addr}
 (a5:PySem.W.nsIn K mainGlobals "open_to" = some (some (.ref f5))) (l5:LkF K "open_to" Z1p f5 oc5 od5 kV5 dc5 pm5 an5 cd5 ct5 sl5) (c5:PySem.W.codeIn K cd5 "open_to" = true) (k5:PySem.W.keepIn K (.ref f5) = true)
{od6 an6:Option Addr} {sl6:Array (Option Value)} {oc6 kV6 dc6 pm6 cd6 ct6:Value} {f6:Addr}
 (a6:PySem.W.nsIn K mainGlobals "first_free" = some (some (.ref f6))) (l6:LkF K "first_free" Zh f6 oc6 od6 kV6 dc6 pm6 an6 cd6 ct6 sl6) (c6:PySem.W.codeIn K cd6 "first_free" = true) (k6:PySem.W.keepIn K (.ref f6) = true)
{od7 an7:Option Addr} {sl7:Array (Option Value)} {oc7 kV7 dc7 pm7 cd7 ct7:Value} {f7:Addr}
 (a7:PySem.W.nsIn K mainGlobals "place_of" = some (some (.ref f7))) (l7:LkF K "place_of" Z1k f7 oc7 od7 kV7 dc7 pm7 an7 cd7 ct7 sl7) (c7:PySem.W.codeIn K cd7 "place_of" = true) (k7:PySem.W.keepIn K (.ref f7) = true)
{od8 an8:Option Addr} {sl8:Array (Option Value)} {oc8 kV8 dc8 pm8 cd8 ct8:Value} {f8:Addr}
 (a8:PySem.W.nsIn K mainGlobals "lay" = some (some (.ref f8))) (l8:LkF K "lay" Z2i f8 oc8 od8 kV8 dc8 pm8 an8 cd8 ct8 sl8) (c8:PySem.W.codeIn K cd8 "lay" = true) (k8:PySem.W.keepIn K (.ref f8) = true)
{od9 an9:Option Addr} {sl9:Array (Option Value)} {oc9 kV9 dc9 pm9 cd9 ct9:Value} {f9:Addr}
 (a9:PySem.W.nsIn K mainGlobals "_law_cell" = some (some (.ref f9))) (l9:LkF K "_law_cell" Z18 f9 oc9 od9 kV9 dc9 pm9 an9 cd9 ct9 sl9) (c9:PySem.W.codeIn K cd9 "_law_cell" = true) (k9:PySem.W.keepIn K (.ref f9) = true)
{od10 an10:Option Addr} {sl10:Array (Option Value)} {oc10 kV10 dc10 pm10 cd10 ct10:Value} {f10:Addr}
 (a10:PySem.W.nsIn K mainGlobals "_law_seed" = some (some (.ref f10))) (l10:LkF K "_law_seed" Zx f10 oc10 od10 kV10 dc10 pm10 an10 cd10 ct10 sl10) (c10:PySem.W.codeIn K cd10 "_law_seed" = true) (k10:PySem.W.keepIn K (.ref f10) = true)
{od11 an11:Option Addr} {sl11:Array (Option Value)} {oc11 kV11 dc11 pm11 cd11 ct11:Value} {f11:Addr}
 (a11:PySem.W.nsIn K mainGlobals "_law_digits" = some (some (.ref f11))) (l11:LkF K "_law_digits" Z9 f11 oc11 od11 kV11 dc11 pm11 an11 cd11 ct11 sl11) (c11:PySem.W.codeIn K cd11 "_law_digits" = true) (k11:PySem.W.keepIn K (.ref f11) = true)
{od12 an12:Option Addr} {sl12:Array (Option Value)} {oc12 kV12 dc12 pm12 cd12 ct12:Value} {f12:Addr}
 (a12:PySem.W.nsIn K mainGlobals "_law_whole" = some (some (.ref f12))) (l12:LkF K "_law_whole" Zf f12 oc12 od12 kV12 dc12 pm12 an12 cd12 ct12 sl12) (c12:PySem.W.codeIn K cd12 "_law_whole" = true) (k12:PySem.W.keepIn K (.ref f12) = true)
{od13 an13:Option Addr} {sl13:Array (Option Value)} {oc13 kV13 dc13 pm13 cd13 ct13:Value} {f13:Addr}
 (a13:PySem.W.nsIn K mainGlobals "_law_are_rows" = some (some (.ref f13))) (l13:LkF K "_law_are_rows" Z2 f13 oc13 od13 kV13 dc13 pm13 an13 cd13 ct13 sl13) (c13:PySem.W.codeIn K cd13 "_law_are_rows" = true) (k13:PySem.W.keepIn K (.ref f13) = true)
{od14 an14:Option Addr} {sl14:Array (Option Value)} {oc14 kV14 dc14 pm14 cd14 ct14:Value} {f14:Addr}
 (a14:PySem.W.nsIn K mainGlobals "_law_head" = some (some (.ref f14))) (l14:LkF K "_law_head" Zv f14 oc14 od14 kV14 dc14 pm14 an14 cd14 ct14 sl14) (c14:PySem.W.codeIn K cd14 "_law_head" = true) (k14:PySem.W.keepIn K (.ref f14) = true)
{od15 an15:Option Addr} {sl15:Array (Option Value)} {oc15 kV15 dc15 pm15 cd15 ct15:Value} {f15:Addr}
 (a15:PySem.W.nsIn K mainGlobals "_law_entries" = some (some (.ref f15))) (l15:LkF K "_law_entries" Z5 f15 oc15 od15 kV15 dc15 pm15 an15 cd15 ct15 sl15) (c15:PySem.W.codeIn K cd15 "_law_entries" = true) (k15:PySem.W.keepIn K (.ref f15) = true)
{od16 an16:Option Addr} {sl16:Array (Option Value)} {oc16 kV16 dc16 pm16 cd16 ct16:Value} {f16:Addr}
 (a16:PySem.W.nsIn K mainGlobals "_law_shut" = some (some (.ref f16))) (l16:LkF K "_law_shut" Z10 f16 oc16 od16 kV16 dc16 pm16 an16 cd16 ct16 sl16) (c16:PySem.W.codeIn K cd16 "_law_shut" = true) (k16:PySem.W.keepIn K (.ref f16) = true)
{od17 an17:Option Addr} {sl17:Array (Option Value)} {oc17 kV17 dc17 pm17 cd17 ct17:Value} {f17:Addr}
 (a17:PySem.W.nsIn K mainGlobals "_law_laid" = some (some (.ref f17))) (l17:LkF K "_law_laid" Zr f17 oc17 od17 kV17 dc17 pm17 an17 cd17 ct17 sl17) (c17:PySem.W.codeIn K cd17 "_law_laid" = true) (k17:PySem.W.keepIn K (.ref f17) = true)
{od18 an18:Option Addr} {sl18:Array (Option Value)} {oc18 kV18 dc18 pm18 cd18 ct18:Value} {f18:Addr}
 (a18:PySem.W.nsIn K mainGlobals "law" = some (some (.ref f18))) (l18:LkF K "law" Z2k f18 oc18 od18 kV18 dc18 pm18 an18 cd18 ct18 sl18) (c18:PySem.W.codeIn K cd18 "law" = true) (k18:PySem.W.keepIn K (.ref f18) = true)
 (z_sum:PySem.W.nsIn K mainGlobals "sum" = some none)
    (z_sorted:PySem.W.nsIn K mainGlobals "sorted" = some none)
    (z_max:PySem.W.nsIn K mainGlobals "max" = some none)
    (z_len:PySem.W.nsIn K mainGlobals "len" = some none)
    (z_enumerate:PySem.W.nsIn K mainGlobals "enumerate" = some none)
    (z_isinstance:PySem.W.nsIn K mainGlobals "isinstance" = some none)
    (z_bool:PySem.W.nsIn K mainGlobals "bool" = some none)
    (z_int:PySem.W.nsIn K mainGlobals "int" = some none)
    (z_list:PySem.W.nsIn K mainGlobals "list" = some none)
    (z_tuple:PySem.W.nsIn K mainGlobals "tuple" = some none)
    (z_str:PySem.W.nsIn K mainGlobals "str" = some none)
    (z_range:PySem.W.nsIn K mainGlobals "range" = some none)
    (z_min:PySem.W.nsIn K mainGlobals "min" = some none)
    (z_dict:PySem.W.nsIn K mainGlobals "dict" = some none) :
    ∃ fd:FuncData,(∀ (s:Shared) (v:Value),BindsTo s fd ⟨[v],[]⟩ [("_law_script", v)]) /\ ∀ base:Heap,K.In base -> base.Ns mainGlobals mg -> FnOk l.prog w K mg base CX0 6 fa fd ["_law_script"] (liftSp K Z2h):=by
  have e:f18 = fa:=by
    have e:=hfa.symm.trans (PySem.W.mg_of X G a18);cases e;rfl
  subst e;have z_sum:=PySem.W.mg_none_of X G z_sum;have z_sorted:=PySem.W.mg_none_of X G z_sorted;have z_max:=PySem.W.mg_none_of X G z_max;have z_len:=PySem.W.mg_none_of X G z_len;have z_enumerate:=PySem.W.mg_none_of X G z_enumerate;have z_isinstance:=PySem.W.mg_none_of X G z_isinstance;have z_bool:=PySem.W.mg_none_of X G z_bool;have z_int:=PySem.W.mg_none_of X G z_int;have z_list:=PySem.W.mg_none_of X G z_list;have z_tuple:=PySem.W.mg_none_of X G z_tuple;have z_str:=PySem.W.mg_none_of X G z_str;have z_range:=PySem.W.mg_none_of X G z_range;have z_min:=PySem.W.mg_none_of X G z_min;have z_dict:=PySem.W.mg_none_of X G z_dict;have m0:=PySem.W.mg_of X G a0;have T0:=fun_mk (st:=Z1d) l0 c0 k0;have b0:=T0.binds (ps:=["entries"]) λ_ _ _ _ _ _ us hl=>by obtain ⟨_,rfl⟩:=lenIs1 hl;rfl
  have m1:=PySem.W.mg_of X G a1;have T1:=fun_mk (st:=Z1y) l1 c1 k1;have b1:=T1.binds (ps:=["entries", "rows"]) λ_ _ _ _ _ _ us hl=>by obtain ⟨_,_,rfl⟩:=lenIs2 hl;rfl
  have m2:=PySem.W.mg_of X G a2;have T2:=fun_mk (st:=Z2f) l2 c2 k2;have b2:=T2.binds (ps:=["entries", "rows"]) λ_ _ _ _ _ _ us hl=>by obtain ⟨_,_,rfl⟩:=lenIs2 hl;rfl
  have m3:=PySem.W.mg_of X G a3;have T3:=fun_mk (st:=Z23) l3 c3 k3;have b3:=T3.binds (ps:=["entry"]) λ_ _ _ _ _ _ us hl=>by obtain ⟨_,rfl⟩:=lenIs1 hl;rfl
  have m4:=PySem.W.mg_of X G a4;have T4:=fun_mk (st:=Z1o) l4 c4 k4;have b4:=T4.binds (ps:=["entries"]) λ_ _ _ _ _ _ us hl=>by obtain ⟨_,rfl⟩:=lenIs1 hl;rfl
  have m5:=PySem.W.mg_of X G a5;have T5:=fun_mk (st:=Z1p) l5 c5 k5;have b5:=T5.binds (ps:=["rank", "day", "shut"]) λ_ _ _ _ _ _ us hl=>by obtain ⟨_,_,_,rfl⟩:=lenIs3 hl;rfl
  have m6:=PySem.W.mg_of X G a6;have T6:=fun_mk (st:=Zh) l6 c6 k6;have b6:=T6.binds (ps:=["rank", "day", "shut", "onward"]) λ_ _ _ _ _ _ us hl=>by obtain ⟨_,_,_,_,rfl⟩:=lenIs4 hl;rfl
  have m7:=PySem.W.mg_of X G a7;have T7:=fun_mk (st:=Z1k) l7 c7 k7;have b7:=T7.binds (ps:=["entry", "shut", "onward"]) λ_ _ _ _ _ _ us hl=>by obtain ⟨_,_,_,rfl⟩:=lenIs3 hl;rfl
  have m8:=PySem.W.mg_of X G a8;have T8:=fun_mk (st:=Z2i) l8 c8 k8;have b8:=T8.binds (ps:=["entries", "shut"]) λ_ _ _ _ _ _ us hl=>by obtain ⟨_,_,rfl⟩:=lenIs2 hl;rfl
  have m9:=PySem.W.mg_of X G a9;have T9:=fun_mk (st:=Z18) l9 c9 k9;have b9:=T9.binds (ps:=["_law_script", "_law_place"]) λ_ _ _ _ _ _ us hl=>by obtain ⟨_,_,rfl⟩:=lenIs2 hl;rfl
  have m10:=PySem.W.mg_of X G a10;have T10:=fun_mk (st:=Zx) l10 c10 k10;have b10:=T10.binds (ps:=["_law_cell_here"]) λ_ _ _ _ _ _ us hl=>by obtain ⟨_,rfl⟩:=lenIs1 hl;rfl
  have m11:=PySem.W.mg_of X G a11;have T11:=fun_mk (st:=Z9) l11 c11 k11;have b11:=T11.binds (ps:=["_law_cell_here", "_law_sizes"]) λ_ _ _ _ _ _ us hl=>by obtain ⟨_,_,rfl⟩:=lenIs2 hl;rfl
  have m12:=PySem.W.mg_of X G a12;have T12:=fun_mk (st:=Zf) l12 c12 k12;have b12:=T12.binds (ps:=["_law_thing"]) λ_ _ _ _ _ _ us hl=>by obtain ⟨_,rfl⟩:=lenIs1 hl;rfl
  have m13:=PySem.W.mg_of X G a13;have T13:=fun_mk (st:=Z2) l13 c13 k13;have b13:=T13.binds (ps:=["_law_found"]) λ_ _ _ _ _ _ us hl=>by obtain ⟨_,rfl⟩:=lenIs1 hl;rfl
  have m14:=PySem.W.mg_of X G a14;have T14:=fun_mk (st:=Zv) l14 c14 k14;have b14:=T14.binds (ps:=["_law_script"]) λ_ _ _ _ _ _ us hl=>by obtain ⟨_,rfl⟩:=lenIs1 hl;rfl
  have m15:=PySem.W.mg_of X G a15;have T15:=fun_mk (st:=Z5) l15 c15 k15;have b15:=T15.binds (ps:=["_law_cells", "_law_span", "_law_few", "_law_base", "_law_crowd"]) λ_ _ _ _ _ _ us hl=>by obtain ⟨_,_,_,_,_,rfl⟩:=lenIs5 hl;rfl
  have m16:=PySem.W.mg_of X G a16;have T16:=fun_mk (st:=Z10) l16 c16 k16;have b16:=T16.binds (ps:=["_law_cell_here", "_law_span", "_law_base"]) λ_ _ _ _ _ _ us hl=>by obtain ⟨_,_,_,rfl⟩:=lenIs3 hl;rfl
  have m17:=PySem.W.mg_of X G a17;have T17:=fun_mk (st:=Zr) l17 c17 k17;have b17:=T17.binds (ps:=["_law_script", "_law_most"]) λ_ _ _ _ _ _ us hl=>by obtain ⟨_,_,rfl⟩:=lenIs2 hl;rfl
  have m18:=PySem.W.mg_of X G a18;have T18:=fun_mk (st:=Z2k) l18 c18 k18;have b18:=T18.binds (ps:=["_law_script"]) λ_ _ _ _ _ _ us hl=>by obtain ⟨_,rfl⟩:=lenIs1 hl;rfl
  have G0:∀ base:Heap,FnOk l.prog w K mg base CX0 (0 + 1) f0 _ _ (liftSp K Z1j):=λbase=>Z1f T0
  have G3:∀ base:Heap,FnOk l.prog w K mg base CX0 (0 + 1) f3 _ _ (liftSp K Z27):=λbase=>Z1z T3
  have G5:∀ base:Heap,FnOk l.prog w K mg base CX0 (0 + 1) f5 _ _ (liftSp K Z1x):=λbase=>Z1w T5
  have G9:∀ base:Heap,FnOk l.prog w K mg base CX0 (0 + 1) f9 _ _ (liftSp K Zs):=λbase=>Zp T9  z_len
  have G10:∀ base:Heap,FnOk l.prog w K mg base CX0 (0 + 1) f10 _ _ (liftSp K Z12):=λbase=>Zz T10
  have G12:∀ base:Heap,FnOk l.prog w K mg base CX0 (0 + 1) f12 _ _ (liftSp K Zj):=λbase=>Zi T12  z_isinstance z_bool z_int
  have G1:∀ base:Heap,FnOk l.prog w K mg base CX0 (1 + 1) f1 _ _ (liftSp K Z24):=λbase=>Z20 T1 (mkF2 G0 m0 k0 b0 (by decide)) z_sum
  have G2:∀ base:Heap,FnOk l.prog w K mg base CX0 (1 + 1) f2 _ _ (liftSp K Z2d):=λbase=>Z2e T2 (mkF2 G0 m0 k0 b0 (by decide)) z_sorted z_max
  have G6:∀ base:Heap,FnOk l.prog w K mg base CX0 (1 + 1) f6 _ _ (liftSp3 K Zn):=λbase=>Zm T6 (mkF2 G5 m5 k5 b5 (by decide))
  have G11:∀ base:Heap,FnOk l.prog w K mg base CX0 (1 + 1) f11 _ _ (liftSp K Za):=λbase=>Zb T11 (mkF2 G10 m10 k10 b10 (by decide)) z_enumerate
  have G13:∀ base:Heap,FnOk l.prog w K mg base CX0 (1 + 1) f13 _ _ (liftSp K Z0):=λbase=>Z3 T13 (mkF2 G12 m12 k12 b12 (by decide)) z_isinstance z_list z_len z_tuple z_str
  have G7:∀ base:Heap,FnOk l.prog w K mg base CX0 (2 + 1) f7 _ _ (liftSp3 K Z1l):=λbase=>Z1e T7 (mkF3 G6 m6 k6 b6 (by decide))
  have G14:∀ base:Heap,FnOk l.prog w K mg base CX0 (2 + 1) f14 _ _ (liftSp K Z13):=λbase=>Zw T14 (mkF2 G11 m11 k11 b11 (by decide)) (mkF2 G9 m9 k9 b9 (by decide))
  have G15:∀ base:Heap,FnOk l.prog w K mg base CX0 (2 + 1) f15 _ _ (liftSp K Z7):=λbase=>Z4 T15 (mkF2 G11 m11 k11 b11 (by decide)) z_range z_sum
  have G16:∀ base:Heap,FnOk l.prog w K mg base CX0 (2 + 1) f16 _ _ (liftSp K Z19):=λbase=>Zy T16 (mkF2 G11 m11 k11 b11 (by decide)) z_range z_min
  have G4:∀ base:Heap,FnOk l.prog w K mg base CX0 (3 + 1) f4 _ _ (liftSp K Z1t):=λbase=>Z1q T4  (mkF2 G3 m3 k3 b3 (by decide)) z_sorted
  have G17:∀ base:Heap,FnOk l.prog w K mg base CX0 (3 + 1) f17 _ _ (liftSp K Z11):=λbase=>Zo T17 (mkF2 G14 m14 k14 b14 (by decide)) (mkF2 G15 m15 k15 b15 (by decide)) (mkF2 G16 m16 k16 b16 (by decide)) (mkF2 G9 m9 k9 b9 (by decide))
  have G8:∀ base:Heap,FnOk l.prog w K mg base CX0 (4 + 1) f8 _ _ (liftSp K Z2o):=λbase=>Z2n T8 (mkF2 G4 m4 k4 b4 (by decide)) (mkF3 G7 m7 k7 b7 (by decide))
  have G18:∀ base:Heap,FnOk l.prog w K mg base CX0 (5 + 1) f18 _ _ (liftSp K Z2h):=λbase=>Z2j T18 (mkF2 G17 m17 k17 b17 (by decide)) (mkF2 G8 m8 k8 b8 (by decide)) (mkF2 G13 m13 k13 b13 (by decide)) (mkF2 G2 m2 k2 b2 (by decide)) (mkF2 G1 m1 k1 b1 (by decide)) z_dict z_list z_len
  exact ⟨PySem.W.fnOf "law" "law" (defArgs Z2k) (defBody Z2k) (defScope Z2k) .none kV18 dc18 pm18 an18 cd18 ct18,λs v=>.of_eq rfl,λbase _ _=>G18 base⟩
theorem law_sp {K:PySem.W.Frag} {H:Hp} {a:Addr} {ns:List Int} (hl:ns.length <= 63) (hS:SqL K H a (ns.map V.int)):liftSp K Z2h [.ref a] H (λv _=>v = .bl true) E0 :=
  ⟨[.lst (ns.map .int)],λr=>r = .val (.bl true),Reps.cons (by simp only [Rep];exact ⟨a,_,rfl,hS,Reps.ints ns⟩) Reps.nil,⟨ns,rfl,hl,rfl⟩,λv H' r ok e=>by subst e;exact (by simpa only [Rep] using ok.2)⟩
theorem walk {l:PySem.W.OpenLaw} {q:Program} {loose:List Str} {XP:(Str -> Option Value) -> Heap -> Prop} {YP:World -> Heap -> Prop} {d:DefRec} {K:Params -> PySem.W.Frag} (hn:l.most = some 63) (hdf:d.params.defaults = [])
 (hY:∀ (w:World) (h:Heap),YP w h -> (K w.params).In h)
 (F:∀ (w:World) (mg:Str -> Option Value) (fa:Addr) (h:Heap),(K w.params).In h -> h.Ns mainGlobals mg -> mg d.name = some (.ref fa) ->
 ∃ fd:FuncData,(∀ (s:Shared) (u:Value),BindsTo s fd ⟨[u],[]⟩ [("_law_script", u)]) /\ ∀ base:Heap,(K w.params).In base -> base.Ns mainGlobals mg -> FnOk l.prog w (K w.params) mg base CX0 6 fa fd ["_law_script"] (liftSp (K w.params) Z2h)) :
 PySem.W.WalkO q loose XP YP l.row.toRowW d [] (λf vs=>PySem.call f vs) :=
  L2.walk_of (n:=63) (k:=6) (x := "_law_script") (CX:=λ_=>CX0) (sp:=λw=>liftSp (K w.params) Z2h) hn (by decide) hdf ⟨rfl,by decide,by decide⟩ hY F (λ_ _ a ns hl _ hS=>law_sp hl hS) λ_ _ _ _ _ z=>z
end My
open PySem PySem.W PyProof.Rows
local macro_rules | `(tactic| refine $e) => do
  let e' <- e.raw.replaceM fun x => if x.isIdent && x.getId == `hl then pure (some (Lean.mkIdent `hq).raw) else pure none
  if e' == e.raw then Lean.Macro.throwUnsupported else
    let e' : Lean.TSyntax `term := ⟨e'⟩
    `(tactic| refine $e')
set_option maxRecDepth 100000 in
set_option maxHeartbeats 0 in
theorem PySem.Challenge.cw_feastfall_k34_whole_runs_stand_alone_holds : PySem.Challenge.rw_feastfall_k34_whole_runs_stand_alone.Holds := by
  w_on; o_law; k_head; (case hq => intro w; kernel_rfl); (case hw => w_witness2)
  k_fill
  refine My.walk (l := PySem.Challenge.rw_feastfall_k34_whole_runs_stand_alone) rfl rfl (fun w h Y => PySem.W.kIn_of Y) ?F
  case F =>
    intro w mg fa h KX G hmg; refine' My.all_mk KX G hmg ?a0 ?l0 ?c0 ?k0 ?a1 ?l1 ?c1 ?k1 ?a2 ?l2 ?c2 ?k2 ?a3 ?l3 ?c3 ?k3 ?a4 ?l4 ?c4 ?k4 ?a5 ?l5 ?c5 ?k5 ?a6 ?l6 ?c6 ?k6 ?a7 ?l7 ?c7 ?k7 ?a8 ?l8 ?c8 ?k8 ?a9 ?l9 ?c9 ?k9 ?a10 ?l10 ?c10 ?k10 ?a11 ?l11 ?c11 ?k11 ?a12 ?l12 ?c12 ?k12 ?a13 ?l13 ?c13 ?k13 ?a14 ?l14 ?c14 ?k14 ?a15 ?l15 ?c15 ?k15 ?a16 ?l16 ?c16 ?k16 ?a17 ?l17 ?c17 ?k17 ?a18 ?l18 ?c18 ?k18 ?z_sum ?z_sorted ?z_max ?z_len ?z_enumerate ?z_isinstance ?z_bool ?z_int ?z_list ?z_tuple ?z_str ?z_range ?z_min ?z_dict
    (case a0 => k_is); (case l0 => unfold My.LkF; k_is); (case c0 => k_is); (case k0 => k_is); (case a1 => k_is); (case l1 => unfold My.LkF; k_is); (case c1 => k_is); (case k1 => k_is); (case a2 => k_is); (case l2 => unfold My.LkF; k_is); (case c2 => k_is); (case k2 => k_is); (case a3 => k_is); (case l3 => unfold My.LkF; k_is); (case c3 => k_is); (case k3 => k_is); (case a4 => k_is); (case l4 => unfold My.LkF; k_is); (case c4 => k_is); (case k4 => k_is); (case a5 => k_is); (case l5 => unfold My.LkF; k_is); (case c5 => k_is); (case k5 => k_is); (case a6 => k_is); (case l6 => unfold My.LkF; k_is); (case c6 => k_is); (case k6 => k_is); (case a7 => k_is); (case l7 => unfold My.LkF; k_is); (case c7 => k_is); (case k7 => k_is); (case a8 => k_is); (case l8 => unfold My.LkF; k_is); (case c8 => k_is); (case k8 => k_is); (case a9 => k_is); (case l9 => unfold My.LkF; k_is); (case c9 => k_is); (case k9 => k_is); (case a10 => k_is); (case l10 => unfold My.LkF; k_is); (case c10 => k_is); (case k10 => k_is); (case a11 => k_is); (case l11 => unfold My.LkF; k_is); (case c11 => k_is); (case k11 => k_is); (case a12 => k_is); (case l12 => unfold My.LkF; k_is); (case c12 => k_is); (case k12 => k_is); (case a13 => k_is); (case l13 => unfold My.LkF; k_is); (case c13 => k_is); (case k13 => k_is); (case a14 => k_is); (case l14 => unfold My.LkF; k_is); (case c14 => k_is); (case k14 => k_is); (case a15 => k_is); (case l15 => unfold My.LkF; k_is); (case c15 => k_is); (case k15 => k_is); (case a16 => k_is); (case l16 => unfold My.LkF; k_is); (case c16 => k_is); (case k16 => k_is); (case a17 => k_is); (case l17 => unfold My.LkF; k_is); (case c17 => k_is); (case k17 => k_is); (case a18 => k_is); (case l18 => unfold My.LkF; k_is); (case c18 => k_is); (case k18 => k_is); (case z_sum => k_is); (case z_sorted => k_is); (case z_max => k_is); (case z_len => k_is); (case z_enumerate => k_is); (case z_isinstance => k_is); (case z_bool => k_is); (case z_int => k_is); (case z_list => k_is); (case z_tuple => k_is); (case z_str => k_is); (case z_range => k_is); (case z_min => k_is); (case z_dict => k_is)
