import PyProof.Rows.All
import Wide.All
import OpenK.AllK
import Wide.FinOn
import Lean
import PyProof.EqAt
import PyProof.EqKinds
import PyProof.TupleCall
import PySem.Challenge.RW_feastfall_k59_a_new_book
local macro_rules|`(tactic|omega)=>`(tactic|first|lia|omega +splitDisjunctions)
set_option bootstrap.genMatcherCode false
set_option Elab.async false
set_option linter.all false
set_option maxRecDepth 100000
open PySem.W (keepIn nsIn codeIn mg_of)
set_option hygiene false
local macro_rules
|`(#[10])=>`(by decide+kernel)
|`(#[7])=>`(⟨rfl,rfl,rfl,#[10],rfl,#[10],#[10]⟩)
|`(#[1])=>`(List Str)
|`(#[2])=>`(by decide)
|`(#[0])=>`(List Sl)
|`(#[8])=>`((18,Value))
|`(#[3])=>`(by omega)
|`(#[4])=>`(List Expr)
|`(#[6])=>`(Inv X Z σ H s)
|`(#[5])=>`(List Value)
|`(#[9])=>`((5,Addr,Obj))
|`(#[13])=>`((51,e::es,e,es))
|`(#[11])=>`(Str->Option Value)
|`(#[12])=>`(Hs K H0 σ Y G H)
|`(#[15])=>`(Heap.get?_push_size _ rfl)
|`(#[17])=>`(t.bQ.choose_spec.choose_spec.2)
|`(#[14])=>`(.ref s.heap.objs.size)
|`(#[20])=>`((4,X.fn x)\/(0,X.env.scope.names.lookup x,.local))
|`(#[16])=>`(s.heap.objs.size+1)
|`(#[18])=>`(by simpa only[Rep]using h)
|`(#[21])=>`((x==("__classdict__":Str))=false)
|`(#[26])=>`(ba (l:=.un) rfl rfl (g_ (ba (l:=.un) rfl rfl (g_ (ba (l:=.un) rfl rfl (g_ (ba (l:=.un) rfl rfl (AH ?_))))))))
|`(#[19])=>`(.ListComp t [⟨B,iter,F,0⟩] U pos)
|`(#[24])=>`((h2.update a (Obj.mapSeq λ_=>(#[]:Array Value))).push (seqObj "tuple" its.toArray 0))
|`(#[23])=>`((10,aI λz=>(by subst z;rw[ea]at h2;cases h2),h2))
local macro_rules
|`(#[22])=>`(.DictComp kx vx [⟨B,iter,F,0⟩] U pos)
|`(#[25])=>`([.tup [.str "strike",.int a],.tup [.str "rank",.int a,.int 10],.tup [.str "anchor",.int b,.int d],.tup [.str "seal",.int b],.tup [.str "unseal",.int b],.tup [.str "shut",.int 0,.int d,.int g]])
|`(#[27])=>`(.fr (.lst [.tup [.str "feast",.bu],.tup [.str "feast",.bu],.tup [.str "year",.bu],.tup [.str "year",.bu],.tup [.str "year",.bu],.tup [.str "bad day",.bu]]))
local macro_rules
|`((0,$a,$b))=>`($a=some $b)
|`((7,$a,$b))=>`($a->$b->Prop)
|`((5,$a,$b))=>`(List ($a×$b))
|`((3,$a,$b,$c,$d))=>`($a=$b/\$c/\$d)
|`((4,$a))=>`($a=true)
|`((18,$a))=>`((7,$a,Shared))
|`((1,$a))=>`($a->Prop)
|`((11,$a,$b,$c,$d,$e))=>`($a->$b->$c->$d->$e)
|`((10,$a,$b))=>`(by rw[2,$a:term,$b:term])
|`((2,$a))=>`($a=none)
|`((19,$a,$b,$c,$d))=>`($a $b $c $d (λj A outer s H E hr ds Qd h=>?_))
|`((8,$a))=>`($a<=sizeLine)
|`((6,$a))=>`(wpAny_bind $a)
|`((13,$a,$b,$c,$d,$e))=>`(⟨$a,$b,($c (ps:=$d) $e)⟩)
|`((15,$a))=>`(by show $a;decide)
|`((9,$a))=>`(.fr (.int $a))
|`((41,$a,$b))=>`(λσ H Q⟨Y,G,Qd,hs,M,$a⟩=>⟨Y,G,_,hs,M,$b⟩)
|`((22,$a))=>`(Heap.get?_push_of_some _ $a)
|`((25,$a))=>`((15,$a<sizeLine))
|`((27,$a))=>`(wpAny (model prog w) A $a Q E s)
|`((23,$a))=>`(($a==("__debug__":Str))=false)
|`((14,$a,$b))=>`(cw K $a (.ref $b))
|`((50,$a,$b))=>`(PE.weak $a (41,k,λv H1 G1 d n1 r1 q1=>$b))
|`((12,$a,$b,$c))=>`(b9 K $a $b $c f fd)
|`((51,$a,$b,$c))=>`(starEach $a X.env=(false,eval $b X.env)::starEach $c X.env)
local macro_rules
|`((33,$a))=>`(List.getElem?_eq_some_iff.mp $a)
|`((30,$a,$b))=>`(wpAny (model X.prog X.w) X.A $a $b X.xe s)
|`((20,$a,$b))=>`(L2.Inv X Z σ $a $b)
|`((16,$a,$b))=>`(UF K mg $a $b _ _)
|`((26,$a,$b))=>`(by rw [<- $a:term];exact $b)
|`((28,$a,$b))=>`((backTo $a (starEach $b X.env)).any (·.1) = false)
|`((24,$a,$b))=>`(ax (ay $a) (ax (ay $b) aC))
|`((29,$a,$b,$c))=>`(if (4,$a) then $b else $c)
|`((47,$a,$b))=>`(bp (az $a) (N:=$b) rfl rfl rfl #[10])
|`((46,$a,$b,$c))=>`(PS.weak $a λD σ H ⟨Y,G,E,hs,M,$b⟩=>⟨Y,G,_,hs,M,$c⟩)
|`((37,$a,$b,$c))=>`((0,PySem.W.findIn K (.ref $a) $b,some (.ref $c)))
|`((49,$a,$b,$c))=>`(bK ($a Z s σ H _ I h) λv s1 ⟨$b,H1,I1,r1,q1⟩=>$c)
|`((17,$a))=>`($a CBook CChart)
|`((34,$a))=>`(List.getElem?_set_ne (Ne.symm $a))
|`((39,$a))=>`((4,PySem.W.isFn K (.ref $a)))
|`((21,$a,$b))=>`(seqObj "list" $a $b)
|`((40,$a,$b,$c,$d,$e))=>`(wpAny (model X.prog X.w) $a $b $c $d $e)
|`((36,$a))=>`(PySem.PyData.keyHash w.params $a)
|`((38,$a,$b,$c,$d))=>`(show wpAny _ $a $b _ _ $c from $d)
|`((42,$a,$b,$c))=>`($a $b (List.mem_append_right _ $c))
|`((52,$a))=>`(k _ H G _ (Nx.refl hs) (by simp only [Rep]) $a)
|`((31,$a,$b,$c,$d))=>`(.Call (.Attribute $a $b w) $c [] $d)
|`((43,$a))=>`(∀ x,foldedSetIterable $a X.env x = (pure x))
|`((44,$a,$b))=>`((0,PySem.W.mroIn K $a (.ref $b),false))
|`((35,$a))=>`(($a : Str).cps.toList)
local macro_rules
|`((53,$a,$b))=>`($a (P:=l.prog) (w:=w) (mg:=mg) (base:=base) $b)
|`((56,$a,$b,$c))=>`(∃(f:Addr)(fd:FuncData)(ps:List Str),$a/\$b/\$c/\Binds K fd ps [])
|`((54,$a,$b,$c,$d,$e,$f,$g))=>`($a (nT:=1) (N':=$b) (47,$c,$d) $e (λ_ _ _ _ _=>(a' 0 #[2] $f)) (λ_ _ _ _ _=>cI) (λ_ _ _ _ _=>$g))
|`((55,$a,$b,$c,$d))=>`(λ_ _ _ _ _=>(hM (n:=$a) rfl (bj (a' 0 #[2] $b) (bj (a' 1 #[2] $c) $d))))
|`((58,$a))=>`(∀c o,(11,c≠z,c≠TO,c≠i1,c≠i2,(0,s.heap.get? c,o)->(0,$a c,o)))
|`((60,$a,$b))=>`((4,(backTo aU (starEach $a X.env)).all (λx=>!x.1)&&(backToKw aU (keywordEach [] X.env)).all (λx=>x.1.isSome)&&decide (($b).length+([]:List Keyword).length+(if([]:List Keyword).isEmpty then 0 else 1)<30)))
|`((61,$a))=>`(∀d d' v l u u',(11,(4,aN n d),(4,aN n d'),Rep X.K H d v,Rep X.K H d' l,L2.RelV v u->L2.RelV l u'->EqAt $a s u u' (eV d d')))
|`((59,$a,$b))=>`(∀L:(5,D,Value×Value),L.Perm (ds.zip ($a its))->$b=(L.map (·.2))->R (L.map (·.1)))
|`((62,$a,$b,$c,$d))=>`(∃W:Nat->Nat->L2.St->(1,Hp),(∃m,W 0 m $a $b)/\ ∀i m σ H,W i m σ H->(J.stop i H/\$c)\/(J.go i H/\ ∃N:L2.St->(1,Hp),(∀L H',N L H'-> ∃Q,Q<m/\W (i+1) Q L H')/\ ∀x H',J.JA i H x H'->$d))
local macro_rules
|`(tactic|rw[2,$a:term,$b:term])=>`(tactic|(rw [$a:term];exact $b))
|`(tactic|rw[0,$a:term,$b:term])=>`(tactic|(refine $a;refine $b))
|`(tactic|rw[1,$a:term,$b:term,$c:term])=>`(tactic|(exact ⟨$a,$b,$c⟩))
|`(tactic|rw[4,$a:term,$b:term,$c:term,$d:term,$e:term])=>`(tactic|(exact ⟨$a,$b,$c,$d,$e⟩))
|`(tactic|rw[3,$a:term,$b:term])=>`(tactic|(exact ⟨$a,$b⟩))
|`(tactic|rw[7,$a:term,$b:term,$c:term,$d:term,$e:term])=>`(tactic|(refine $a $b $c $d (λj A outer s H E hr ds Qd Xd h L B=>$e)))
|`(tactic|rw[5,$a:term])=>`(tactic|(refine ⟨_,$a,?_⟩))
|`(tactic|rw[6,$a:term])=>`(tactic|(rw [$a:term] at e;cases e))
|`(tactic|rw[10])=>`(tactic|(subst g;rw [List.getElem?_set_self hi] at q;cases q))
|`(tactic|rw[13])=>`(tactic|(intro X B hw L hc i Z s σ H E I S st hg;subst B hw L))
|`(tactic|rw[8])=>`(tactic|(obtain ⟨t,rfl⟩:=L))
|`(tactic|rw[17])=>`(tactic|(simp only [List.append_assoc,List.cons_append,List.nil_append,List.append_nil]))
|`(tactic|rw[14,$a:term,$b:term])=>`(tactic|(obtain ⟨a,vs,h1,h2,J⟩:=h;rw[4,a,vs,h1,$a:term,$b:term]))
|`(tactic|rw[11,$a:term])=>`(tactic|(exact absurd (show (4,false) from $a) Bool.false_ne_true))
|`(tactic|rw[9])=>`(tactic|(obtain ⟨vs,h1,h2⟩:=h))
|`(tactic|rw[18])=>`(tactic|(obtain ⟨v,b,rfl,⟨a,ws,rfl,h2,J⟩,h4⟩:=r;obtain rfl:b = []:=h4))
|`(tactic|rw[12,$a:term,$b:term])=>`(tactic|(obtain ⟨t',rfl⟩:=N;exact $a (bN I q $b)))
|`(tactic|rw[15])=>`(tactic|(rcases h.ex b with ⟨c,B⟩ | ⟨c,j,B⟩))
|`(tactic|rw[16])=>`(tactic|(simp only [Rep] at r1;obtain ⟨a,ws,rfl,h2,J⟩:=r1))
|`(tactic|rw[19])=>`(tactic|(simp only [Rep] at r r';subst r;obtain ⟨b,ws,rfl,J,h4⟩:=r';simp only [L2.RelV] at ru j))
|`(tactic|rw[20,$a:term])=>`(tactic|(cases (show u = (Value.ref b) from N);obtain ⟨z,hd,xs,rel,dd⟩:=$a I.bH e))
|`(tactic|rw[21,$a:term,$b:term,$c:term])=>`(tactic|(obtain rfl:x = $a :=L;obtain rfl:y = $b :=N;rw[3,rfl,k _ H G _ (Nx.refl hs) (by simp only [Rep];rw [jZ (f:=$c) (λa b z=>by cases z;rfl)];simp) h]))
|`(tactic|rw[22,$a:term,$b:term,$c:term])=>`(tactic|(have j:∀ b ∈ fp,fF X Z $a b:=(λb hb=>by obtain ⟨o,e,_⟩:=T.obj _ _ $b b hb;rw[3,(10,aI (Nat.ne_of_lt (Heap.lt_size e)),(R b hb).1),(R b hb).2]);refine $c;intro C s' H' L w hC K q))
namespace L2
open PySem PySem.Spec PyProof.Rows
variable{A:Around}{C a:Addr}{E Q:#[8]}{K:PySem.W.Frag}{N ps:#[1]}{P:Program}{R:(18,Result)}{base h:Heap}{body:List Stmt}{e tg:Expr}{fd:FuncData}{g:Int->Int->Int}{g':Array GenState}{i t':Nat}{kw:(5,Str,Value)}{Y mg:#[11]}{op:CmpOp}{outer:List Env}{Z:#[9]}{pos:Pos}{s:Shared}{u:Value}{us:#[5]}{w:World}
abbrev Key:=Sum Int Str
def rz:Key->Value->Bool
 | .inl k,v=>Value.isInt k v
 | .inr x,v=>Value.isStrOf x v
def Mw(w:World):Key->Int
 | .inl k=>hashInt k
 | .inr x=>hashStr w x
theorem cf:∀{k:Key}{v:Value},(4,rz k v)->(∃i t,k=Sum.inl i/\v=Value.int i t)\/(∃x t,k=Sum.inr x/\v=Value.str x t)
 | .inl i,v,h=>by
  obtain⟨t,e⟩:=Value.isInt_shape (k:=i) (v:=v) h;exact .inl ⟨i,t,rfl,e⟩
 | .inr x,v,h=>by
  obtain⟨t,e⟩:=Value.isStrOf_shape (x:=x) (v:=v) h;exact .inr ⟨x,t,rfl,e⟩
theorem zb(i:Int)(t:Tok):(4,rz (.inl i) (.int i t)):=by simp[rz,Value.isInt]
theorem ze(x:Str)(t:Tok):(4,rz (.inr x) (.str x t)):=by simp[rz,Value.isStrOf]
theorem Gj(a b:Int):decide ((Sum.inl a:Key)=Sum.inl b)=(a==b):=by
 by_cases e:a=b
 ·subst e;simp
 ·have h:¬(Sum.inl a:Key)=Sum.inl b:=λq=>e (Sum.inl.inj q)
  rw[2,decide_eq_false h,(beq_eq_false_iff_ne.mpr e).symm]
theorem Gk(a b:Str):decide ((Sum.inr a:Key)=Sum.inr b)=decide (a=b):=by
 by_cases e:a=b
 ·subst e;simp
 ·have h:¬(Sum.inr a:Key)=Sum.inr b:=λq=>e (Sum.inr.inj q)
  rw[decide_eq_false h,decide_eq_false e]
theorem Gm(a:Int)(b:Str):decide ((Sum.inl a:Key)=Sum.inr b)=false:=decide_eq_false (λq=>nomatch q)
theorem Gn(a:Str)(b:Int):decide ((Sum.inr a:Key)=Sum.inl b)=false:=decide_eq_false (λq=>nomatch q)
def bx(prog:Program)(w:World):PySem.KeyKind prog w Key where
 is:=rz
 hash:=Mw w
 inj:=λv a b ha hb=>by
  rcases cf ha with⟨i,t,rfl,rfl⟩|⟨x,t,rfl,rfl⟩
  ·rcases cf hb with⟨j,u,rfl,e⟩|⟨y,u,rfl,e⟩
   ·injection e with O _;rw[O]
   ·exact nomatch e
  ·rcases cf hb with⟨j,u,rfl,e⟩|⟨y,u,rfl,e⟩
   ·exact nomatch e
   ·injection e with O _;rw[O]
 byValue:=λk v h=>by
  rcases cf h with⟨i,t,rfl,rfl⟩|⟨x,t,rfl,rfl⟩<;>rfl
 pyHash:=λhv h=>by
  rcases cf hv with⟨i,t,rfl,rfl⟩|⟨x,t,rfl,rfl⟩
  ·exact wpAny_pyHash_int h
  ·exact wpAny_pyHash_str h
 eqBool:=λhu hv h=>by
  rcases cf hu with⟨i,t,rfl,rfl⟩|⟨x,t,rfl,rfl⟩
  ·rcases cf hv with⟨j,u,rfl,rfl⟩|⟨y,u,rfl,rfl⟩
   ·rw[Gj]at h;exact wpAny_eqBool_int h
   ·rw[Gm]at h;exact SeqAt.EqAt.int_str i t y u _ _ _ _ h
  ·rcases cf hv with⟨j,u,rfl,rfl⟩|⟨y,u,rfl,rfl⟩
   ·rw[Gn]at h;exact SeqAt.EqAt.str_int x t j u _ _ _ _ h
   ·rw[Gk]at h;exact wpAny_eqBool_str h
 «strs» :=λk x t v h=>by
  rcases cf h with⟨i,u,rfl,e⟩|⟨y,u,rfl,e⟩
  ·exact nomatch e
  ·injection e with O _
   subst O
   cases v<;>rfl
theorem uG(prog:Program)(w:World)(i:Int)(t:Tok):(4,(bx prog w).is (.inl i) (.int i t)):=zb i t
theorem dC(prog:Program)(w:World)(x:Str)(t:Tok):(4,(bx prog w).is (.inr x) (.str x t)):=ze x t
inductive V where
 |bu|bl(b:Bool)|int(i:Int)|str(x:Str)|wu(b:Array UInt8)|Gp(b:UInt64)|ref(a:Addr)|ty(n:String)
 deriving DecidableEq
def RelV:(7,V,Value)
 | .bu,u=>u=Value.none
 | .bl b,u=>u=Value.bool b
 | .int i,u=>∃t,u=Value.int i t
 | .str x,u=>∃t,u=Value.str x t
 | .wu b,u=>∃t,u=Value.bytes b t
 | .Gp b,u=>∃t,u=Value.float b t
 | .ref a,u=>u=Value.ref a
 | .ty n,u=>u=Value.type n
abbrev Vals:(7,List V,#[5]):=Paired RelV
theorem Vals.length{xs:List V}(r:Vals xs us):xs.length=us.length:=Paired.length r
theorem Vals.get:∀{xs:List V}{us:#[5]}{i:Nat}{x:V},Vals xs us->(0,xs[i]?,x)-> ∃u,(0,us[i]?,u)/\RelV x u
 |_,_,_,_,.nil,e=>by simp at e
 |_,_,0,_,.cons r _,e=>by simp at e;subst e;rw[1,_,rfl,r]
 |_,_,i+1,x,.cons _ t,e=>by
  obtain⟨u,h1,h2⟩:=Vals.get (i:=i) (x:=x) t (by simpa using e);rw[1,u,by simpa using h1,h2]
theorem Vals.append:∀{xs ys:List V}{us ws:#[5]},Vals xs us->Vals ys ws->Vals (xs++ys) (us++ws)
 |_,_,_,_,.nil,s=>s
 |_,_,_,_,.cons r t,s=>.cons r (Vals.append t s)
theorem Vals.take:∀{xs:List V}{us:#[5]}(n:Nat),Vals xs us->Vals (xs.take n) (us.take n)
 |_,_,0,_=>.nil
 |_,_,_+1,.nil=>.nil
 |_,_,n+1,.cons r t=>.cons r (Vals.take n t)
theorem Vals.drop:∀{xs:List V}{us:#[5]}(n:Nat),Vals xs us->Vals (xs.drop n) (us.drop n)
 |_,_,0,r=>r
 |_,_,_+1,.nil=>.nil
 |_,_,n+1,.cons _ t=>Vals.drop n t
def hh:(7,Option V,Option Value)
 |some v,some u=>RelV v u
 |none,none=>True
 |_,_=>False
def KV{κ:Type}:(7,(5,κ,V),(5,κ,Value)):=Paired λ(p:κ×V)(q:κ×Value)=>p.1=q.1/\RelV p.2 q.2
def kV:Key->V
 | .inl i=>.int i
 | .inr x=>.str x
inductive HO where
 |lst(xs:List V)
 |tup(xs:List V)
 |dK(kvs:(5,Key,V))|dT(kvs:(5,List Key,V))
 |set(S:Int->Bool)(n:Nat)
 |ins(C T:Addr)(fs:(5,Str,V))
 |own(x:Addr)
 |xd(fs:(5,Str,V))
 |met(f x:Addr)
 |Az(lo hi:Int)
 |cR(o:Obj)(u:HO)
 |E9(ps:Array Value)
 |ext(j:(1,Heap))
variable{o:HO}
abbrev Hp:=Addr->Option HO
variable{H:Hp}
def upd(H:Hp)(a:Addr)(o:HO):Hp:=λb=>if b=a then some o else H b
theorem aM:(0,upd H a o a,o):=by unfold upd;rw[if_pos rfl]
theorem aI{b:Addr}(h:b≠a):upd H a o b=H b:=by unfold upd;rw[if_neg h]
theorem E_{b:Addr}{u:HO}(h:(0,H a,o))(h':(0,H b,u))(d:o≠u):a≠b:=by
 intro e;subst e;rw[h]at h';exact d (Option.some.inj h')
theorem aK{b:Addr}(h:(0,H a,o))(h':(2,H b)):a≠b:=by
 intro e;subst e;rw[h]at h';cases h'
section
variable(P:Program)(w:World)
def bJ(H:Hp)(h:Heap)(a:Addr):(1,HO)
 | .lst xs=>(8,xs.length)/\ ∃(its:List Value)(n:Nat),Vals xs its/\(0,h.get? a,{cls:=.type "list",data:=.seq its.toArray n})
 | .tup xs=>(8,xs.length)/\ ∃its:List Value,Vals xs its/\IsTup h a its.toArray
 | .dK kvs=>(8,kvs.length)/\(a==sysModules)=false/\ ∃vs,KV kvs vs/\h.DictOf (bx P w) a vs
 | .dT kvs=>(8,kvs.length)/\(a==sysModules)=false/\ ∃xs:List (List Key×Addr×Value),
   Paired (λ(p:List Key×V)(q:List Key×Addr×Value)=>(3,p.1,q.1,(0,H q.2.1,.tup (p.1.map kV)),RelV p.2 q.2.2)) kvs xs/\
   ∃o es ep,(0,h.get? a,o)/\o.ExactDict/\(3,o.data,.dict es ep,es.toList=xs.map (entryOfKey (tupleKind (bx P w))),(xs.map (·.1)).Nodup)
 | .set S n=>h.SetOf (intKind P w) a S n
 | .ins C T fs=>(0,H T,.own a)/\fs.length<=1000/\T≠a/\(0,h.get? a,PySem.W.instObj C T)/\
   ∃Y,h.Ns1 T Y/\(∀f,hh (fs.lookup f) (Y f))/\PySem.Within Y (fs.map (·.1))
 | .own _=>∃o,(0,h.get? a,o)
 | .xd fs=>∃Y,h.Ns1 a Y/\ ∀f,hh (fs.lookup f) (Y f)
 | .Az lo hi=>∃t u v,(0,h.get? a,{cls:=.type "range",data:=.fields #[.int lo t,.int hi u,.int 1 v]})
 | .cR o u=>(0,h.get? a,o)/\bJ H h a u
 | .E9 ps=>(0,h.get? a,{cls:=.none,data:=.fields ps})
 | .met f x=>(0,h.get? a,PySem.W.methodObj (.ref f) (.ref x))
 | .ext j=>j h/\(∃o,(0,h.get? a,o))/\ ∀h1 h2:Heap,j h1->(∀o,(0,h1.get? a,o)->(0,h2.get? a,o))->j h2
def i6(H:Hp)(h:Heap):Prop:=∀a o,(0,H a,o)->bJ P w H h a o
end
section
variable{H':Hp}{h':Heap}
theorem bJ.lt(x:bJ P w H h a o):a<h.objs.size:=by
 cases o with
 |lst xs=>obtain⟨_,_,_,_,e⟩:=x;exact Heap.lt_size e
 |tup xs=>obtain⟨_,_,_,p⟩:=x;exact p.lt
 |dK kvs=>obtain⟨_,_,_,_,o,_,_,e,_⟩:=x;exact Heap.lt_size e
 |dT kvs=>obtain⟨_,_,_,_,o,_,_,e,_⟩:=x;exact Heap.lt_size e
 |set S n=>obtain⟨o,_,_,_,e,_⟩:=x;exact Heap.lt_size e
 |ins C T fs=>obtain⟨_,_,_,e,_⟩:=x;exact Heap.lt_size e
 |own y=>obtain⟨_,e⟩:=x;exact Heap.lt_size e
 |xd fs=>obtain⟨_,⟨_,_,_,e,_⟩,_⟩:=x;exact Heap.lt_size e
 |Az lo hi=>obtain⟨_,_,_,e⟩:=x;exact Heap.lt_size e
 |cR ob u=>obtain⟨e,_⟩:=x;exact Heap.lt_size e
 |E9 ps=>exact Heap.lt_size (show(0,h.get? a,_)from x)
 |met f y=>exact Heap.lt_size (show(0,h.get? a,_)from x)
 |ext j=>obtain⟨_,⟨_,e⟩,_⟩:=x;exact Heap.lt_size e
theorem Paired.Gq{α β:Type}{F G:(7,α,β)}:∀{c:List α}{d:List β},Paired F c d->(∀a b,F a b->G a b)->Paired G c d
 |_,_,.nil,_=>.nil
 |_,_,.cons r t,f=>.cons (f _ _ r) (Paired.Gq t f)
theorem bJ.km(x:bJ P w H h a o)(k:∀b u,(b=a\/(0,H b,.own a))->(0,h.get? b,u)->(0,h'.get? b,u))
(ho:∀b,(0,H b,.own a)->(0,H' b,.own a))(M:∀b xs,(0,H b,.tup xs)->(0,H' b,.tup xs)):bJ P w H' h' a o:=by
 induction o with
 |lst xs=>obtain⟨z,its,n,r,e⟩:=x;rw[4,z,its,n,r,k _ _ (.inl rfl) e]
 |tup xs=>obtain⟨z,its,r,ob,e,c⟩:=x;exact⟨z,its,r,ob,k _ _ (.inl rfl) e,c⟩
 |dK kvs=>obtain⟨z,y,vs,r,ob,es,ep,e,c⟩:=x;exact⟨z,y,vs,r,ob,es,ep,k _ _ (.inl rfl) e,c⟩
 |dT kvs=>
  obtain⟨z,y,xs,r,ob,es,ep,e,c⟩:=x;exact⟨z,y,xs,Paired.Gq r λp q z=>⟨z.1,M _ _ z.2.1,z.2.2⟩,ob,es,ep,k _ _ (.inl rfl) e,c⟩
 |set S n=>obtain⟨ob,es,ep,t,e,c⟩:=x;exact⟨ob,es,ep,t,k _ _ (.inl rfl) e,c⟩
 |ins C T fs=>
  obtain⟨d,z,ne,e,Y,⟨m,es,ep,W,c⟩,r⟩:=x;exact⟨ho _ d,z,ne,k _ _ (.inl rfl) e,Y,⟨m,es,ep,k _ _ (.inr d) W,c⟩,r⟩
 |own y=>obtain⟨ob,e⟩:=x;rw[3,ob,k _ _ (.inl rfl) e]
 |xd fs=>obtain⟨Y,⟨m,es,ep,e,c⟩,r⟩:=x;rw[1,Y,⟨m,es,ep,k _ _ (.inl rfl) e,c⟩,r]
 |Az lo hi=>obtain⟨t,u,v,e⟩:=x;exact⟨t,u,v,k _ _ (.inl rfl) e⟩
 |cR ob u ih=>obtain⟨e,q⟩:=x;rw[3,k _ _ (.inl rfl) e,ih q]
 |E9 ps=>
  have e:(0,h.get? a,{cls:=.none,data:=.fields ps}):=x
  show(0,h'.get? a,{cls:=.none,data:=.fields ps})
  exact k a _ (.inl rfl) e
 |met f y=>
  have e:(0,h.get? a,PySem.W.methodObj (.ref f) (.ref y)):=x
  show(0,h'.get? a,PySem.W.methodObj (.ref f) (.ref y))
  exact k a _ (.inl rfl) e
 |ext j=>obtain⟨p,⟨o,e⟩,st⟩:=x;rw[1,st _ _ p λo q=>k _ _ (.inl rfl) q,⟨o,k _ _ (.inl rfl) e⟩,st]
theorem i6.lt(x:i6 P w H h)(e:(0,H a,o)):a<h.objs.size:=(x a o e).lt
theorem i6.fresh(x:i6 P w H h)(e:h.objs.size<=a):(2,H a):=by
 cases q:H a with
 |none=>rfl
 |some u=>exact absurd (Nat.lt_of_lt_of_le (x.lt q) e) (Nat.lt_irrefl _)
theorem i6.kept(x:i6 P w H h)(k:∀b u,(0,h.get? b,u)->(0,h'.get? b,u)):i6 P w H h':=λa o e=>
 (x a o e).km (λb u _ q=>k b u q) (λ_ q=>q) λ_ _ q=>q
theorem i6.laid(x:i6 P w H h)(k:∀b u,(0,h.get? b,u)->(0,h'.get? b,u))(hp:h.objs.size<=a)(new:bJ P w (upd H a o) h' a o):i6 P w (upd H a o) h':=λb u e=>by
 have hn:=x.fresh hp
 by_cases hb:b=a
 ·subst hb;rw[6,aM];exact new
 ·rw[aI hb]at e
  exact(x b u e).km (λc v _ q=>k c v q) (λc q=>(10,aI (aK q hn),q)) λc xs q=>(10,aI (aK q hn),q)
end
def Rd(H:Hp)(a:Addr)(u:HO):Prop:=(0,H a,u)\/ ∃o,(0,H a,.cR o u)
theorem Rd.ok{u:HO}(r:Rd H a u)(x:i6 P w H h):bJ P w H h a u:=by
 rcases r with r|⟨o,r⟩
 ·exact x a u r
 ·obtain⟨_,q⟩:=x a _ r
  exact q
def JI:(1,Option HO)
 |some (.lst _)=>True
 |some (.dK _)=>True
 |some (.dT _)=>True
 |some (.set _ _)=>True
 |some (.ins _ _ _)=>True
 |some (.ext _)=>True
 |_=>False
section
variable{h':Heap}{x e:Addr}{o':HO}
theorem i6.write(ok:i6 P w H h)(d:JI (H x))(he:e=x\/(0,H e,.own x))(k:∀b u,b≠e->(0,h.get? b,u)->(0,h'.get? b,u))(a:∃u,(0,h'.get? e,u))
(new:bJ P w (upd H x o') h' x o'):i6 P w (upd H x o') h':=λb u q=>by
 have g:∀c y,(0,H c,.own y)->c≠x:=λc y r z=>by subst z;rw[r]at d;exact d
 have i:∀c xs,(0,H c,.tup xs)->c≠x:=λc xs r z=>by subst z;rw[r]at d;exact d
 by_cases hb:b=x
 ·subst hb;rw[aM]at q;cases q;exact new
 ·rw[aI hb]at q
  by_cases f:b=e
  ·have q':(0,H b,.own x):=by
    rcases he with z|z
    ·exact absurd (f.trans z) hb
    ·rw[2,f,z]
   rw[q]at q';cases q';obtain⟨v,hv⟩:=a;rw[3,v,(10,f,hv)]
  ·refine(ok b u q).km (λc v hc r=>k c v ?_ r) (λc r=>(10,aI (g c b r),r)) λc xs r=>(10,aI (i c xs r),r)
   rcases hc with rfl|hc
   ·exact f
   ·rintro rfl
    rcases he with z|z
    ·exact g c b hc z
    ·rw[hc]at z;cases z;exact hb rfl
end
structure Un(fs ex:List Addr)(H H':Hp)(h h':Heap):Prop where
 keep:∀b o,(11,(0,h.get? b,o),(2,H b),b∉fs,b∉ex,(0,h'.get? b,o))
 slot:∀b o,(11,(0,h.get? b,o),(2,H b),b∈fs,b∉ex,∃sl,(0,h'.get? b,{o with slots:=sl}))
 free:∀b o,(0,h.get? b,o)->(2,H b)->b∉ex->(2,H' b)
 there:∀b o,(0,h.get? b,o)->b∉ex-> ∃o',(0,h'.get? b,o')
 mS:∀b xs,(0,H b,.tup xs)->(0,H' b,.tup xs)
 kL:∀b o u,(0,H b,.cR o u)->(0,H' b,.cR o u)
 mT:∀b ps,(0,H b,.E9 ps)-> ∃f,(0,H' b,.E9 (ps++f))
section
variable{fs WW ex ex':List Addr}{H1 H2:Hp}{h1 h2 h':Heap}{x e:Addr}
theorem Un.any(u:Un fs ex H H1 h h1){b:Addr}{ob:Obj}(q:(0,h.get? b,ob))(n:(2,H b))(hx:b∉ex):∃sl,(0,h1.get? b,{ob with slots:=sl}):=by
 by_cases hb:b∈fs
 ·exact u.slot b ob q n hb hx
 ·rw[3,ob.slots,u.keep b ob q n hb hx]
theorem Un.kept(k:∀b u,(0,h.get? b,u)->(0,h'.get? b,u)):Un fs ex H H h h':=
 ⟨λb ob q _ _ _=>k b ob q,λb ob q _ _ _=>⟨ob.slots,k b ob q⟩,λ_ _ _ n _=>n,λb ob q _=>⟨ob,k b ob q⟩,λ_ _ q=>q,λ_ _ _ q=>q,λ_ ps q=>⟨#[],by rw[q];simp⟩⟩
theorem Un.refl:Un fs ex H H h h:=Un.kept λ_ _ q=>q
theorem Un.laid(k:∀b u,(0,h.get? b,u)->(0,h'.get? b,u))(hp:h.objs.size<=a)(hn:(2,H a)):Un fs ex H (upd H a o) h h' where
 keep:=λb u q _ _ _=>k b u q
 slot:=λb u q _ _ _=>⟨u.slots,k b u q⟩
 free:=λb u q n _=>by rw[2,aI (Nat.ne_of_lt (Nat.lt_of_lt_of_le (Heap.lt_size q) hp)),n]
 there:=λb u q _=>⟨u,k b u q⟩
 mS:=λb xs q=>by rw[2,aI (aK q hn),q]
 kL:=λb u xs q=>by rw[2,aI (aK q hn),q]
 mT:=λb ps q=>⟨#[],by rw[aI (aK q hn),q];simp⟩
theorem Un.write(d:JI (H x))(he:e=x\/(0,H e,.own x))(k:∀b u,b≠e->(0,h.get? b,u)->(0,h'.get? b,u))(a:∃u,(0,h'.get? e,u)):Un fs ex H (upd H x o) h h':=by
 have hx:∀b,(2,H b)->b≠x:=λb n z=>by subst z;rw[n]at d;exact d
 have hb:∀b,(2,H b)->b≠e:=λb n z=>by
  subst z
  rcases he with r|r
  ·exact hx b n r
  ·rw[n]at r;cases r
 have hm:∀b u,(0,H b,u)-> ¬JI (some u)->b≠x:=λb u q nm z=>by subst z;rw[q]at d;exact nm d
 refine⟨λb u q n _ _=>k b u (hb b n) q,λb u q n _ _=>⟨u.slots,k b u (hb b n) q⟩,λb u q n _=>(10,aI (hx b n),n),λb u q _=>?_,
  λb xs q=>(10,aI (hm b _ q λz=>z),q),λb u xs q=>(10,aI (hm b _ q λz=>z),q),λb ps q=>⟨#[],by rw[aI (hm b _ q λz=>z),q];simp⟩⟩
 by_cases f:b=e
 ·subst f;exact a
 ·rw[3,u,k b u f q]
end
def LG(h:Heap)(H:Hp):List Addr:=(List.range h.objs.size).filter λa=>(H a).isSome
def sM(h:Heap)(H:Hp):Heap:=PySem.W.hideAll h (LG h H)
theorem zf(h:Heap)(H:Hp):(sM h H).objs.size=h.objs.size:=PySem.W.hideAll_size _ _
theorem AI{b:Addr}{o:Obj}(e:(0,h.get? b,o))(n:(2,H b)):(0,(sM h H).get? b,o):=
 PySem.W.hideAll_get _ e λhm=>by
  have q:(4,(H b).isSome):=(List.mem_filter.mp hm).2;rw[n]at q;simp at q
theorem Du{b:Addr}{o:Obj}(e:(0,(sM h H).get? b,o)):(0,h.get? b,o)/\(2,H b):=by
 have M:(0,h.get? b,o):=PySem.W.of_hideAll (LG h H) e;refine⟨M,?_⟩
 cases q:H b with
 |none=>rfl
 |some x=>
  have hm:b∈LG h H:=List.mem_filter.mpr ⟨List.mem_range.mpr (Heap.lt_size M),by simp[q]⟩;have z:(2,(sM h H).get? b):=PySem.W.hideAll_none (LG h H) hm;rw[6,z]
def Dv(g h:Heap)(L:Addr):#[9]:=(List.range h.objs.size).filterMap λa=>if a=L\/(4,(g.get? a).isSome)then none else(h.get? a).map λo=>(a,o)
def rest(g h:Heap)(L d:Addr):#[9]:=(Dv g h L).filter λp=>decide (p.1≠d)
structure Mod(K:PySem.W.Frag)(mg:#[11])(base:Heap):Prop where
 g9:K.In base
 glob:base.Ns mainGlobals mg
 blt:∃mb,base.Ns builtinsNs mb/\ ∀x:Str,x≠ "__name__"->mb x=bootBuiltins x
 nolimit:base.NoLimit
structure Cx where
 prog:Program
 w:World
 K:PySem.W.Frag
 mg:#[11]
 base:Heap
 A:Around
 N:#[1]
 ey:Shared
 wx:Hp
 env:Env
 outer:List Env
 stack:List Env
 ex:List Addr
 fn:Str->Bool
 calm:Bool
 pn:#[9]
 xe:#[8]
def qK(l:List Env):List Addr:=l.filterMap (·.frame)
abbrev Cx.fs(X:Cx):List Addr:=qK X.outer
def qL(a:Scope)(x:Str):Prop:=(0,a.names.lookup x,.local)\/(0,a.names.lookup x,.cell)\/(0,a.names.lookup x,.free)
def Loc(a:Scope)(x:Str):Prop:=(0,a.names.lookup x,.local)\/(0,a.names.lookup x,.cell)
def Look(env:Env)(h:Heap)(m:#[11])(x:Str)(u:Value):Prop:=
 ((0,env.kindOf x,.local)/\(0,m x,u))\/(((0,env.kindOf x,.cell)\/(0,env.kindOf x,.free))/\ ∃c,(0,env.cells.lookup x,c)/\h.IsCell c (some u))
structure Cx.Ok(X:Cx):Prop where
 mod:Mod X.K X.mg X.base
 kind:X.env.scope.kind=.function
 glob:X.env.globals=mainGlobals
 blt:X.env.builtins=builtinsNs
 above:X.ey.heap.objs.size<=X.env.locals
 inj:∀x y c,(0,X.env.cells.lookup x,c)->(0,X.env.cells.lookup y,c)->x=y
 has:∀x,((0,X.env.kindOf x,.cell)\/(0,X.env.kindOf x,.free))-> ∃c,(0,X.env.cells.lookup x,c)
 E':∀x c,(4,X.fn x)->(0,X.env.cells.lookup x,c)->X.ey.heap.objs.size<=c
 hd:(4,X.calm)->(2,X.A.handled)
 frames:(0,X.A.frames,X.stack)
 Gr:X.stack=X.outer\/(X.stack=X.env::X.outer/\(0,X.env.frame,X.env.locals))
 Gs:∀b∈X.ex,b≠X.env.locals/\ ∀x c,(0,X.env.cells.lookup x,c)->c≠b
 bs:∀b o,(0,X.base.get? b,o)->(0,X.ey.heap.get? b,o)/\(2,X.wx b)
 x6:X.base.objs.size<=X.ey.heap.objs.size
 uH:∀b o,(0,X.base.get? b,o)->b∉X.ex
 sN:∀b∈X.ex,b∉X.fs
 i3:X.ey.heap.FunFrames X.base X.outer
 AA:∀b∈X.fs,X.wx b=none
structure Inv(X:Cx)(Z:#[9])(σ:List (Option V))(H:Hp)(s:Shared):Prop where
 ok:X.Ok
 os:s.os=X.ey.os
 bare:AllBare s.gens
 base:Un X.fs X.ex X.wx H X.ey.heap s.heap
 loc:∃m,s.heap.Ns X.env.locals m/\ ∀(i:Nat)(x:Str)(v:V),(0,X.N[i]?,x)->(0,σ[i]?,some v)->qL X.env.scope x-> ∃u,RelV v u/\Look X.env s.heap m x u
 cell:∀x c,(0,X.env.cells.lookup x,c)-> ∃v,s.heap.IsCell c v
 free:(2,H X.env.locals)
 fj:∀x c,(0,X.env.cells.lookup x,c)->(2,H c)
 pin:∀p∈X.pn++Z,(0,s.heap.get? p.1,p.2)/\(3,H p.1,none,p.1≠X.env.locals,p.1∉X.fs/\ ∀v,p.2.data≠ .cell v)
 bH:i6 X.prog X.w H s.heap
 len:σ.length=X.N.length
section
variable{X:Cx}{σ:List (Option V)}{H':Hp}{h':Heap}
theorem Cx.Ok.Mx(ok:X.Ok){b:Addr}{o:Obj}(e:(0,X.base.get? b,o)):b∉X.fs:=λhb=>by
 have:=(ok.i3.mem hb).1;rw[e]at this;cases this
theorem Inv.bs(I:#[6]):∀b o,(0,X.base.get? b,o)->(0,s.heap.get? b,o)/\(2,H b):=λb o e=>
 ⟨I.base.keep b o (I.ok.bs b o e).1 (I.ok.bs b o e).2 (I.ok.Mx e) (I.ok.uH b o e),I.base.free b o (I.ok.bs b o e).1 (I.ok.bs b o e).2 (I.ok.uH b o e)⟩
theorem Inv.bk(I:#[6]):∀b o,(0,X.base.get? b,o)->(0,s.heap.get? b,o):=λb o e=>(I.bs b o e).1
theorem Inv.mod(I:#[6]):Mod X.K X.mg X.base:=I.ok.mod
theorem Inv.kM(I:#[6]):X.K.In s.heap:=I.ok.mod.g9.keeps I.bk
theorem Inv.lt(I:#[6]):X.env.locals<s.heap.objs.size:=let⟨_,hn,_⟩:=I.loc;hn.lt
theorem Inv.sz(I:#[6]):X.ey.heap.objs.size<=s.heap.objs.size:=Nat.le_trans I.ok.above (Nat.le_of_lt I.lt)
theorem Inv.Gu(I:#[6])(h:s.heap.objs.size<=a):a∉X.fs:=λhb=>by
 obtain⟨_,o,ho,_⟩:=I.ok.i3.mem hb;exact absurd (Nat.lt_of_lt_of_le (Heap.lt_size ho) (Nat.le_trans I.sz h)) (Nat.lt_irrefl _)
theorem Inv.Gw(I:#[6]):∀x c,(0,X.env.cells.lookup x,c)->c≠X.env.locals:=λx c e z=>by
 obtain⟨v,o,ho,hd⟩:=I.cell x c e;obtain⟨m,⟨o',es,ep,f,a,_⟩,_⟩:=I.loc;rw[z,f]at ho;cases ho;rw[a]at hd;cases hd
theorem Inv.i3(I:#[6]):s.heap.FunFrames X.base X.outer:=by
 have all:∀(l:List Env),(∀b∈qK l,b∈X.fs)->X.ey.heap.FunFrames X.base l->s.heap.FunFrames X.base l:=by
  intro l
  induction l with
  |nil=>intro _ _;trivial
  |cons env r ih=>
   intro hs hl;obtain⟨hk,⟨L,o,S,hn,ho,hd⟩,hr⟩:=hl;have g:L∈X.fs:=hs L (by unfold qK;rw[List.filterMap_cons,S];exact List.mem_cons_self);obtain⟨sl,e⟩:=I.base.slot L o ho (I.ok.AA L g) g λz=>I.ok.sN L z g
   rw[1,hk,⟨L,_,S,hn,e,hd⟩,ih (λb hb=>hs b (by unfold qK;rw[List.filterMap_cons,S];exact List.mem_cons_of_mem _ hb)) hr]
 exact all X.outer (λ_ hb=>hb) I.ok.i3
theorem Inv.stack(I:#[6]):s.heap.FunFrames X.base X.stack:=by
 rcases I.ok.Gr with e|⟨e,S⟩
 ·rw[2,e,I.i3]
 ·rw[e]
  obtain⟨m,hn,_⟩:=I.loc;refine .cons (by rw[I.ok.kind];decide) S hn ?_ I.i3;exact Heap.get?_none_of_le (Nat.le_trans I.ok.x6 I.ok.above)
theorem Inv.wy(I:#[6]):∀b∈qK X.stack,b∈X.env.locals::X.fs:=λb hb=>by
 rcases I.ok.Gr with e|⟨e,S⟩
 ·rw[e]at hb;exact List.mem_cons_of_mem _ hb
 ·rw[e]at hb
  unfold qK at hb;rw[List.filterMap_cons,S]at hb;exact hb
theorem Inv.oE(I:#[6]):∀b∈qK X.stack,H b=none:=λb hb=>by
 rcases List.mem_cons.mp (I.wy b hb)with e|hb
 ·rw[2,e,I.free]
 ·obtain⟨_,o,ho,_⟩:=I.ok.i3.mem hb
  exact I.base.free b o ho (I.ok.AA b hb) λz=>I.ok.sN b z hb
theorem Inv.step{d':Drawn}{ch:List Addr}(I:#[6])
(a:∀b∈ch,(b∈X.ex\/X.ey.heap.objs.size<=b)/\b≠X.env.locals/\(∀x c,(0,X.env.cells.lookup x,c)->c≠b)/\ ∀p∈X.pn++Z,p.1≠b)
(keep:∀b o,(11,b≠X.env.locals,b∉X.fs,b∉ch,(0,s.heap.get? b,o),(2,H b)->(0,h'.get? b,o)))
(slot:∀b o,(11,b≠X.env.locals,b∈X.fs,b∉ch,(0,s.heap.get? b,o),(2,H b)-> ∃sl,(0,h'.get? b,{o with slots:=sl})))(free:∀b o,b∉ch->(0,s.heap.get? b,o)->(2,H b)->(2,H' b))
(there:∀b o,b∉ch->(0,s.heap.get? b,o)-> ∃o',(0,h'.get? b,o'))
(mS:∀b xs,(0,H b,.tup xs)->(0,H' b,.tup xs))(kL:∀b o u,(0,H b,.cR o u)->(0,H' b,.cR o u))(mT:∀b ps,(0,H b,.E9 ps)-> ∃f,(0,H' b,.E9 (ps++f)))
(ns:∀m,s.heap.Ns X.env.locals m->h'.Ns X.env.locals m)(bH:i6 X.prog X.w H' h')(hg:AllBare g'):
Inv X Z σ H' {s with heap:=h',gens:=g',drawn:=d',toks:=t'}:=by
 have A:∀b o,(0,X.ey.heap.get? b,o)->b≠X.env.locals:=λb o e=>Nat.ne_of_lt (Nat.lt_of_lt_of_le (Heap.lt_size e) I.ok.above)
 have t:∀b o,(0,X.ey.heap.get? b,o)->b∉X.ex->b∉ch:=λb o e hx hb=>by
  rcases(a b hb).1 with z|z
  ·exact hx z
  ·exact absurd (Nat.lt_of_lt_of_le (Heap.lt_size e) z) (Nat.lt_irrefl _)
 have B:∀x c,(0,X.env.cells.lookup x,c)-> ∀v,s.heap.IsCell c v->h'.IsCell c v:=λx c e v⟨o,ho,hd⟩=>by
  have j:c∉ch:=λz=>(a c z).2.2.1 x c e rfl
  by_cases hc:c∈X.fs
  ·obtain⟨sl,q⟩:=slot c o (I.Gw x c e) hc j ho (I.fj x c e)
   rw[1,_,q,hd]
  ·rw[1,o,keep c o (I.Gw x c e) hc j ho (I.fj x c e),hd]
 refine⟨I.ok,I.os,hg,⟨λb o e n hb hx=>?_,λb o e n hb hx=>?_,λb o e n hx=>?_,λb o e hx=>?_,λb xs e=>mS b xs (I.base.mS b xs e),λb o xs e=>kL b o xs (I.base.kL b o xs e),λb ps e=>?_⟩,?_,λx c e=>?_,?_,λx c e=>?_,λp hp=>?_,bH,I.len⟩
 ·exact keep b o (A b o e) hb (t b o e hx) (I.base.keep b o e n hb hx) (I.base.free b o e n hx)
 ·obtain⟨sl,O⟩:=I.base.slot b o e n hb hx
  obtain⟨C,W⟩:=slot b _ (A b o e) hb (t b o e hx) O (I.base.free b o e n hx);rw[3,C,W]
 ·obtain⟨o',O⟩:=I.base.there b o e hx
  exact free b o' (t b o e hx) O (I.base.free b o e n hx)
 ·obtain⟨o',O⟩:=I.base.there b o e hx
  exact there b o' (t b o e hx) O
 ·obtain⟨w,O⟩:=I.base.mT b ps e
  obtain⟨y,W⟩:=mT b _ O;rw[3,w++y,by rw[W,Array.append_assoc]]
 ·obtain⟨m,hn,hl⟩:=I.loc
  refine⟨m,ns m hn,λi x v O W g=>?_⟩;obtain⟨u,r,l⟩:=hl i x v O W g;refine⟨u,r,?_⟩
  rcases l with l|⟨k,c,e,z⟩
  ·exact .inl l
  ·exact .inr ⟨k,c,e,B x c e _ z⟩
 ·obtain⟨v,z⟩:=I.cell x c e
  rw[3,v,B x c e v z]
 ·obtain⟨m,⟨o,_,_,ho,_⟩,_⟩:=I.loc
  exact free _ o (λz=>(a _ z).2.1 rfl) ho I.free
 ·obtain⟨v,o,ho,hd⟩:=I.cell x c e
  exact free c o (λz=>(a c z).2.2.1 x c e rfl) ho (I.fj x c e)
 ·obtain⟨e,n,ne,h,d⟩:=I.pin p hp
  have j:p.1∉ch:=λz=>(a p.1 z).2.2.2 p hp rfl
  rw[4,keep p.1 p.2 ne h j e n,free p.1 p.2 j e n,ne,h,d]
theorem Inv.un(I:#[6])(u:Un X.fs [] H H' s.heap h')(bH:i6 X.prog X.w H' h'):Inv X Z σ H' {s with heap:=h',toks:=t'}:=by
 obtain⟨m,⟨o,es,ep,ho,r⟩,_⟩:=id I.loc;obtain⟨sl,g⟩:=u.any ho I.free (by simp)
 exact I.step (g':=s.gens) (d':=s.drawn) (ch:=[]) (λ_ z=>nomatch z) (λb o _ hb _ e n=>u.keep b o e n hb (by simp)) (λb o _ hb _ e n=>u.slot b o e n hb (by simp)) (λb o _ e n=>u.free b o e n (by simp)) (λb o _ e=>u.there b o e (by simp)) u.mS u.kL u.mT (λQ hm=>by
  obtain⟨o',es',a,f,r'⟩:=hm;rw[ho]at f;cases f
  rw[4,_,es',a,g,r']) bH I.bare
theorem Inv.call{d':Drawn}{ch:List Addr}(I:#[6])(u:Un (qK X.stack) ch H H' s.heap h')(bH:i6 X.prog X.w H' h')(hg:AllBare g')
(a:∀b∈ch,(b∈X.ex\/X.ey.heap.objs.size<=b)/\b≠X.env.locals/\(∀x c,(0,X.env.cells.lookup x,c)->c≠b)/\ ∀p∈X.pn++Z,p.1≠b):
Inv X Z σ H' {s with heap:=h',gens:=g',drawn:=d',toks:=t'}:=by
 obtain⟨m,⟨o,es,ep,ho,r⟩,_⟩:=id I.loc;obtain⟨sl,g⟩:=u.any ho I.free λz=>(a _ z).2.1 rfl
 exact I.step (ch:=ch) a (λb o g hb hc e n=>u.keep b o e n (λz=>(List.mem_cons.mp (I.wy b z)).elim g hb) hc) (λb o _ _ hc e n=>u.any e n hc) (λb o hc e n=>u.free b o e n hc) (λb o hc e=>u.there b o e hc) u.mS u.kL u.mT (λQ hm=>by
  obtain⟨o',es',d,f,r'⟩:=hm;rw[ho]at f;cases f
  rw[4,_,es',d,g,r']) bH hg
theorem Inv.turned{it:Addr}(I:#[6])(k:∀b o,b≠it->(0,s.heap.get? b,o)->(0,h'.get? b,o))(hn:(2,H it))(g:it≠X.env.locals)
(h1:it∈X.ex\/X.ey.heap.objs.size<=it)(h2:∀x c,(0,X.env.cells.lookup x,c)->c≠it)(J:∀p∈X.pn++Z,p.1≠it):Inv X Z σ H {s with heap:=h',toks:=t'}:=by
 have A:∀b u,(0,H b,u)->b≠it:=λb u e z=>by rw[z,hn]at e;cases e
 refine I.step (g':=s.gens) (d':=s.drawn) (ch:=[it]) (λb hb=>?_) (λb o _ _ hc e _=>k b o (λz=>hc (by simp[z])) e) (λb o _ _ hc e _=>⟨o.slots,k b o (λz=>hc (by simp[z])) e⟩) (λ_ _ _ _ n=>n)
  (λb o hc e=>⟨o,k b o (λz=>hc (by simp[z])) e⟩) (λ_ _ e=>e) (λ_ _ _ e=>e) (λb ps e=>⟨#[],by rw[e];simp⟩) (λm hm=>?_) (λb u e=>?_) I.bare
 ·have e:b=it:=by simpa using hb
  subst e;exact⟨h1,g,h2,J⟩
 ·obtain⟨o,es,ep,ho,r⟩:=hm
  rw[4,o,es,ep,k _ o (Ne.symm g) ho,r]
 ·refine(I.bH b u e).km (λc v hc q=>k c v ?_ q) (λ_ q=>q) λ_ _ q=>q
  rcases hc with z|z
  ·rw[2,z,A b u e]
  ·exact A c _ z
theorem Inv.tok(I:#[6])(t:Nat):Inv X Z σ H {s with toks:=t}:=I.un (h':=s.heap) (t':=t) Un.refl I.bH
theorem Inv.kept(I:#[6])(k:∀b u,(0,s.heap.get? b,u)->(0,h'.get? b,u)):Inv X Z σ H {s with heap:=h',toks:=t'}:=I.un (Un.kept k) (I.bH.kept k)
theorem Inv.laid(I:#[6])(k:∀b u,(0,s.heap.get? b,u)->(0,h'.get? b,u))(hp:s.heap.objs.size<=a)(new:bJ X.prog X.w (upd H a o) h' a o):
 Inv X Z σ (upd H a o) {s with heap:=h',toks:=t'}:=I.un (Un.laid k hp (I.bH.fresh hp)) (I.bH.laid k hp new)
theorem Inv.write{x e:Addr}(I:#[6])(d:JI (H x))(he:e=x\/(0,H e,.own x))(k:∀b u,b≠e->(0,s.heap.get? b,u)->(0,h'.get? b,u))(a:∃u,(0,h'.get? e,u))
 (new:bJ X.prog X.w (upd H x o) h' x o):Inv X Z σ (upd H x o) {s with heap:=h',toks:=t'}:=I.un (Un.write d he k a) (I.bH.write d he k a new)
theorem Inv.hj{w:#[9]}(I:#[6])(h:∀p∈w,(0,s.heap.get? p.1,p.2)/\(3,H p.1,none,p.1≠X.env.locals,p.1∉X.fs/\ ∀v,p.2.data≠ .cell v)):Inv X w σ H s:=
 ⟨I.ok,I.os,I.bare,I.base,I.loc,I.cell,I.free,I.fj,λp hp=>(List.mem_append.mp hp).elim (λz=>I.pin p (List.mem_append_left _ z)) (h p),I.bH,I.len⟩
theorem uI(hN:N.Nodup){j:Nat}{x:Str}(a:(0,N[i]?,x))(b:(0,N[j]?,x)):i=j:=by
 obtain⟨h1,O⟩:=(33,a);obtain⟨h2,W⟩:=(33,b);exact(List.getElem_inj hN).mp (O.trans W.symm)
theorem zg{M:Model}{x:Str}{v:V}{Q:(18,Unit)}(I:#[6])(hN:X.N.Nodup)(hi:(0,X.N[i]?,x))(hx:Loc X.env.scope x)(r:RelV v u)
(h:∀s',Inv X Z (σ.set i (some v)) H s'->(∃a,Heap.SameBut a s.heap s'.heap/\(a=X.env.locals\/(0,X.env.cells.lookup x,a)))->Q () s')(S:#[20]:=by first|exact .inl rfl|exact .inr rfl|assumption):wpAny M A (storeName X.env x u) Q E s:=by
 obtain⟨m,hn,hl⟩:=id I.loc;have w:(X.env.scope.kind==.class||(X.env.scope.kind==.module&&X.env.locals !=X.env.globals))=false:=by rw[I.ok.kind];rfl
 have P:i<σ.length:=(10,I.len,(33,hi).1)
 have Gw:=I.Gw;have R:∀{a:Addr}{h':Heap},(∃o,(0,s.heap.get? a,o)/\(2,H a))->Heap.SameBut a s.heap h'->i6 X.prog X.w H h':=λ{a h'}ha hs b ob e=>by
  obtain⟨_,_,f⟩:=ha;refine(I.bH b ob e).km (λc t hc q=>(hs.2 c ?_).trans q) (λ_ q=>q) λ_ _ q=>q
  rintro rfl
  rcases hc with rfl|hc
  ·rw[6,f]
  ·rw[f]at hc;cases hc
 rcases hx with hk|hk
 ·refine wpAny_storeName_local hk hn (λh' WX hs=>?_) w
  obtain⟨L,_,_,K,_⟩:=id hn;refine h _ ⟨I.ok,I.os,I.bare,⟨λb o e n hb hx=>?_,λb o e n hb hx=>?_,I.base.free,λb o e hx=>?_,I.base.mS,I.base.kL,I.base.mT⟩,⟨_,WX,λj y l O W D=>?_⟩,λy c e=>?_,I.free,I.fj,λp hp=>?_,R ⟨L,K,I.free⟩ hs,by simpa using I.len⟩ ⟨_,hs,.inl rfl⟩
  ·exact(hs.2 b (Nat.ne_of_lt (Nat.lt_of_lt_of_le (Heap.lt_size e) I.ok.above))).trans (I.base.keep b o e n hb hx)
  ·obtain⟨sl,O⟩:=I.base.slot b o e n hb hx
   rw[3,sl,(hs.2 b (Nat.ne_of_lt (Nat.lt_of_lt_of_le (Heap.lt_size e) I.ok.above))).trans O]
  ·obtain⟨o',O⟩:=I.base.there b o e hx
   rw[3,o',(hs.2 b (Nat.ne_of_lt (Nat.lt_of_lt_of_le (Heap.lt_size e) I.ok.above))).trans O]
  ·by_cases g:j=i
   ·subst g
    rw[hi]at O;cases O;rw[List.getElem?_set_self P]at W;cases W;rw[1,u,r,.inl ⟨hk,by simp⟩]
   ·rw[(34,g)]at W
    obtain⟨u',r',q⟩:=hl j y l O W D;refine⟨u',r',?_⟩
    rcases q with⟨k,e⟩|⟨k,c,e,z⟩
    ·refine .inl ⟨k,?_⟩
     have:y≠x:=λe=>g (uI hN O (e▸hi))
     simp[this,e]
    ·exact .inr ⟨k,c,e,z.sameBut hs (Gw y c e)⟩
  ·obtain⟨t,z⟩:=I.cell y c e
   rw[3,t,z.sameBut hs (Gw y c e)]
  ·obtain⟨e,n,ne,G,d⟩:=I.pin p hp
   rw[4,(hs.2 p.1 ne).trans e,n,ne,G,d]
 ·have N:(4,X.fn x):=by
   rcases S with z|z
   ·exact z
   ·rw[z]at hk;cases hk
  obtain⟨c,hc⟩:=I.ok.has x (.inl hk);obtain⟨t,z⟩:=I.cell x c hc;refine wpAny_storeName_cell I.ok.kind hk hc z (λh' T hs=>?_);obtain⟨oc,U,Mz⟩:=id z
  refine h {s with heap:=h'} ⟨I.ok,I.os,I.bare,⟨λb o e n hb hx=>?_,λb o e n hb hx=>?_,I.base.free,λb o e hx=>?_,I.base.mS,I.base.kL,I.base.mT⟩,⟨m,hn.sameBut hs (Ne.symm (Gw x c hc)),λj y l O W D=>?_⟩,λy F e=>?_,I.free,I.fj,λp hp=>?_,R ⟨oc,U,I.fj x c hc⟩ hs,by simpa using I.len⟩ ⟨c,hs,.inr hc⟩
  ·exact(hs.2 b (Nat.ne_of_lt (Nat.lt_of_lt_of_le (Heap.lt_size e) (I.ok.E' x c N hc)))).trans (I.base.keep b o e n hb hx)
  ·obtain⟨sl,O⟩:=I.base.slot b o e n hb hx
   rw[3,sl,(hs.2 b (Nat.ne_of_lt (Nat.lt_of_lt_of_le (Heap.lt_size e) (I.ok.E' x c N hc)))).trans O]
  ·obtain⟨o',O⟩:=I.base.there b o e hx
   rw[3,o',(hs.2 b (Nat.ne_of_lt (Nat.lt_of_lt_of_le (Heap.lt_size e) (I.ok.E' x c N hc)))).trans O]
  ·by_cases g:j=i
   ·subst g
    rw[hi]at O;cases O;rw[List.getElem?_set_self P]at W;cases W;rw[1,u,r,.inr ⟨.inl hk,c,hc,T⟩]
   ·rw[(34,g)]at W
    obtain⟨u',r',q⟩:=hl j y l O W D;refine⟨u',r',?_⟩
    rcases q with q|⟨k,F,e,J⟩
    ·exact .inl q
    ·refine .inr ⟨k,F,e,J.sameBut hs ?_⟩
     rintro rfl;exact g (uI hN O (I.ok.inj _ _ _ e hc▸hi))
  ·by_cases TC:F=c
   ·subst TC;rw[3,_,T]
   ·obtain⟨C,B⟩:=I.cell y F e
    rw[3,C,B.sameBut hs TC]
  ·obtain⟨e,n,ne,G,d⟩:=I.pin p hp
   refine⟨(hs.2 p.1 ?_).trans e,n,ne,G,d⟩;intro q;rw[q,U]at e;have q':oc=p.2:=Option.some.inj e;exact d t (26,q',Mz)
theorem oY{M:Model}{x:Str}{v:V}{Q:(18,Unit)}(I:#[6])(hN:X.N.Nodup)(hi:(0,X.N[i]?,x))(hx:Loc X.env.scope x)(r:RelV v u)
(h:∀s',Inv X Z (σ.set i (some v)) H s'->Q () s')(S:#[20]:=by first|exact .inl rfl|exact .inr rfl|assumption):wpAny M A (storeName X.env x u) Q E s:=
 zg I hN hi hx r (λs' K _=>h s' K) S
end
abbrev XK:=Value->Option Addr->(1,Hp)
abbrev St:=List (Option V)
variable{σ:St}
abbrev VK:=(7,V,Hp)
abbrev TE:=St->Hp->(1,VK)
abbrev TT:=St->Hp->(1,(7,Bool,Hp))
abbrev TA:=St->Hp->(1,(7,List V,Hp))
structure Ends where
 nx:(7,St,Hp)
 rt:VK
 bk:(7,St,Hp):=λ_ _=>False
 ct:(7,St,Hp):=λ_ _=>False
abbrev TS:=Ends->St->(1,Hp)
inductive EP(X:Cx)(Z:#[9])(σ:St)(Q:VK)(u:Value)(s':Shared):Prop
 |mk(v:_)(H':_):Inv X Z σ H' s'->RelV v u->Q v H'->EP X Z σ Q u s'
inductive TP(X:Cx)(Z:#[9])(σ:St)(Q:(7,Bool,Hp))(b:Bool)(s':Shared):Prop
 |mk(H':_):Inv X Z σ H' s'->Q b H'->TP X Z σ Q b s'
inductive AP(X:Cx)(Z:#[9])(σ:St)(Q:(7,List V,Hp))(us:#[5])(s':Shared):Prop
 |mk(vs:_)(H':_):Inv X Z σ H' s'->Vals vs us->Q vs H'->AP X Z σ Q us s'
def SP(X:Cx)(Z:#[9])(D:Ends)(f:Flow)(s':Shared):Prop:=
 match f with
 | .next=>∃L H',Inv X Z L H' s'/\D.nx L H'
 | .brk=>∃L H',Inv X Z L H' s'/\D.bk L H'
 | .cont=>∃L H',Inv X Z L H' s'/\D.ct L H'
 | .ret u=>∃v L H',Inv X Z L H' s'/\RelV v u/\D.rt v H'
def PE(X:Cx)(e:Expr)(t:TE):Prop:=
 ∀(Z:#[9])(s:Shared)(σ:St)(H:Hp)(Q:VK),#[6]->t σ H Q->(30,eval e X.env,EP X Z σ Q)
def PT(X:Cx)(e:Expr)(t:TT):Prop:=
 ∀(Z:#[9])(s:Shared)(σ:St)(H:Hp)(Q:(7,Bool,Hp)),#[6]->t σ H Q->(30,isTrue e X.env (eval e X.env),TP X Z σ Q)
def PW(X:Cx)(e:Expr)(t:TT):Prop:=
 ∀(b:Sem Value)(Z:#[9])(s:Shared)(σ:St)(H:Hp)(Q:(7,Bool,Hp)),#[6]->t σ H Q->(30,isTrue e X.env b,TP X Z σ Q)
theorem PW.pt{X:Cx}{t:TT}(h:PW X e t):PT X e t:=h _
def PA(X:Cx)(es:#[4])(t:TA):Prop:=
 ∀(pos:Pos)(Z:#[9])(s:Shared)(σ:St)(H:Hp)(Q:(7,List V,Hp)),#[6]->t σ H Q->(30,spliced (backTo pos (starEach es X.env)),AP X Z σ Q)
def PS(X:Cx)(st:Stmt)(t:TS):Prop:=
 ∀(Z:#[9])(s:Shared)(σ:St)(H:Hp)(D:Ends),#[6]->t D σ H->(30,exec st X.env,SP X Z D)
def qM(X:Cx)(st:List Stmt)(t:TS):Prop:=
 ∀(Z:#[9])(s:Shared)(σ:St)(H:Hp)(D:Ends),#[6]->t D σ H->(30,execs st X.env,SP X Z D)
theorem bK{α:Type}{t:Sem α}{Q Q':(18,α)}{M:Model}(h:wpAny M A t Q E s)(B:∀a s,Q a s->Q' a s):wpAny M A t Q' E s:=wpAny_mono h B λ_ _ x=>x
section
variable{X:Cx}
def Gx(i:Nat):TE:=λσ H Q=>∃v,(0,σ[i]?,some v)/\Q v H
def tC(v:V):TE:=λ_ H Q=>Q v H
theorem eD{x:Str}(hN:(0,X.N[i]?,x))(hv:qL X.env.scope x)(hd:(23,x):=by decide)(W:#[21]:=by decide):PE X (.Name x pos) (Gx i):=by
 intro Z s σ H Q I h;obtain⟨v,e,h⟩:=h;obtain⟨m,hn,hl⟩:=I.loc;obtain⟨u,r,l⟩:=hl i x v hN e hv;have fin:EP X Z σ Q u s:=⟨v,H,I,r,h⟩
 rcases l with⟨hk,hm⟩|⟨hk,c,hc,a⟩
 ·exact wpAny_Name (wpAny_loadName_local I.ok.kind hk hn hm fin) hd
 ·rcases hk with hk|hk
  ·exact wpAny_Name (wpAny_loadName_cell I.ok.kind hk hc a fin) hd
  ·exact wpAny_Name (wpAny_loadName_free I.ok.kind hk hc a fin W) hd
theorem Gy{i j pos}:PE X (.Constant (.int i) j pos) (tC (.int i)):=λ_ _ _ H _ I h=>wpAny_Constant_int ⟨.int i,H,I.tok _,⟨_,rfl⟩,h⟩
theorem JJ{b j pos}:PE X (.Constant (.bool b) j pos) (tC (.bl b)):=λ_ _ _ H _ I h=>Constant_bool ⟨.bl b,H,I,rfl,h⟩
theorem Gz{j pos}:PE X (.Constant .none j pos) (tC .bu):=λ_ _ _ H _ I h=>Constant_none ⟨.bu,H,I,rfl,h⟩
theorem GA{x j pos}:PE X (.Constant (.str x) j pos) (tC (.str x)):=λ_ _ _ H _ I h=>Calls.Constant_str ⟨.str x,H,I.tok _,⟨_,rfl⟩,h⟩
def Gl(X:Cx)(x:Str):Prop:=(0,X.env.kindOf x,.globalImplicit)
theorem cc{x:Str}(I:#[6])(hg:Gl X x)(hm:(0,X.mg x,u))(h:Q u s)
(hd:(23,x):=by decide):wpAny (model X.prog X.w) X.A (eval (.Name x pos) X.env) Q E s:=
 Calls.Name_function_global I.ok.kind hg (Calls.loadGlobal_global (by rw[I.ok.glob];exact I.mod.glob.keeps I.bk) hm h) hd
theorem mU{x:Str}(I:#[6])(hg:Gl X x)(hm:(2,X.mg x))(hv:(0,bootBuiltins x,u))(h:Q u s)
(hn:x≠ "__name__":=by decide)(hd:(23,x):=by decide):wpAny (model X.prog X.w) X.A (eval (.Name x pos) X.env) Q E s:=by
 obtain⟨mb,h1,h2⟩:=I.mod.blt;exact Calls.Name_function_global I.ok.kind hg (Calls.loadGlobal_builtin (by rw[I.ok.glob];exact I.mod.glob.keeps I.bk) hm (by rw[I.ok.blt];exact h1.keeps I.bk) ((h2 x hn).trans hv) h) hd
variable{a b:Expr}{B F:TE}
def PC(X:Cx)(op:CmpOp)(a b:Expr)(t:TE):Prop:=
 ∀(Z:#[9])(s:Shared)(σ:St)(H:Hp)(Q:VK),#[6]->t σ H Q->
  (30,eval a X.env,λv c=>(40,X.A,eval b X.env,λu d=>(40,X.A,compareOp op v u,EP X Z σ Q,X.xe,d),X.xe,c))
def tB(t:TE):TT:=λσ H Q=>t σ H λx H1=>∃c,x=.bl c/\Q c H1
theorem GB{t:TE}(h:PC X op a b t)(h1:behindInMarks op b=false:=by first|exact AJ _ #[2] #[2]|rfl):PE X (.Compare a [op] [b] pos) t:=λZ s σ H Q I hw=>wpAny_Compare1 (h Z s σ H Q I hw) h1
theorem sO{t:TE}(h:PC X op a b t)(h1:behindInMarks op b=false:=by first|exact AJ _ #[2] #[2]|rfl):PT X (.Compare a [op] [b] pos) (tB t):=by
 intro Z s σ H Q I hw;refine wpAny_isTrue_Compare1 (bK (h Z s σ H _ I hw) λv s1 h1=>bK h1 λu s2 h2=>bK h2 λc s3⟨x,H1,I1,r1,q1⟩=>?_) h1;obtain⟨d,rfl,q⟩:=q1;cases r1;exact wpAny_truthy_bool ⟨H1,I1,q⟩
theorem GC{t:TE}(h:PE X e t)(he:∀b,isTrue e X.env b=(do let v<-b;standAt e.pos;holding [v] (truthy v)):=by intro _;rfl):PT X e (tB t):=by
 intro Z s σ H Q I hw;refine isTrue_plain (bK (h Z s σ H _ I hw) λv s1⟨x,H1,I1,r1,q1⟩=>?_) (he _);obtain⟨d,rfl,q⟩:=q1;cases r1;exact wpAny_truthy_bool ⟨H1,I1,q⟩
variable{tA f:TT}{rest:#[4]}
def MA(t u:TT):TT:=λσ H Q=>t σ H λc H1=>(29,c,u σ H1 Q,Q false H1)
def WY(t u:TT):TT:=λσ H Q=>t σ H λc H1=>(29,c,Q true H1,u σ H1 Q)
def MB(t:TT):TT:=λσ H Q=>t σ H λc H1=>Q (!c) H1
theorem Dw(ha:PT X a tA):PW X (.BoolOp .And [a] pos) tA:=by
 intro b Z s σ H Q I h;refine isTrue_and (bK (ha Z s σ H Q I h) λc s1 e=>?_)
 cases c with
 |true=>exact isTrue_and_nil e
 |false=>exact e
theorem GD(ha:PT X a tA):PW X (.BoolOp .Or [a] pos) tA:=by
 intro b Z s σ H Q I h;refine isTrue_or (bK (ha Z s σ H Q I h) λc s1 e=>?_)
 cases c with
 |false=>exact isTrue_or_nil e
 |true=>exact e
theorem GF(ha:PT X a tA)(hb:PW X (.BoolOp .And (b::rest) pos) f):PW X (.BoolOp .And (a::b::rest) pos) (MA tA f):=by
 intro d Z s σ H Q I h;refine isTrue_and (bK (ha Z s σ H _ I h) λc s1⟨H1,I1,q1⟩=>?_)
 cases c with
 |true=>exact hb d Z s1 σ H1 Q I1 q1
 |false=>rw[1,H1,I1,q1]
theorem Fb(ha:PT X a tA)(hb:PW X (.BoolOp .Or (b::rest) pos) f):PW X (.BoolOp .Or (a::b::rest) pos) (WY tA f):=by
 intro d Z s σ H Q I h;refine isTrue_or (bK (ha Z s σ H _ I h) λc s1⟨H1,I1,q1⟩=>?_)
 cases c with
 |true=>rw[1,H1,I1,q1]
 |false=>exact hb d Z s1 σ H1 Q I1 q1
theorem GG(ha:PT X a tA):PT X (.UnaryOp .Not a pos) (MB tA):=by
 intro Z s σ H Q I h;exact isTrue_not (bK (ha Z s σ H (λc H1=>Q (!c) H1) I h) λc s1⟨H1,I1,q1⟩=>⟨H1,I1,q1⟩)
def JK(B F:TE):TE:=λσ H Q=>B σ H λx H1=>∃c,x=.bl c/\(29,c,F σ H1 Q,Q (.bl false) H1)
def MC(B F:TE):TE:=λσ H Q=>B σ H λx H1=>∃c,x=.bl c/\(29,c,Q (.bl true) H1,F σ H1 Q)
def JL(B:TE):TE:=λσ H Q=>B σ H λx H1=>∃c,x=.bl c/\Q (.bl (!c)) H1
theorem GH{op}{t:TE}(h:PE X a t):PE X (.BoolOp op [a] pos) t:=λZ s σ H Q I hw=>BoolOp_one (h Z s σ H Q I hw)
theorem GI(ha:PE X a B)(hb:PE X (.BoolOp .And (b::rest) pos) F):PE X (.BoolOp .And (a::b::rest) pos) (JK B F):=by
 intro Z s σ H Q I h;refine BoolOp_and (49,ha,x,?_);obtain⟨c,rfl,q1⟩:=q1;cases r1;refine wpAny_truthy_bool ?_
 cases c with
 |true=>exact hb Z s1 σ H1 Q I1 q1
 |false=>rw[4,.bl false,H1,I1,rfl,q1]
theorem JM(ha:PE X a B)(hb:PE X (.BoolOp .Or (b::rest) pos) F):PE X (.BoolOp .Or (a::b::rest) pos) (MC B F):=by
 intro Z s σ H Q I h;refine BoolOp_or (49,ha,x,?_);obtain⟨c,rfl,q1⟩:=q1;cases r1;refine wpAny_truthy_bool ?_
 cases c with
 |false=>exact hb Z s1 σ H1 Q I1 q1
 |true=>rw[4,.bl true,H1,I1,rfl,q1]
theorem GJ(ha:PE X a B):PE X (.UnaryOp .Not a pos) (JL B):=by
 intro Z s σ H Q I h;refine UnaryOp_ (49,ha,x,?_);obtain⟨c,rfl,q1⟩:=q1;cases r1;exact not_of (wpAny_truthy_bool ⟨.bl (!c),H1,I1,rfl,q1⟩)
def WZ(t:TT)(B F:TE):TE:=λσ H Q=>t σ H λc H1=>(29,c,B σ H1 Q,F σ H1 Q)
theorem AK{c:Expr}(hc:PT X c tA)(ha:PE X a B)(hb:PE X b F):PE X (.IfExp c a b pos) (WZ tA B F):=by
 intro Z s σ H Q I h;refine wpAny_IfExp (bK (hc Z s σ H _ I h) λd s1⟨H1,I1,q1⟩=>?_)
 cases d with
 |true=>exact ha Z s1 σ H1 Q I1 q1
 |false=>exact hb Z s1 σ H1 Q I1 q1
end
def c_(K:PySem.W.Frag)(H:Hp)(a:Addr)(xs:List V):Prop:=
 Rd H a (.lst xs)\/
  ∃(o:Obj)(its:Array Value)(n:Nat),(0,K.lookup a,o)/\o.cls=.type "list"/\(3,o.dict,none,o.data=.seq its n,(8,its.size)/\Vals xs its.toList)
def dg(K:PySem.W.Frag)(H:Hp)(a:Addr)(xs:List V):Prop:=
 Rd H a (.tup xs)\/
  ∃(o:Obj)(its:Array Value)(n:Nat),(0,K.lookup a,o)/\o.cls=.type "tuple"/\(3,o.data,.seq its n,(8,its.size),Vals xs its.toList)
def MD:Value->Option V
 | .none=>some .bu
 | .bool b=>some (.bl b)
 | .int i _=>some (.int i)
 | .str x _=>some (.str x)
 | .bytes b _=>some (.wu b)
 | .float b _=>some (.Gp b)
 | .ref a=>some (.ref a)
 | .type n=>some (.ty n)
 |_=>none
theorem RelV.abs{x:V}(r:RelV x u):(0,MD u,x):=by
 cases x with
 |bu=>cases r;rfl
 |bl _=>cases r;rfl
 |int _=>obtain⟨t,rfl⟩:=r;rfl
 |str _=>obtain⟨t,rfl⟩:=r;rfl
 |wu _=>obtain⟨t,rfl⟩:=r;rfl
 |Gp _=>obtain⟨t,rfl⟩:=r;rfl
 |ref _=>cases r;rfl
 |ty _=>cases r;rfl
theorem RelV.inj{x y:V}(r:RelV x u)(q:RelV y u):x=y:=Option.some.inj (r.abs.symm.trans q.abs)
theorem Vals.inj:∀{xs ys:List V}{us:#[5]},Vals xs us->Vals ys us->xs=ys
 |_,_,_,.nil,.nil=>rfl
 |_,_,_,.cons r t,.cons r' t'=>by rw[r.inj r',Vals.inj t t']
section
variable{X:Cx}{xs ys:List V}
theorem c_.of(h:(0,H a,.lst xs)):c_ K H a xs:=.inl (.inl h)
theorem dg.of(h:(0,H a,.tup xs)):dg K H a xs:=.inl (.inl h)
theorem Inv.list(I:#[6])(h:c_ X.K H a xs):∃its:List Value,Vals xs its/\PlainL s.heap a its.toArray/\(8,xs.length):=by
 rcases h with h|⟨o,its,n,hk,hc,hd,hs,hz,r⟩
 ·obtain⟨z,its,n,r,e⟩:=h.ok I.bH
  exact⟨its,r,⟨_,n,e,rfl,rfl,rfl⟩,z⟩
 ·refine⟨its.toList,r,⟨o,n,I.kM a o hk,hc,hd,by simpa using hs⟩,?_⟩
  have e:=r.length;simp only[Array.length_toList]at e;omega
theorem Inv.tuple(I:#[6])(h:dg X.K H a xs):∃its:List Value,Vals xs its/\IsTup s.heap a its.toArray/\(8,xs.length):=by
 rcases h with h|⟨o,its,n,hk,hc,hs,hz,r⟩
 ·obtain⟨z,its,r,p⟩:=h.ok I.bH
  exact⟨its,r,p,z⟩
 ·refine⟨its.toList,r,⟨o,I.kM a o hk,hc,n,by simpa using hs⟩,?_⟩
  have e:=r.length;simp only[Array.length_toList]at e;omega
theorem Inv.lI(I:#[6])(h:c_ X.K H a xs)(h':c_ X.K H a ys):xs=ys:=by
 obtain⟨its,r,⟨o,n,e,_,_,d⟩,_⟩:=I.list h;obtain⟨its',r',⟨o',b,M,_,_,d'⟩,_⟩:=I.list h';rw[e]at M;cases M;rw[d]at d'
 injection d' with d1 _
 have:its=its':=by simpa using congrArg Array.toList d1
 subst this;exact r.inj r'
theorem Inv.mV(I:#[6])(h:dg X.K H a xs)(h':dg X.K H a ys):xs=ys:=by
 obtain⟨its,r,⟨o,e,_,n,d⟩,_⟩:=I.tuple h;obtain⟨its',r',⟨o',M,_,b,d'⟩,_⟩:=I.tuple h';rw[e]at M;cases M;rw[d]at d'
 injection d' with d1 _
 have:its=its':=by simpa using congrArg Array.toList d1
 subst this;exact r.inj r'
end
abbrev Cx.mW(X:Cx)(E:#[8]):Cx:={X with xe:=E}
abbrev Cx.Fc(X:Cx):Cx:=X.mW λ_ _=>False
theorem Cx.Ok.mW{X:Cx}(ok:X.Ok)(E:#[8]):(X.mW E).Ok:=
 ⟨ok.mod,ok.kind,ok.glob,ok.blt,ok.above,ok.inj,ok.has,ok.E',ok.hd,ok.frames,ok.Gr,ok.Gs,ok.bs,ok.x6,ok.uH,ok.sN,ok.i3,ok.AA⟩
theorem Cx.Ok.dr{X:Cx}(ok:(X.mW E).Ok):X.Ok:=
 ⟨ok.mod,ok.kind,ok.glob,ok.blt,ok.above,ok.inj,ok.has,ok.E',ok.hd,ok.frames,ok.Gr,ok.Gs,ok.bs,ok.x6,ok.uH,ok.sN,ok.i3,ok.AA⟩
section
variable{X:Cx}
theorem Inv.mW(I:#[6])(E:#[8]):Inv (X.mW E) Z σ H s:=⟨I.ok.mW E,I.os,I.bare,I.base,I.loc,I.cell,I.free,I.fj,I.pin,I.bH,I.len⟩
theorem Inv.dr(I:Inv (X.mW E) Z σ H s):#[6]:=⟨I.ok.dr,I.os,I.bare,I.base,I.loc,I.cell,I.free,I.fj,I.pin,I.bH,I.len⟩
theorem SP.dr{D:Ends}{f:Flow}{s':Shared}(h:SP (X.mW E) Z D f s'):SP X Z D f s':=by
 cases f with
 |next=>obtain⟨L,H',I,q⟩:=h;exact⟨L,H',I.dr,q⟩
 |brk=>obtain⟨L,H',I,q⟩:=h;exact⟨L,H',I.dr,q⟩
 |cont=>obtain⟨L,H',I,q⟩:=h;exact⟨L,H',I.dr,q⟩
 |ret u=>obtain⟨v,L,H',I,r,q⟩:=h;exact⟨v,L,H',I.dr,r,q⟩
theorem qM.Fc{st:List Stmt}{t:TS}(h:qM X.Fc st t):qM X st t:=λZ s σ H D I hw=>
 wpAny_mono (h Z s σ H D (I.mW _) hw) (λ_ _ q=>q.dr) λ_ _ z=>False.elim z
end
section
variable{X:Cx}{st:Stmt}{rest:List Stmt}{t u:TS}{te:TE}
def JN:TS:=λD σ H=>D.nx σ H
def ME(t u:TS):TS:=λD σ H=>t {D with nx:=u D} σ H
theorem Dx:qM X [] JN:=λ_ _ σ H _ I h=>wpAny_execs_nil ⟨σ,H,I,h⟩
theorem AL(h1:PS X st t)(h2:qM X rest u):qM X (st::rest) (ME t u):=by
 intro Z s σ H D I h
 refine wpAny_execs_cons (bK (h1 Z s σ H {D with nx:=u D} I h) λf s1 q=>?_)
 cases f with
 |next=>
  obtain⟨L,H',K,q⟩:=q;exact h2 Z s1 L H' D K q
 |ret v=>exact q
 |brk=>exact q
 |cont=>exact q
theorem Dy(h1:PS X st t):qM X [st] t:=by
 intro Z s σ H D I h;refine wpAny_execs_cons (bK (h1 Z s σ H D I h) λf s1 q=>?_)
 cases f with
 |next=>exact wpAny_execs_nil q
 |ret v=>exact q
 |brk=>exact q
 |cont=>exact q
theorem Inv.quiet(I:#[6]):interactive X.env=false:=by simp[interactive,I.ok.kind]
def JO(te:TE):TS:=λD σ H=>te σ H λ_ H1=>D.nx σ H1
theorem x8(he:PE X e te)(hs:swapsWith e none pos.line X.env=pure false:=by rfl):PS X (.Expr e pos) (JO te):=by
 intro Z s σ H D I h;exact wpAny_Expr_any (49,he,x,⟨σ,H1,I1,q1⟩) I.quiet hs
def MF(te:TE):TS:=λD σ H=>te σ H D.rt
theorem wz(he:PE X e te):PS X (.Return (some e) pos) (MF te):=by
 intro Z s σ H D I h;exact wpAny_Return_some (49,he,x,⟨x,σ,H1,I1,r1,q1⟩)
def MG(c:TT)(t u:TS):TS:=λD σ H=>c σ H λb H1=>(29,b,t D σ H1,u D σ H1)
theorem Fd{c:Expr}{a b:List Stmt}{tc:TT}(hc:PT X c tc)(ha:qM X a t)(hb:qM X b u):PS X (.If c a b pos) (MG tc t u):=by
 intro Z s σ H D I h;refine wpAny_If (bK (hc Z s σ H _ I h) λd s1⟨H1,I1,q1⟩=>?_)
 cases d with
 |true=>exact ha Z s1 σ H1 D I1 q1
 |false=>exact hb Z s1 σ H1 D I1 q1
end
abbrev TG:=V->St->(7,Hp,(7,St,Hp))
abbrev AB:=List V->St->(7,Hp,(7,St,Hp))
def PG(X:Cx)(B:Expr)(t:TG):Prop:=
 ∀(Z:#[9])(s:Shared)(σ:St)(H:Hp)(v:V)(u:Value)(Q:(7,St,Hp)),#[6]->RelV v u->t v σ H Q->
  (30,assign B X.env u,λ_ s'=>∃L H',Inv X Z L H' s'/\Q L H')
def wA(X:Cx)(ts:#[4])(t:AB):Prop:=
 ∀(Z:#[9])(s:Shared)(σ:St)(H:Hp)(vs:List V)(us:#[5])(Q:(7,St,Hp)),#[6]->Vals vs us->t vs σ H Q->
  (30,assignInOrder ((assignEach ts X.env).map (·.2)) us,λ_ s'=>∃L H',Inv X Z L H' s'/\Q L H')
abbrev JP:=V->V->(7,Hp,VK)
def JQ(X:Cx)(op:Operator)(t:JP):Prop:=
 ∀(Z:#[9])(s:Shared)(σ:St)(H:Hp)(x y:V)(v u:Value)(Q:VK),(11,#[6],RelV x v,RelV y u,t x y H Q,(30,inplaceOp op v u,EP X Z σ Q))
section
variable{X:Cx}
def Fe(i:Nat):TG:=λv σ H Q=>Q (σ.set i (some v)) H
theorem ht{x:Str}(hN:X.N.Nodup)(hi:(0,X.N[i]?,x))(hx:Loc X.env.scope x)(S:#[20]:=by first|exact .inl rfl|exact .inr rfl|assumption):PG X (.Name x pos) (Fe i):=by
 intro Z s σ H v u Q I r h;exact wpAny_assign_Name (oY I hN hi hx r (λs' K=>⟨_,H,K,h⟩) S)
def MH:AB:=λvs σ H Q=>vs=[]/\Q σ H
def JR(t:TG)(u:AB):AB:=λvs σ H Q=>∃v r,vs=v::r/\t v σ H λL H'=>u r L H' Q
theorem x9:wA X [] MH:=by
 intro Z s σ H vs us Q I r h;obtain⟨e,h⟩:=h;subst e;cases r;exact assignInOrder_nil ⟨σ,H,I,h⟩
theorem uJ{es:#[4]}{t:TG}{u:AB}(h1:PG X e t)(h2:wA X es u)
(hs:(assignEach (e::es) X.env).map (·.2)=assign e X.env::(assignEach es X.env).map (·.2):=by rfl):wA X (e::es) (JR t u):=by
 intro Z s σ H vs us Q I r h;obtain⟨v,b,O,h⟩:=h;subst O
 cases r with
 |cons r a=>
  rw[hs];refine assignInOrder_cons (bK (h1 Z s σ H _ _ _ I r h) λ_ s1⟨σ1,H1,I1,q1⟩=>?_);exact h2 Z s1 σ1 H1 _ _ Q I1 a q1
inductive JS(K:PySem.W.Frag)(n:Nat)(t:AB)(v:V)(σ:L2.St)(H:Hp)(Q:(7,L2.St,Hp)):Prop
 |mk(a:_)(xs:_):(11,v=.ref a,dg K H a xs,xs.length=n,t xs σ H Q,JS K n t v σ H Q)
theorem wB{es:#[4]}{k:Nat}{t:AB}{n:Nat}(hc:(4,X.calm))(h:wA X es t)
(hn:(assignEach es X.env).length=n:=by rfl)(iT:(2,(assignEach es X.env).findIdx? (·.1)):=by rfl):PG X (.Tuple es k pos) (JS X.K n t):=by
 intro Z s σ H v u Q I r hw;obtain⟨a,xs,O,hq,hl,hw⟩:=hw;subst O;cases r;obtain⟨its,rv,M,hz⟩:=I.tuple hq;refine assign_Tuple_tuple (I.ok.hd hc) M (by simp[hn,<-hl,rv.length]) iT λh' hx=>?_
 have I1:Inv X Z σ H {s with heap:=h'}:=I.kept (t':=s.toks) λb o e=>hx b o (Nat.ne_of_lt (Heap.lt_size e)) e
 exact h Z _ σ H xs _ Q I1 (by simpa using rv) hw
def JT(te:TE)(g:TG):TS:=λD σ H=>te σ H λx H1=>g x σ H1 D.nx
theorem AM{te:TE}{g:TG}(he:PE X e te)(hg:PG X tg g)(hs:swapsWithSole [tg] e pos.line X.env=pure false:=by rfl)(hw:swappedStores [tg] e X.env=pure none:=by rfl)
(h1:(assignEach [tg] X.env).map (·.2)=[assign tg X.env]:=by rfl):PS X (.Assign [tg] e pos) (JT te g):=by
 intro Z s σ H D I h;refine wpAny_Assign_stores (49,he,x,?_) hs hw;rw[2,h1,bK (hg Z s1 σ H1 x v _ I1 r1 q1) λ_ s2 q=>q]
theorem wC{x:Str}{te:TE}{R:Pos}(hN:X.N.Nodup)(hi:(0,X.N[i]?,x))(hx:Loc X.env.scope x)(he:PE X e te)(hs:swapsWith e (some (.Name x R)) pos.line X.env=pure false:=by rfl)(S:#[20]:=by first|exact .inl rfl|exact .inr rfl|assumption):
PS X (.Assign [.Name x R] e pos) (JT te (Fe i)):=by
 intro Z s σ H D I h;refine wpAny_Assign_Name (49,he,y,?_) hs;exact oY I1 hN hi hx r1 (λs2 a=>⟨_,H1,a,q1⟩) S
def MI(i:Nat)(te:TE)(ti:JP):TS:=λD σ H=>∃x,(0,σ[i]?,some x)/\te σ H λy H1=>ti x y H1 λz H2=>D.nx (σ.set i (some z)) H2
theorem AN{x:Str}{te:TE}{op:Operator}{ti:JP}{R:Pos}(hN:X.N.Nodup)(hi:(0,X.N[i]?,x))(hx:Loc X.env.scope x)(he:PE X e te)(ho:JQ X op ti)(S:#[20]:=by first|exact .inl rfl|exact .inr rfl|assumption):
PS X (.AugAssign (.Name x R) op e pos) (MI i te ti):=by
 intro Z s σ H D I h;obtain⟨v,O,h⟩:=h;obtain⟨m,hn,hl⟩:=I.loc
 have fB:qL X.env.scope x:=by rcases hx with k|k;exact .inl k;exact .inr (.inl k)
 obtain⟨u,r,l⟩:=hl i x v hi O fB;refine wpAny_AugAssign_Name ?_;have go:(30,eval e X.env,λw d=>(40,X.A,inplaceOp op u w,λr g=>(40,X.A,storeName X.env x r,λ_=>SP X Z D .next,X.xe,g),X.xe,d)):=by
  rw[0,bK (he Z s σ H _ I h) λw s1⟨y,H1,I1,r1,q1⟩=>?_,bK (ho Z s1 σ H1 v y u w _ I1 r r1 q1) λz s2⟨j,H2,b,r2,q2⟩=>?_]
  exact oY b hN hi hx r2 (λs3 f=>⟨_,H2,f,q2⟩) S
 rcases l with⟨hk,hm⟩|⟨hk,c,hc,a⟩
 ·exact wpAny_loadName_local I.ok.kind hk hn hm go
 ·rcases hk with hk|hk
  ·exact wpAny_loadName_cell I.ok.kind hk hc a go
  ·rcases hx with k|k
   ·have:(0,X.env.scope.names.lookup x,.free):=hk
    rw[k]at this;cases this
   ·have:(0,X.env.scope.names.lookup x,.free):=hk
    rw[k]at this;cases this
def MJ(f:Int->Int->Int):JP:=λx y H Q=>∃i j,(3,x,.int i,y=.int j,Q (.int (f i j)) H)
theorem GK:JQ X .Add (MJ λi j=>i+j):=by
 intro Z s σ H x y v u Q I r1 r2 h;obtain⟨i,j,O,W,q⟩:=h;subst O;subst W;obtain⟨t,rfl⟩:=r1;obtain⟨t',rfl⟩:=r2;exact iadd_int ⟨.int _,H,I.tok _,⟨_,rfl⟩,q⟩
theorem GL:JQ X .Sub (MJ λi j=>i-j):=by
 intro Z s σ H x y v u Q I r1 r2 h;obtain⟨i,j,O,W,q⟩:=h;subst O;subst W;obtain⟨t,rfl⟩:=r1;obtain⟨t',rfl⟩:=r2;exact isub_int ⟨.int _,H,I.tok _,⟨_,rfl⟩,q⟩
end
section
variable{X:Cx}
def GN(c:TT)(F:TS):TS:=λD σ H=>∃W:Nat->(7,St,Hp),(∃m,W m σ H)/\ ∀m σ H,W m σ H->
 c σ H λb H1=>(29,b,∃N:St->(1,Hp),(∀L H',N L H'-> ∃Q,Q<m/\W Q L H')/\F {D with nx:=N,ct:=N,bk:=D.nx} σ H1,D.nx σ H1)
theorem AO{c:Expr}{tc:TT}{F:TS}(hp:PassesOwn (model X.prog X.w) X.A X.env X.xe)(hc:PT X c tc)(hb:qM X body F):PS X (.While c body [] pos) (GN tc F):=by
 intro Z s σ H D I h;obtain⟨W,⟨o,m⟩,j⟩:=h;refine wpAny_While (codeAny_whileLoop (λn s'=>∃L H',Inv X Z L H' s'/\W n L H') ?_ o ⟨σ,H,I,m⟩);rintro n s1⟨σ1,H1,I1,i⟩;refine wpAny_passesOwn hp (bK (hc Z s1 σ1 H1 _ I1 (j n σ1 H1 i)) λb s2⟨H2,a,q2⟩=>?_)
 cases b with
 |true=>
  obtain⟨N,hN,q2⟩:=q2;rw[if_pos rfl];refine wpAny_passesOwn hp (bK (hb Z s2 σ1 H2 _ a q2) λf s3 e=>?_)
  cases f with
  |next=>
   obtain⟨k,A,g,d⟩:=e;obtain⟨Q,hm,l⟩:=hN k A d;exact⟨Q,hm,k,A,g,l⟩
  |cont=>
   obtain⟨k,A,g,d⟩:=e;obtain⟨Q,hm,l⟩:=hN k A d;exact⟨Q,hm,k,A,g,l⟩
  |brk=>exact e
  |ret v=>exact e
 |false=>
  rw[if_neg Bool.false_ne_true];exact wpAny_execs_nil ⟨σ1,H2,a,q2⟩
end
structure It where
 go:(7,Nat,Hp)
 JA:Nat->Hp->(7,V,Hp)
 stop:(7,Nat,Hp)
def fF(X:Cx)(Z:#[9])(H:Hp)(b:Addr):Prop:=
 (3,H b,none,b≠X.env.locals,b∉X.fs/\(b∈X.ex\/X.ey.heap.objs.size<=b)/\(∀x c,(0,X.env.cells.lookup x,c)->c≠b)/\ ∀p∈X.pn++Z,p.1≠b)
theorem Inv.uK{X:Cx}{H':Hp}{b:Addr}(I:#[6])(hb:s.heap.objs.size<=b)(hn:(2,H' b)):fF X Z H' b:=by
 refine⟨hn,Nat.ne_of_gt (Nat.lt_of_lt_of_le I.lt hb),I.Gu hb,.inr (Nat.le_trans I.sz hb),λx c e z=>?_,λp hp z=>?_⟩
 ·obtain⟨v,q⟩:=I.cell x c e
  exact absurd (Nat.lt_of_lt_of_le q.lt (10,z,hb)) (Nat.lt_irrefl _)
 ·exact absurd (Nat.lt_of_lt_of_le (Heap.lt_size (I.pin p hp).1) (10,z,hb)) (Nat.lt_irrefl _)
structure Turn(P:Program)(w:World)(K:PySem.W.Frag)(tg:Expr)(J:It)(fp:List Addr)(it:Addr)(M:(7,Nat,Heap)):Prop where
 mem:it∈fp
 obj:∀i h,M i h-> ∀b∈fp,∃o,(0,h.get? b,o)/\ ∀v,o.data≠ .cell v
 keep:∀i h h',M i h->(∀b∈fp,∀o,(0,h.get? b,o)->(0,h'.get? b,o))->M i h'
 item:∀(X:Cx),(11,X.prog=P,X.w=w,X.K=K,(4,X.calm),∀(i:Nat)(Z:#[9])(s:Shared)(σ:St)(H:Hp)(E:#[8]),(11,#[6],∀b∈fp,fF X Z H b,M i s.heap,J.go i H,wpAny (model P w) X.A (pyNext (.ref it)) (λr s1=>∃u,(0,r,u)/\
   wpAny (model P w) X.A (letOwnedTupleGo tg (.ref it) u) (λ_ s2=>∃x H',Inv X Z σ H' s2/\RelV x u/\J.JA i H x H'/\M (i+1) s2.heap/\ ∀b∈fp,H' b=none) E s1) E s))
 done:∀(X:Cx),(11,X.prog=P,X.w=w,X.K=K,(4,X.calm),∀(i:Nat)(Z:#[9])(s:Shared)(σ:St)(H:Hp)(E:#[8]),(11,#[6],∀b∈fp,fF X Z H b,M i s.heap,J.stop i H,wpAny (model P w) X.A (pyNext (.ref it)) (λr s1=>(2,r)/\Inv X Z σ H s1) E s))
 self:∀(A:Around)(i:Nat)(s:Shared)(Q:#[8])(E:#[8]),M i s.heap->Q (.ref it) s->wpAny (model P w) A (pyIter (.ref it)) Q E s
abbrev TI:=St->Hp->(1,(7,It,Hp))
def MK(X:Cx)(Z:#[9])(σ:St)(tg:Expr)(R:(7,It,Hp))(E:Value)(s2:Shared):Prop:=
 ∃(it:Addr)(fp:List Addr)(M:Nat->(1,Heap))(J:It)(H':Hp),(3,E,.ref it,Inv X Z σ H' s2,Turn X.prog X.w X.K tg J fp it M/\M 0 s2.heap/\(∀b∈fp,fF X Z H' b)/\R J H')
def PI(X:Cx)(tg iter:Expr)(G:TI):Prop:=
 ∀(Z:#[9])(s:Shared)(σ:St)(H:Hp)(R:(7,It,Hp)),#[6]->G σ H R->
  (30,eval iter X.env,λv s1=>(40,X.A,pyIter v,MK X Z σ tg R,X.xe,s1))
theorem x_ {M:Model} {it:Addr} {o:Obj} {n:String} {vs:Array Value} {Q:(18,Unit)} (ho:(0,s.heap.get? it,o)) (hc:o.cls = .type n) (hd:o.data = .fields vs)
 (hn:["enumerate", "zip", "dict_itemiterator", "dict_reverseitemiterator", "odict_iterator", "itertools.zip_longest", "itertools.pairwise"].contains n = false) (B:Q () s):wpAny M A (letOwnedTupleGo tg (.ref it) u) Q E s:=by
  unfold letOwnedTupleGo
  cases tg <;> first
    | exact wpAny_pure B
    | (cases u <;> first
        | exact wpAny_pure B
        | (refine (6,wpAny_load ho ?_)
           rw [hc,hd]
           show wpAny M A (29,["enumerate", "zip", "dict_itemiterator", "dict_reverseitemiterator", "odict_iterator", "itertools.zip_longest", "itertools.pairwise"].contains n && vs[0]? == some (rawInt _),_,_) Q E s
           rw [if_neg (by intro h;rw [hn,Bool.false_and] at h;cases h)]
           exact wpAny_pure B))
def ML(K:PySem.W.Frag)(a:Addr):It:=
 ⟨λi H=>∃xs x,c_ K H a xs/\(0,xs[i]?,x),λi H x H'=>H'=H/\ ∀xs,c_ K H a xs->(0,xs[i]?,x),λi H=>∃xs,c_ K H a xs/\xs.length<=i⟩
def MM(K:PySem.W.Frag)(a:Addr):It:=
 ⟨λi H=>∃xs x,dg K H a xs/\(0,xs[i]?,x),λi H x H'=>H'=H/\ ∀xs,dg K H a xs->(0,xs[i]?,x),λi H=>∃xs,dg K H a xs/\xs.length<=i⟩
def LH(lo:Int)(n:Nat):It:=⟨λi _=>i<n,λi H x H'=>H'=H/\x=.int (lo+i),λi _=>n<=i⟩
theorem zh(a it:Addr):Turn P w K tg (ML K a) [it] it (λi h=>h.IsListIter it a i)where
 mem:=by simp
 obj:=λi h st b hb=>by
  have e:b=it:=by simpa using hb
  subst e;obtain⟨o,e,c,d⟩:=st;rw[1,o,e,λv z=>by rw[d]at z;cases z]
 keep:=λi h h' st k=>st.at λo e=>k it (by simp) o e
 item:=by
  rw[13];obtain⟨xs,x,hq,hx⟩:=hg;obtain⟨its,rv,p,hz⟩:=I.list hq;obtain⟨u,hu,ru⟩:=rv.get hx;obtain⟨D,l,R,j,f4,N⟩:=S it (by simp);refine wpAny_pyNext_list_item st p.isList (x:=u) (by simpa using hu) λh' g sb=>?_
  have I1:Inv X Z σ H {s with heap:=h'}:=I.turned (t':=s.toks) (λb o hb e=>(sb.2 b hb).trans e) D l j f4 N;obtain⟨o,e,c,d⟩:=id g
  rw[1,u,rfl,x_ (s:={s with heap:=h'}) e c d #[2] ⟨x,H,I1,ru,⟨rfl,λys hy=>(10,I.lI hy hq,hx)⟩,g,λb hb=>(S b hb).1⟩]
 done:=by
  rw[13];obtain⟨xs,hq,hx⟩:=hg;obtain⟨its,rv,p,hz⟩:=I.list hq;obtain⟨D,l,R,j,f4,N⟩:=S it (by simp);have hl:=rv.length;exact wpAny_pyNext_list_end (I.ok.hd hc) st p.isList (by simp;omega) λh' F=>⟨rfl,I.turned (t':=s.toks) (λb o hb e=>F b o hb e) D l j f4 N⟩
 self:=λ_ _ _ _ _ st h=>wpAny_pyIter_listiter st h
theorem wD(a it:Addr):Turn P w K tg (MM K a) [it] it (λi h=>h.IsTupleIter it a i)where
 mem:=by simp
 obj:=λi h st b hb=>by
  have e:b=it:=by simpa using hb
  subst e;obtain⟨o,e,c,d⟩:=st;rw[1,o,e,λv z=>by rw[d]at z;cases z]
 keep:=λi h h' st k=>st.at λo e=>k it (by simp) o e
 item:=by
  rw[13];obtain⟨xs,x,hq,hx⟩:=hg;obtain⟨its,rv,p,hz⟩:=I.tuple hq;obtain⟨u,hu,ru⟩:=rv.get hx;obtain⟨D,l,R,j,f4,N⟩:=S it (by simp);refine wpAny_pyNext_tuple_item st (show s.heap.IsTuple a its.toArray from p) (x:=u) (by simpa using hu) λh' g sb=>?_
  have I1:Inv X Z σ H {s with heap:=h'}:=I.turned (t':=s.toks) (λb o hb e=>(sb.2 b hb).trans e) D l j f4 N;obtain⟨o,e,c,d⟩:=id g
  rw[1,u,rfl,x_ (s:={s with heap:=h'}) e c d #[2] ⟨x,H,I1,ru,⟨rfl,λys hy=>(10,I.mV hy hq,hx)⟩,g,λb hb=>(S b hb).1⟩]
 done:=by
  rw[13];obtain⟨xs,hq,hx⟩:=hg;obtain⟨its,rv,p,hz⟩:=I.tuple hq;obtain⟨D,l,R,j,f4,N⟩:=S it (by simp);have hl:=rv.length;exact wpAny_pyNext_tuple_end (I.ok.hd hc) st (show s.heap.IsTuple a its.toArray from p) (by simp;omega) λh' F=>⟨rfl,I.turned (t':=s.toks) (λb o hb e=>F b o hb e) D l j f4 N⟩
 self:=λ_ _ _ _ _ st h=>wpAny_pyIter_tupleiter st h
theorem wF(it:Addr)(lo:Int)(n:Nat):Turn P w K tg (LH lo n) [it] it (λi h=>IsRangeIter h it (lo+(i:Nat)*1) ((n:Int)-(i:Nat)) 1)where
 mem:=by simp
 obj:=λi h st b hb=>by
  have e:b=it:=by simpa using hb
  subst e
  rw[1,_,st,λv z=>by
   have J:Data.fields _=Data.cell v:=z
   cases J]
 keep:=λi h h' st k=>k it (by simp) _ st
 item:=by
  rw[13];obtain⟨D,l,R,j,f4,N⟩:=S it (by simp);have W:=Walks.range (prog:=X.prog) (w:=X.w) (I.ok.hd hc) it lo 1 n;refine W.item i s _ _ hg st λv h' tk hv g kk=>?_
  obtain⟨t,rfl⟩:=hv
  have I1:Inv X Z σ H {s with heap:=h',toks:=tk}:=I.turned (λb o hb e=>kk b o (by simpa using hb) e) D l j f4 N
  refine⟨_,rfl,x_ (s:={s with heap:=h',toks:=tk}) (n:= "range_iterator") g rfl rfl #[2] ⟨.int (lo+i),H,I1,⟨t,?_⟩,⟨rfl,rfl⟩,g,λb hb=>(S b hb).1⟩⟩;rw[Int.mul_one]
 done:=by
  rw[13];obtain⟨D,l,R,j,f4,N⟩:=S it (by simp);exact wpAny_pyNext_range_end (I.ok.hd hc) st (by have:n<=i:=hg;omega) λh' F=>⟨rfl,I.turned (t':=s.toks) (λb o hb e=>F b o hb e) D l j f4 N⟩
 self:=λ_ _ _ _ _ st h=>wpAny_pyIter_rangeiter st h
section
variable{X:Cx}
def JU(K:PySem.W.Frag)(S:TE):TI:=λσ H R=>S σ H λx H1=>∃a,(3,x,.ref a,∃xs,c_ K H1 a xs,R (ML K a) H1)
def MN(K:PySem.W.Frag)(S:TE):TI:=λσ H R=>S σ H λx H1=>∃a,(3,x,.ref a,∃xs,dg K H1 a xs,R (MM K a) H1)
theorem f3{l:Expr}{S:TE}(hl:PE X l S):PI X tg l (JU X.K S):=by
 intro Z s σ H R I h;refine(49,hl,x,?_)
 obtain⟨a,e,⟨xs,hq⟩,q⟩:=q1;subst e;cases r1;obtain⟨its,rv,p,hz⟩:=I1.list hq;rw[0,wpAny_pyIter_list p.isList ?_,⟨s1.heap.objs.size,[s1.heap.objs.size],_,_,H1,rfl,I1.kept (t':=s1.toks) λb o e=>(22,e),zh a _,⟨_,#[15],rfl,rfl⟩,λb hb=>?_,q⟩];have e:b=s1.heap.objs.size:=by simpa using hb
 subst e;exact I1.uK (Nat.le_refl _) (I1.bH.fresh (Nat.le_refl _))
theorem AQ{l:Expr}{S:TE}(hl:PE X l S):PI X tg l (MN X.K S):=by
 intro Z s σ H R I h;refine(49,hl,x,?_)
 obtain⟨a,e,⟨xs,hq⟩,q⟩:=q1;subst e;cases r1;obtain⟨its,rv,p,hz⟩:=I1.tuple hq;rw[0,wpAny_pyIter_tuple (show s1.heap.IsTuple a its.toArray from p) ?_,⟨s1.heap.objs.size,[s1.heap.objs.size],_,_,H1,rfl,I1.kept (t':=s1.toks) λb o e=>(22,e),wD a _,⟨_,#[15],rfl,rfl⟩,λb hb=>?_,q⟩];have e:b=s1.heap.objs.size:=by simpa using hb
 subst e;exact I1.uK (Nat.le_refl _) (I1.bH.fresh (Nat.le_refl _))
theorem AR{R:(7,It,Hp)}{lo hi:Int}{t u v:Tok}{tk:Nat}(I:#[6])(h1: -(2^62)<=lo)(h2:lo<2^62)(J: -(2^62)<=hi)(h4:hi<2^62)
(q:R (LH lo (hi-lo).toNat) H):(40,X.A,pyIter #[14],MK X Z σ tg R,E,{s with heap:=s.heap.push {cls:=.type "range",data:=.fields #[.int lo t,.int hi u,.int 1 v]},toks:=tk}):=by
 refine wpAny_pyIter_range (IsRange.new ..) (small_one h1 h2 J h4) ?_
 have I1:Inv X Z σ H {s with heap:=s.heap.push {cls:=.type "range",data:=.fields #[.int lo t,.int hi u,.int 1 v]},toks:=tk}:=I.kept λb o e=>(22,e)
 refine⟨(s.heap.push {cls:=.type "range",data:=.fields #[.int lo t,.int hi u,.int 1 v]}).objs.size,[(s.heap.push {cls:=.type "range",data:=.fields #[.int lo t,.int hi u,.int 1 v]}).objs.size],_,_,H,rfl,
  I1.kept (t':=tk) λb o e=>(22,e),wF _ lo (hi-lo).toNat,?_,λb hb=>?_,q⟩
 ·have O:lo+((0:Nat):Int)*1=lo:=by simp
  have W:(((hi-lo).toNat:Nat):Int)-((0:Nat):Int)=Builtin.Range.rangeSize lo hi 1:=by rw[rangeSize_one];split<;>omega
  show IsRangeIter _ _ (lo+((0:Nat):Int)*1) ((((hi-lo).toNat:Nat):Int)-((0:Nat):Int)) 1
  rw[O,W];exact Heap.get?_push_size _ rfl
 ·have e:b=(s.heap.push {cls:=.type "range",data:=.fields #[.int lo t,.int hi u,.int 1 v]}).objs.size:=by simpa using hb
  subst e;exact I1.uK (Nat.le_refl _) (I1.bH.fresh (Nat.le_refl _))
def JV(B:TA):TI:=λσ H R=>B σ H λvs H1=>∃j:Int,(3,vs,[.int j],-(2^62)<=j,j<2^62/\R (LH 0 j.toNat) H1)
theorem zj{a:Expr}{B:TA}{p:Pos}(hg:Gl X "range")(hm:(2,X.mg "range"))(ha:PA X [a] B)(hs:starEach [a] X.env=[(false,eval a X.env)]:=by rfl):PI X tg (.Call (.Name "range" p) [a] [] pos) (JV B):=by
 intro Z s σ H R I h;refine Call_ (mU I hg hm boot_range (PyProof.Rows.callWith_type1 (bK (ha pos Z s σ H _ I h) λus s1⟨vs,H1,I1,r1,q1⟩=>?_) hs rfl));obtain⟨j,e,q1,q2,q⟩:=q1;subst e
 cases r1 with
 |cons r b=>
  cases b;obtain⟨t,rfl⟩:=r;exact call_range_1 (AR I1 #[3] #[3] q1 q2 (by simpa using q))
def MO(G:TI)(g:TG)(F:TS):TS:=λD σ H=>G σ H λJ H1=>∃W:Nat->Nat->St->(1,Hp),(∃m,W 0 m σ H1)/\ ∀i m σ H,W i m σ H->
 (J.stop i H/\D.nx σ H)\/(J.go i H/\ ∃N:St->(1,Hp),(∀L H',N L H'-> ∃Q,Q<m/\W (i+1) Q L H')/\ ∀x H',J.JA i H x H'->g x σ H' λf H2=>F {D with nx:=N,ct:=N,bk:=D.nx} f H2)
def mX(fp:List Addr)(h:Heap):#[9]:=fp.filterMap λb=>(h.get? b).map λo=>(b,o)
theorem cX{fp:List Addr}{b:Addr}{o:Obj}(hb:b∈fp)(e:(0,h.get? b,o)):(b,o)∈mX fp h:=List.mem_filterMap.mpr ⟨b,hb,by rw[e];rfl⟩
theorem zk{fp:List Addr}{p:Addr×Obj}(hp:p∈mX fp h):p.1∈fp/\(0,h.get? p.1,p.2):=by
 obtain⟨b,hb,e⟩:=List.mem_filterMap.mp hp
 cases q:h.get? b with
 |none=>rw[6,q]
 |some o=>
  rw[q]at e;have M:(b,o)=p:=Option.some.inj e;subst M;rw[3,hb,q]
theorem Inv.pinned{fp:List Addr}(I:#[6])(S:∀b∈fp,fF X Z H b)(ho:∀b∈fp,∃o,(0,s.heap.get? b,o)/\ ∀v,o.data≠ .cell v):Inv X (Z++mX fp s.heap) σ H s:=
 I.hj λp hp=>(List.mem_append.mp hp).elim (λz=>(42,I.pin,p,z)) λz=>by
  obtain⟨hb,e⟩:=zk z;obtain⟨D,l,R,_⟩:=S p.1 hb;obtain⟨o,M,d⟩:=ho p.1 hb;rw[e]at M;cases M;rw[4,e,D,l,R,d]
theorem Inv.fG{pl:#[9]}(I:Inv X (Z++pl) σ H s):#[6]:=I.hj λp hp=>(42,I.pin,p,List.mem_append_left _ hp)
theorem mY{iter:Expr}{G:TI}{g:TG}{F:TS}(hp:PassesOwn (model X.prog X.w) X.A X.env X.xe)(hc:(4,X.calm))(hi:PI X tg iter G)(hg:PG X tg g)(hb:qM X body F)
(hs:(43,iter):=by intro _;rfl):PS X (.For tg iter body [] pos) (MO G g F):=by
 intro Z s σ H D I h;refine wpAny_For (bK (hi Z s σ H _ I h) λv s1 h1=>bK h1 λE s2 h2=>?_) hs;obtain⟨it,fp,M,J,H2,e,a,T,P,R,W,⟨m0,w0⟩,j⟩:=h2;subst e;have oZ:∀{H':Hp},(∀b∈fp,H' b=none)-> ∀b∈fp,fF X Z H' b:=λhn b hb=>⟨hn b hb,(R b hb).2⟩
 refine codeAny_forLoop_any (λn s'=>∃i L H',Inv X Z L H' s'/\M i s'.heap/\(∀b∈fp,H' b=none)/\W i n L H') ?_ m0 ⟨0,σ,H2,a,P,λb hb=>(R b hb).1,w0⟩;rintro n s3⟨i,k,A,c,Ff,Fh,l⟩
 rcases j i n k A l with⟨stop,qn⟩|⟨go,N,hN,step⟩
 ·refine wpAny_passesOwn hp (bK (T.done X rfl rfl rfl hc i Z s3 k A X.xe c (oZ Fh) Ff stop) λr s4⟨hr,t⟩=>?_)
  subst hr;exact wpAny_execs_nil ⟨k,A,t,qn⟩
 ·refine wpAny_passesOwn hp (bK (T.item X rfl rfl rfl hc i Z s3 k A X.xe c (oZ Fh) Ff go) λr s4⟨u,hr,h4⟩=>?_)
  subst hr;refine wpAny_passesOwn hp (bK h4 λ_ V⟨x,w,K,r5,y5,AS,JW⟩=>?_);have JX:=K.pinned (oZ JW) (T.obj _ _ AS);rw[0,wpAny_passesOwn hp (bK (hg _ V k w x u _ JX r5 (step x w y5)) λ_ s6⟨S,O,C,U⟩=>?_),wpAny_passesOwn hp (bK (hb _ s6 S O _ C U) λf B y=>?_)];have again:∀{z:St}{p:Hp},Inv X (Z++mX fp V.heap) z p B->N z p-> ∃m,m<n/\ ∃i L H',Inv X Z L H' B/\M i B.heap/\(∀b∈fp,H' b=none)/\W i m L H':=λ{z p}q n7=>by
   obtain⟨Q,hm,w7⟩:=hN z p n7;refine⟨Q,hm,i+1,z,p,q.fG,T.keep _ _ _ AS λb hb o e=>(42,q.pin,(b,o),List.mem_append_right _ (cX hb e)).1,λb hb=>?_,w7⟩;obtain⟨o,e,d⟩:=T.obj _ _ AS b hb;exact(42,q.pin,(b,o),List.mem_append_right _ (cX hb e)).2.1
  cases f with
  |next=>obtain⟨z,p,q,n7⟩:=y;exact again q n7
  |cont=>obtain⟨z,p,q,n7⟩:=y;exact again q n7
  |brk=>obtain⟨z,p,q,y⟩:=y;exact⟨z,p,q.fG,y⟩
  |ret v=>obtain⟨x7,z,p,q,r7,y⟩:=y;exact⟨x7,z,p,q.fG,r7,y⟩
end
abbrev R2:=V->V->(7,Hp,VK)
def f5(X:Cx)(f:Value->Value->Sem Value)(r:R2):Prop:=
 ∀(Z:#[9])(s:Shared)(σ:St)(H:Hp)(x y:V)(v u:Value)(Q:VK),(11,#[6],RelV x v,RelV y u,r x y H Q,(30,f v u,EP X Z σ Q))
def eZ(X:Cx)(f:Value)(r:List V->Hp->(1,VK)):Prop:=
 ∀(Z:#[9])(s:Shared)(σ:St)(H:Hp)(xs:List V)(us:#[5])(Q:VK),#[6]->Vals xs us->r xs H Q->
  (30,call f us,EP X Z σ Q)
def MP(X:Cx)(r:V->Hp->(1,(7,Bool,Hp))):Prop:=
 ∀(Z:#[9])(s:Shared)(σ:St)(H:Hp)(x:V)(v:Value)(Q:(7,Bool,Hp)),#[6]->RelV x v->r x H Q->
  (30,truthy v,TP X Z σ Q)
def GO(r:R2)(B F:TE):TE:=λσ H Q=>B σ H λx H1=>F σ H1 λy H2=>r x y H2 Q
inductive rI(C:(7,Int,Int))(g:Int->Int->V)(x:V)(y:V)(H:Hp)(Q:VK):Prop
 |mk(i:_)(j:_):(11,x=.int i,y=.int j,C i j,Q (g i j) H,rI C g x y H Q)
inductive wG(g:Int->Int->V)(x:V)(y:V)(H:Hp)(Q:VK):Prop
 |mk(i:_)(j:_):x=.int i->y=.int j->Q (g i j) H->wG g x y H Q
section
variable{X:Cx}{a b c:Expr}{B F tc:TE}
theorem GP(ha:PE X a B)(hb:PE X b F){R:V->V->(1,Hp)}(I:#[6])
(h:B σ H λx H1=>F σ H1 λy H2=>R x y H2){f:Value->Value->Sem Value}
(S:∀v u s2 x y H2,(11,Inv X Z σ H2 s2,RelV x v,RelV y u,R x y H2,(40,X.A,f v u,Q,X.xe,s2))):
(30,eval a X.env,λv c=>(40,X.A,eval b X.env,λu d=>(40,X.A,f v u,Q,X.xe,d),X.xe,c)):=by
 rw[0,(49,ha,x,?_),bK (hb Z s1 σ H1 _ I1 q1) λu s2⟨y,H2,e,r2,q2⟩=>?_]
 exact S v u s2 x y H2 e r1 r2 q2
theorem AU{op:Operator}{r:R2}(ho:f5 X (binaryOp op) r)(ha:PE X a B)(hb:PE X b F):PE X (.BinOp a op b pos) (GO r B F):=by
 intro Z s σ H Q I h;exact wpAny_BinOp (GP ha hb I h λv u s2 x y H2 c L N q=>ho Z s2 σ H2 x y v u Q c L N q)
theorem LI{f:Value->Value->Sem Value}{C:(7,Int,Int)}
(rule:∀(i j:Int)(t u:Tok)(s:Shared)(Q:#[8])(E:#[8]),C i j->Q (.int (g i j) s.toks) {s with toks:=s.toks+1}->wpAny (model X.prog X.w) X.A (f (.int i t) (.int j u)) Q E s):
f5 X f (rI C λi j=>.int (g i j)):=by
 intro Z s σ H x y v u Q I L N h;obtain⟨i,j,rfl,rfl,hc,q⟩:=h;rw[8];obtain⟨t',rfl⟩:=N;exact rule i j t t' s _ _ hc ⟨.int (g i j),H,I.tok _,⟨_,rfl⟩,q⟩
theorem MQ{f:Value->Value->Sem Value}
(rule:∀(i j:Int)(t u:Tok)(s:Shared)(Q:#[8])(E:#[8]),Q (.int (g i j) s.toks) {s with toks:=s.toks+1}->wpAny (model X.prog X.w) X.A (f (.int i t) (.int j u)) Q E s):
f5 X f (wG λi j=>.int (g i j)):=by
 intro Z s σ H x y v u Q I L N h;obtain⟨i,j,rfl,rfl,q⟩:=h;rw[8];obtain⟨t',rfl⟩:=N;exact rule i j t t' s _ _ ⟨.int (g i j),H,I.tok _,⟨_,rfl⟩,q⟩
theorem Dz{f:Value->Value->Sem Value}{g:Int->Int->Bool}
(rule:∀(i j:Int)(t u:Tok)(s:Shared)(Q:#[8])(E:#[8]),Q (.bool (g i j)) s->wpAny (model X.prog X.w) X.A (f (.int i t) (.int j u)) Q E s):
f5 X f (wG λi j=>.bl (g i j)):=by
 intro Z s σ H x y v u Q I L N h;obtain⟨i,j,rfl,rfl,q⟩:=h;rw[8];obtain⟨t',rfl⟩:=N;exact rule i j t t' s _ _ ⟨.bl (g i j),H,I,rfl,q⟩
def GQ(i j:Int):Prop:=0<=j/\j<=1000000/\i.natAbs<2^64
def zl(i j:Int):Prop:=(-(2^64)<i/\i<2^64)\/(-(2^64)<j/\j<2^64)
theorem zl.ok{i j:Int}(h:zl i j):IntMulOk i j:=by
 rcases h with⟨h1,h2⟩|⟨h1,h2⟩
 ·exact .of_left (intBits_le_64 h1 h2)
 ·exact .of_right (intBits_le_64 h1 h2)
theorem GR:f5 X (binaryOp .Add) (wG λi j=>.int (i+j)):=MQ λ_ _ _ _ _ _ _ q=>add_int q
theorem GS:f5 X (binaryOp .Mult) (rI zl λi j=>.int (i*j)):=LI λ_ _ _ _ _ _ _ hc q=>mul_int q hc.ok
theorem GU:f5 X (binaryOp .Mod) (rI (λ_ j=>0<j) λi j=>.int (i%j)):=LI λi j _ _ _ _ _ hc q=>by
 have h1:(0:Int)<j:=hc;exact mod_int' #[3] (10,Int.fmod_eq_emod_of_nonneg i #[3],q)
theorem GV:f5 X (binaryOp .Pow) (rI GQ λi j=>.int (i^j.toNat)):=LI λ_ _ _ _ _ _ _ hc q=>pow_int_small hc.1 hc.2.1 hc.2.2 q
end
def JY:V->V->Bool
 | .bu,.bu=>true| .bu,.int _=>true| .int _,.bu=>true| .bu,.bl _=>true| .bl _,.bu=>true| .bu,.str _=>true| .str _,.bu=>true
 | .int _,.int _=>true| .bl _,.bl _=>true| .str _,.str _=>true| .wu _,.wu _=>true
 | .int _,.str _=>true| .str _,.int _=>true| .bl _,.str _=>true| .str _,.bl _=>true
 |_,_=>false
def TF:R2:=λx y H Q=>(4,JY x y)/\Q (.bl (decide (x=y))) H
def TH:R2:=λx y H Q=>(4,JY x y)/\Q (.bl (!decide (x=y))) H
theorem x'{i j:Int}:decide (V.int i=V.int j)=(i==j):=by
 rw[Bool.eq_iff_iff];simp
theorem AV{i j:Bool}:decide (V.bl i=V.bl j)=(i==j):=by
 rw[Bool.eq_iff_iff];simp
theorem ya{i j:Str}:decide (V.str i=V.str j)=(i==j):=by
 rw[Bool.eq_iff_iff];simp
theorem yb{i j:Array UInt8}:decide (V.wu i=V.wu j)=(i.toList==j.toList):=by
 rw[Bool.eq_iff_iff];cases i;cases j;simp
section
variable{X:Cx}{a b c:Expr}{B F tc:TE}
theorem bN{Q:VK}{k i:Bool}(I:#[6])(q:Q (.bl k) H)(e:k=i):EP X Z σ Q (.bool i) s:=by
 subst e;rw[4,.bl k,H,I,rfl,q]
theorem fk:f5 X (compareOp .Eq) TF:=by
 intro Z s σ H x y v u Q I L N h;obtain⟨hs,q⟩:=h
 cases x with
 |bu=>
  cases L
  cases y with
  |bu=>cases N;exact PySem.EqNone.eq_none_none (bN I q (by simp))
  |bl j=>cases N;exact PySem.EqNone.eq_none_bool (bN I q (by simp))
  |int j=>rw[12,PySem.EqNone.eq_none_int,by simp]
  |str j=>rw[12,PySem.EqNone.eq_none_str,by simp]
  |_=>rw[11,hs]
 |bl i=>
  cases L
  cases y with
  |bu=>cases N;exact PySem.EqNone.eq_bool_none (bN I q (by simp))
  |bl j=>cases N;exact eq_bool (bN I q AV)
  |str j=>rw[12,PySem.EqMixed.eq_bool_str,by simp]
  |_=>rw[11,hs]
 |int i=>
  rw[8]
  cases y with
  |bu=>cases N;exact PySem.EqNone.eq_int_none (bN I q (by simp))
  |int j=>rw[12,eq_int,x']
  |str j=>rw[12,PySem.EqMixed.eq_int_str,by simp]
  |_=>rw[11,hs]
 |str i=>
  rw[8]
  cases y with
  |bu=>cases N;exact PySem.EqNone.eq_str_none (bN I q (by simp))
  |bl j=>cases N;exact PySem.EqMixed.eq_str_bool (bN I q (by simp))
  |int j=>rw[12,PySem.EqMixed.eq_str_int,by simp]
  |str j=>rw[12,eq_str,ya]
  |_=>rw[11,hs]
 |wu i=>
  rw[8]
  cases y with
  |wu j=>rw[12,PySem.W.eq_bytes,yb]
  |_=>rw[11,hs]
 |_=>cases y<;>exact absurd (show(4,false)from hs) Bool.false_ne_true
theorem yc:f5 X (compareOp .NotEq) TH:=by
 intro Z s σ H x y v u Q I L N h;obtain⟨hs,q⟩:=h
 cases x with
 |bu=>
  cases L
  cases y with
  |bu=>cases N;exact PySem.EqNone.ne_none_none (bN I q (by simp))
  |bl j=>cases N;exact PySem.EqNone.ne_none_bool (bN I q (by simp))
  |int j=>rw[12,PySem.EqNone.ne_none_int,by simp]
  |str j=>rw[12,PySem.EqNone.ne_none_str,by simp]
  |_=>rw[11,hs]
 |bl i=>
  cases L
  cases y with
  |bu=>cases N;exact PySem.EqNone.ne_bool_none (bN I q (by simp))
  |bl j=>cases N;exact ne_bool (bN I q (congrArg not AV))
  |str j=>rw[12,PySem.EqMixed.ne_bool_str,by simp]
  |_=>rw[11,hs]
 |int i=>
  rw[8]
  cases y with
  |bu=>cases N;exact PySem.EqNone.ne_int_none (bN I q (by simp))
  |int j=>rw[12,ne_int,congrArg not x']
  |str j=>rw[12,PySem.EqMixed.ne_int_str,by simp]
  |_=>rw[11,hs]
 |str i=>
  rw[8]
  cases y with
  |bu=>cases N;exact PySem.EqNone.ne_str_none (bN I q (by simp))
  |bl j=>cases N;exact PySem.EqMixed.ne_str_bool (bN I q (by simp))
  |int j=>rw[12,PySem.EqMixed.ne_str_int,by simp]
  |str j=>rw[12,ne_str,congrArg not ya]
  |_=>rw[11,hs]
 |wu i=>
  rw[8]
  cases y with
  |wu j=>rw[12,PySem.W.ne_bytes,congrArg not yb]
  |_=>rw[11,hs]
 |_=>cases y<;>exact absurd (show(4,false)from hs) Bool.false_ne_true
theorem i_:f5 X (compareOp .Lt) (wG λi j=>.bl (decide (i<j))):=Dz λ_ _ _ _ _ _ _ q=>lt_int q
theorem dE:f5 X (compareOp .LtE) (wG λi j=>.bl (decide (i<=j))):=Dz λ_ _ _ _ _ _ _ q=>le_int q
theorem Fi:f5 X (compareOp .Gt) (wG λi j=>.bl (decide (j<i))):=Dz λ_ _ _ _ _ _ _ q=>gt_int q
theorem Fj:f5 X (compareOp .GtE) (wG λi j=>.bl (decide (j<=i))):=Dz λ_ _ _ _ _ _ _ q=>ge_int q
theorem sP:f5 X (compareOp .Is) (λx y H Q=>y=.bu/\Q (.bl (decide (x=.bu))) H):=by
 intro Z s σ H x y v u Q I L N h;obtain⟨rfl,q⟩:=h;cases N;refine is_none_gen (bN I q ?_)
 cases x<;>first
  |(cases L;rfl)
  |(rw[8];rfl)
theorem lJ:f5 X (compareOp .IsNot) (λx y H Q=>y=.bu/\Q (.bl (!decide (x=.bu))) H):=by
 intro Z s σ H x y v u Q I L N h;obtain⟨rfl,q⟩:=h;cases N;refine isnot_none_gen (bN I q ?_)
 cases x<;>first
  |(cases L;rfl)
  |(rw[8];rfl)
def isObj:HO->Bool
 | .lst _=>true
 | .ins _ _ _=>true
 |_=>false
theorem aY(b:Expr)(h:op≠ .In:=by decide)(h2:op≠ .NotIn:=by decide):behindInMarks op b=false:=by
 have O:(op==CmpOp.In)=false:=by cases op<;>first|rfl|exact absurd rfl h
 have W:(op==CmpOp.NotIn)=false:=by cases op<;>first|rfl|exact absurd rfl h2
 cases b<;>simp[behindInMarks,O,W]
theorem DA{r:R2}(ho:f5 X (compareOp op) r)(ha:PE X a B)(hb:PE X b F)(hm:behindInMarks op b=false):PE X (.Compare a [op] [b] pos) (GO r B F):=by
 intro Z s σ H Q I h;exact wpAny_Compare1 (GP ha hb I h λv u s2 x y H2 c L N q=>ho Z s2 σ H2 x y v u Q c L N q) hm
def AW(t:TE):TT:=λσ H Q=>t σ H λx H'=>∃k,x=.bl k/\Q k H'
theorem yd{r:R2}(ho:f5 X (compareOp op) r)(ha:PE X a B)(hb:PE X b F)(hm:behindInMarks op b=false):PT X (.Compare a [op] [b] pos) (AW (GO r B F)):=by
 intro Z s σ H Q I h
 refine wpAny_isTrue_Compare1 (49,ha,x,bK (hb Z s1 σ H1 _ I1 q1) λu s2⟨y,H2,d,r2,q2⟩=>
  bK (ho Z s2 σ H2 x y v u _ d r1 r2 q2) λc s3⟨z,A,f,i,k,e,g⟩=>?_) hm
 subst e;cases i;exact wpAny_truthy_bool ⟨A,f,g⟩
def AX(r r':R2)(B F tc:TE):TE:=λσ H Q=>B σ H λx H1=>F σ H1 λy H2=>r x y H2 λz A=>∃k,z=.bl k/\
 (29,k,tc σ A λt a=>r' y t a Q,Q (.bl false) A)
theorem AY{g:CmpOp}{r r':R2}(ho:f5 X (compareOp op) r)(f:f5 X (compareOp g) r')(ha:PE X a B)(hb:PE X b F)(hc:PE X c tc)
(hm:lastMarks [op,g] [b,c]=false:=by with_unfolding_all rfl):PT X (.Compare a [op,g] [b,c] pos) (AW (AX r r' B F tc)):=by
 intro Z s σ H Q I h
 refine isTrue_chain (49,ha,x,test_link (bK (hb Z s1 σ H1 _ I1 q1) λu s2⟨y,H2,l,r2,q2⟩=>
  bK (ho Z s2 σ H2 x y v u _ l r1 r2 q2) λd s3⟨z,A,n,o,k,e,m⟩=>?_)) hm
 subst e;cases o;refine wpAny_truthy_bool ?_
 cases k with
 |false=>
  obtain⟨i,M,q'⟩:=m;cases M;exact ite_ff ⟨A,n,q'⟩
 |true=>
  refine ite_tt (test_last (bK (hc Z s3 σ A _ n m) λt s4⟨J,C,q,p,D⟩=>bK (f Z s4 σ C y J u t _ q r2 p D) λd' V⟨j,w,K,r5,k2,W,E⟩=>?_));subst W;cases r5;exact wpAny_truthy_bool ⟨w,K,E⟩
def JZ(K:PySem.W.Frag)(x:V)(H:Hp)(k:Bool):Prop:=
 match x with
 | .bu=>k=false
 | .bl b=>k=b
 | .int i=>k=(i !=0)
 | .str y=>(8,y.length)/\k=((y.length:Int) !=0)
 | .wu y=>(8,y.size)/\k=((y.size:Int) !=0)
 | .ref p=>(∃xs,c_ K H p xs/\k= !xs.isEmpty)\/(∃xs,dg K H p xs/\k= !xs.isEmpty)\/ ∃kvs,(0,H p,.dK kvs)/\k= !kvs.isEmpty
 |_=>False
theorem wH{κ:Type}{kvs:(5,κ,V)}{vs:(5,κ,Value)}(r:KV kvs vs):(!vs.isEmpty)= !kvs.isEmpty:=by
 cases r<;>rfl
theorem o2{xs:List V}{its:#[5]}(r:Vals xs its):(!its.toArray.isEmpty)= !xs.isEmpty:=by
 cases r<;>simp
theorem mZ:(sizeLine:Nat)<2^63:=by rw[sizeLine_eq];decide
theorem GW:MP X (λx H Q=>∃k,JZ X.K x H k/\Q k H):=by
 intro Z s σ H x v Q I L h;obtain⟨k,e,q⟩:=h;have hl:=mZ;have hs:sizeLine=16777216:=sizeLine_eq
 cases x with
 |bu=>
  cases L;have M:k=false:=e;subst M;exact truthy_none ⟨H,I,q⟩
 |bl b=>
  cases L;have M:k=b:=e;subst M;exact wpAny_truthy_bool ⟨H,I,q⟩
 |int i=>
  rw[8];have M:k=(i !=0):=e;subst M;exact PySem.P.truthy_int ⟨H,I,q⟩
 |str y=>
  rw[8];obtain⟨hy,M⟩:(8,y.length)/\k=((y.length:Int) !=0):=e;subst M;exact PySem.P.truthy_str #[3] ⟨H,I.tok _,q⟩
 |wu y=>
  rw[8];obtain⟨hy,M⟩:(8,y.size)/\k=((y.size:Int) !=0):=e;subst M;exact PySem.W.truthy_bytes #[3] ⟨H,I.tok _,q⟩
 |ref p=>
  cases L;have M:(∃xs,c_ X.K H p xs/\k= !xs.isEmpty)\/(∃xs,dg X.K H p xs/\k= !xs.isEmpty)\/ ∃kvs,(0,H p,.dK kvs)/\k= !kvs.isEmpty:=e
  rcases M with⟨xs,hx,M⟩|⟨xs,hx,M⟩|⟨kvs,hx,M⟩
  ·subst M
   obtain⟨its,r,pl,hz⟩:=I.list hx;have a:=r.length;exact wpAny_truthy_list pl.isList (by simp only[List.size_toArray];omega) ⟨H,I.tok _,(10,o2 r,q)⟩
  ·subst M
   obtain⟨its,r,pl,hz⟩:=I.tuple hx;have a:=r.length;exact truthy_tuple pl (by simp only[List.size_toArray];omega) ⟨H,I.tok _,(10,o2 r,q)⟩
  ·subst M
   obtain⟨hz,C,vs,r,m⟩:(8,kvs.length)/\(p==sysModules)=false/\ ∃vs,KV kvs vs/\s.heap.DictOf (bx X.prog X.w) p vs:=I.bH p _ hx;have a:kvs.length=vs.length:=Paired.length r;exact wpAny_truthy_dict C m #[3] ⟨H,I.tok _,(10,wH r,q)⟩
 |_=>exact(show False from e).elim
theorem AZ(ha:PE X a B)(he:∀b,isTrue a X.env b=(do let v<-b;standAt a.pos;holding [v] (truthy v))):
PT X a (λσ H Q=>B σ H λx H'=>∃k,JZ X.K x H' k/\Q k H'):=by
 intro Z s σ H Q I h;exact isTrue_plain (49,ha,x,GW Z s1 σ H1 x v Q I1 r1 q1) (he _)
theorem wI:f5 X (binaryOp .Add) (λx y H Q=>∃i j,(3,x,.str i,y=.str j,(8,i.length+j.length)/\Q (.str (i++j)) H)):=by
 intro Z s σ H x y v u Q I L N h;obtain⟨i,j,rfl,rfl,hz,q⟩:=h;rw[8];obtain⟨t',rfl⟩:=N;exact add_str (λt' tk=>⟨.str (i++j),H,I.tok _,⟨_,rfl⟩,q⟩) hz
theorem vals1{x:V}(r:Vals [x] us):∃u,us=[u]/\RelV x u:=by
 cases r with
 |cons r1 r2=>cases r2;rw[1,_,rfl,r1]
theorem vals2{x y:V}(r:Vals [x,y] us):∃u t,(3,us,[u,t],RelV x u,RelV y t):=by
 cases r with
 |cons r1 r2=>
  cases r2 with
  |cons i p=>cases p;rw[4,_,_,rfl,r1,i]
theorem sQ:eZ X (.type "str") (λxs H Q=>∃i,(3,xs,[.int i],i.natAbs.log2<1920,Q (.str (toString i)) H)):=by
 intro Z s σ H xs us Q I r h;obtain⟨i,rfl,hz,q⟩:=h;obtain⟨u,rfl,t,rfl⟩:=vals1 r;exact PySem.P.str_of_int hz ⟨.str _,H,I.tok _,⟨_,rfl⟩,q⟩
end
structure wJ(h:Heap)(x T C:Addr)(Y:#[11]):Prop where
 obj:(0,h.get? x,PySem.W.instObj C T)
 ns:h.Ns1 T Y
 ne:T≠x
theorem zo{T:Addr}(n:h.Ns1 T Y):∃m,(0,h.get? T,m)/\ ∀name,(0,PySem.W.lookIn name m,Y name):=by
 obtain⟨o,es,ep,ho,hd,hk,_,hm⟩:=n;refine⟨o,ho,λname=>?_⟩;have e:=hm name;unfold nsFind findBy at e;rw[<-Array.find?_toList]at e;unfold PySem.W.lookIn;rw[hd];dsimp only
 split
 ·rename_i y q
  rw[q]at e;exact congrArg some e
 ·rename_i q
  rw[q]at e;have a:es.toList.any (·.refKey)=false:=by
   rw[List.any_eq_false];intro y hy;obtain⟨z,t,d⟩:=hk y (Array.mem_toList_iff.mp hy);simp[DictEntry.refKey,d]
  have b:¬(4,es.toList.any (·.refKey)):=(10,a,Bool.false_ne_true)
  rw[2,if_neg b,congrArg some e]
theorem wJ.look{x T:Addr}(I:wJ h x T C Y):∃m,PySem.W.InstAt h x (PySem.W.instObj C T) C (some m)/\ ∀name,(0,PySem.W.lookIn name m,Y name):=
 let⟨m,ho,hl⟩:=zo I.ns
 ⟨m,⟨I.obj,rfl,rfl,ho⟩,hl⟩
section
variable{prog:Program}{x T f:Addr}{name:Str}{v:Value}
theorem get_map{a:Bool}(X:K.In s.heap)(I:wJ s.heap x T C Y)(hg:(4,PySem.W.plainGet K C name))(N:(4,PySem.W.hasDictIn K C))
(ha:(0,PySem.W.findIn K (.ref C) name,none))(hv:(0,Y name,v))(b:(4,PySem.W.handedIn v))(h:Q v {s with toks:=s.toks+1}):
(27,getAttr (.ref x) name a):=by
 obtain⟨m,J,hl⟩:=I.look;exact PySem.W.get_value X J (PySem.W.plainGet_of hg).1 (PySem.W.findObj_own N ha rfl (by rw[hl,hv])) b h
theorem A0{pl:Sem Bool}{Q:(18,Value× #[5])}(X:K.In s.heap)(I:wJ s.heap x T C Y)(hg:(4,PySem.W.plainGet K C name))
(S:(37,C,name,f))(M:(39,f))(hv:(2,Y name))(h:Q (.ref f,[.ref x]) s):
(27,getMethod (.ref x) name pl):=by
 obtain⟨m,J,hl⟩:=I.look;exact PySem.W.method_fn X J (PySem.W.plainGet_of hg).1 (PySem.W.plainGet_of hg).2 S (beq_iff_eq.mp M) (by show(0,(PySem.W.lookIn name m).map (·.isSome),false);rw[hl,hv];rfl) h
theorem DB{ns:#[1]}{Q:(18,Unit)}(X:K.In s.heap)(I:wJ s.heap x T C Y)
(hs:(0,PySem.W.findIn K (.ref C) "__setattr__",some (.builtin "object.__setattr__")))(hp:(4,PySem.W.plainOver K C))(M:(0,PySem.W.takerIn K C name,none))(N:(4,PySem.W.hasDictIn K C))
(hw:PySem.Within Y ns)(hsz:(8,ns.length))
(h:∀h',wJ h' x T C (λy=>if y=name then some v else Y y)->Heap.SameBut T s.heap h'->Q () {s with heap:=h',toks:=s.toks+2}):
(27,setAttr (.ref x) name v):=by
 obtain⟨m,J,hl⟩:=I.look
 refine PySem.W.set_plain X J hs (PySem.W.osa_open (s:={s with toks:=s.toks+1}) (r:=none) X J hp M λb=>?_);obtain⟨cd,hc,c⟩:=PySem.W.any_some N;have hx:(0,s.heap.get? x,⟨.ref C,some T,.plain,#[]⟩):=I.obj
 refine wpAny_bind (wpAny_pure (wpAny_bind (wpAny_bind (wpAny_loadPart hx (wpAny_bind (PySem.W.Looks.here (s:={s with toks:=s.toks+1}) (PySem.W.looks_clsIn X hc) ?_))))));rw[c];rw[0,wpAny_pure (a:=some T) (wpAny_bind (wpAny_pure (6,?_))),wpAny_nsSet1 (s:={s with toks:=s.toks+1}) I.ns λh' t d=>?_]
 obtain⟨G,i,j,g,e,f⟩:=t.count (PySem.Within.cons name v hw);refine(6,wpAny_lookBehind g (by rw[e];exact pastItsLine_dict (Nat.le_trans f (by rw[List.length_cons];omega))) ?_);exact wpAny_pure (h _ ⟨(d.2 _ (Ne.symm I.ne)).trans I.obj,t,I.ne⟩ d)
theorem A1{vs:#[5]}(X:K.In s.heap)(hm:(4,PySem.W.makesIn K C))
(hi:(37,C,"__init__",f))(S:(0,PySem.W.typeIn K (.ref f),.type "function"))
(h:codeAny (model prog w) (A.under (.builtin "type.__call__" ⟨.ref C::vs,kw⟩)) (.call (.ref f) ⟨.ref #[16]::vs,kw⟩) (PySem.W.InitBack #[16] R)
 {s with heap:=(s.heap.push PySem.W.emptyDict).push (PySem.W.instObj C s.heap.objs.size)}):
codeAny (model prog w) A (.call (.ref C) ⟨vs,kw⟩) R s:=by
 obtain⟨N,g,d,t,os⟩:=s;exact PySem.W.make_core (PySem.W.makes_of X hm) (PySem.W.looks_findIn X hi) (λself=>PySem.W.bind_fn X self S) (.inl rfl) h
end
def hA(f:Str)(v:V):(5,Str,V)->(5,Str,V)
 |[]=>[(f,v)]
 |(g,x)::r=>if g=f then(g,v)::r else(g,x)::hA f v r
theorem n8(f g:Str)(v:V):∀fs:(5,Str,V),(hA f v fs).lookup g=if g=f then some v else fs.lookup g
 |[]=>by
  show List.lookup g [(f,v)]=_
  by_cases h:g=f
  ·have hb:(4,g==f):=beq_iff_eq.mpr h
   simp only[List.lookup,hb,if_pos h]
  ·have hb:(g==f)=false:=beq_eq_false_iff_ne.mpr h
   simp only[List.lookup,hb,if_neg h]
 |(k,x)::r=>by
  have ih:=n8 f g v r;rw[show hA f v ((k,x)::r)=(if k=f then(k,v)::r else(k,x)::hA f v r)from rfl]
  by_cases hk:k=f
  ·rw[if_pos hk]
   by_cases h:g=k
   ·have hb:(4,g==k):=beq_iff_eq.mpr h
    simp only[List.lookup,hb,if_pos (h.trans hk)]
   ·have hb:(g==k)=false:=beq_eq_false_iff_ne.mpr h
    simp only[List.lookup,hb,if_neg (λe:g=f=>h (e.trans hk.symm))]
  ·rw[if_neg hk]
   by_cases h:g=k
   ·have hb:(4,g==k):=beq_iff_eq.mpr h
    simp only[List.lookup,hb,if_neg (λe:g=f=>hk (h.symm.trans e))]
   ·have hb:(g==k)=false:=beq_eq_false_iff_ne.mpr h
    simp only[List.lookup,hb];exact ih
theorem m1(f:Str)(v:V):∀fs:(5,Str,V),f∈(hA f v fs).map (·.1)/\ ∀g,g∈fs.map (·.1)->g∈(hA f v fs).map (·.1)
 |[]=>⟨by simp[hA],λg h=>by simp at h⟩
 |(k,x)::r=>by
  obtain⟨i1,i2⟩:=m1 f v r;rw[show hA f v ((k,x)::r)=(if k=f then(k,v)::r else(k,x)::hA f v r)from rfl]
  by_cases hk:k=f
  ·rw[if_pos hk]
   subst hk;rw[3,by simp,λg h=>by simpa using h]
  ·rw[if_neg hk]
   refine⟨?_,λg h=>?_⟩
   ·rw[2,List.map_cons,List.mem_cons_of_mem _ i1]
   ·rw[List.map_cons]at h⊢
    rcases List.mem_cons.mp h with e|e
    ·exact List.mem_cons.mpr (.inl e)
    ·exact List.mem_cons_of_mem _ (i2 g e)
theorem n9(f:Str)(v:V):∀fs:(5,Str,V),(hA f v fs).length<=fs.length+1
 |[]=>by simp[hA]
 |(k,x)::r=>by
  have ih:=n9 f v r;rw[show hA f v ((k,x)::r)=(if k=f then(k,v)::r else(k,x)::hA f v r)from rfl]
  by_cases hk:k=f
  ·rw[if_pos hk,List.length_cons,List.length_cons];omega
  ·rw[if_neg hk,List.length_cons,List.length_cons];omega
theorem hh.some_of{v:V}{o:Option Value}(r:hh (some v) o):∃u,(0,o,u)/\RelV v u:=by
 cases o with
 |none=>exact(show False from r).elim
 |some u=>rw[1,u,rfl,r]
theorem hh.none_of{o:Option Value}(r:hh none o):(2,o):=by
 cases o with
 |none=>rfl
 |some u=>exact(show False from r).elim
theorem zp{v:V}(r:RelV v u):(4,PySem.W.handedIn u):=by
 cases v with
 |bu=>cases(show u=Value.none from r);rfl
 |bl b=>cases(show u=Value.bool b from r);rfl
 |int i=>obtain⟨t,e⟩:=(show∃t,u=Value.int i t from r);cases e;rfl
 |str x=>obtain⟨t,e⟩:=(show∃t,u=Value.str x t from r);cases e;rfl
 |wu b=>obtain⟨t,e⟩:=(show∃t,u=Value.bytes b t from r);cases e;rfl
 |Gp b=>obtain⟨t,e⟩:=(show∃t,u=Value.float b t from r);cases e;rfl
 |ref a=>cases(show u=Value.ref a from r);rfl
 |ty n=>cases(show u=Value.type n from r);rfl
section
variable{H':Hp}{h':Heap}{T:Addr}{fs WW:(5,Str,V)}
theorem sR(bH:i6 P w H h)(e:(0,H a,.ins C T fs)):∃Y,wJ h a T C Y/\(∀f,hh (fs.lookup f) (Y f))/\PySem.Within Y (fs.map (·.1))/\fs.length<=1000/\(0,H T,.own a):=by
 obtain⟨d,z,ne,ob,Y,n,r,q⟩:=(show bJ P w H h a (.ins C T fs)from bH a _ e);exact⟨Y,⟨ob,n,ne⟩,r,q,z,d⟩
end
structure qI(K:PySem.W.Frag)(C:Addr):Prop where
 pg:(4,PySem.W.plainGet K C Str.empty)
 hd:(4,PySem.W.hasDictIn K C)
 po:(4,PySem.W.plainOver K C)
 sa:(0,PySem.W.findIn K (.ref C) "__setattr__",some (.builtin "object.__setattr__"))
theorem qI.get(c:qI K C)(f:Str):(4,PySem.W.plainGet K C f):=c.pg
def bS(K:PySem.W.Frag)(C:Addr)(f:Str):Prop:=(0,PySem.W.findIn K (.ref C) f,none)
theorem bS.J0{f:Str}(n:bS K C f):(0,PySem.W.takerIn K C f,none):=by
 unfold PySem.W.takerIn;rw[show(0,PySem.W.findIn K (.ref C) f,none)from n];rfl
structure Con(K:PySem.W.Frag)(C:Addr)(f:Str)(v:V)(u:Value):Prop where
 at_:(0,PySem.W.findIn K (.ref C) f,some u)
 rel:RelV v u
 get:(0,PySem.W.specialIn K u "__get__",none)
 cp:PySem.W.copiedNames.contains f=false
structure Meth(K:PySem.W.Frag)(C:Addr)(m:Str)(f:Addr):Prop where
 at_:(37,C,m,f)
 fn:(39,f)
 kp:(4,keepIn K (.ref f))
section
variable{X:Cx}{T:Addr}{fs:(5,Str,V)}{f:Str}{v:V}
theorem wK{b:Bool}(I:#[6])(e:(0,H a,.ins C T fs))(c:qI X.K C)(n:bS X.K C f)(l:(0,fs.lookup f,v))
(h:∀u s',Inv X Z σ H s'->RelV v u->Q u s'):wpAny (model X.prog X.w) A (getAttr (.ref a) f b) Q E s:=by
 obtain⟨Y,O,r,_,_,_⟩:=sR I.bH e;obtain⟨u,hu,ru⟩:=hh.some_of (v:=v) (o:=Y f) (by rw[<-l];exact r f);exact get_map I.kM O (c.get f) c.hd n hu (zp ru) (h u _ (I.tok _) ru)
theorem fH{m:Str}{g:Addr}{pl:Sem Bool}{Q:(18,Value× #[5])}(I:#[6])(e:(0,H a,.ins C T fs))(c:qI X.K C)(k:Meth X.K C m g)(l:(2,fs.lookup m))
(h:Q (.ref g,[.ref a]) s):wpAny (model X.prog X.w) A (getMethod (.ref a) m pl) Q E s:=by
 obtain⟨Y,O,r,_,_,_⟩:=sR I.bH e;have hn:(2,Y m):=hh.none_of (by rw[<-l];exact r m);exact A0 I.kM O (c.get m) k.at_ k.fn hn h
theorem wL{y:V}{Q:(18,Unit)}(I:#[6])(e:(0,H a,.ins C T fs))(c:qI X.K C)(n:bS X.K C f)(hl:fs.length<1000)(N:RelV y u)
(h:∀s',Inv X Z σ (upd H a (.ins C T (hA f y fs))) s'->Q () s'):wpAny (model X.prog X.w) A (setAttr (.ref a) f u) Q E s:=by
 obtain⟨Y,O,r,G,_,ho⟩:=sR I.bH e;have hz:(8,(fs.map (·.1)).length):=by rw[List.length_map,sizeLine_eq];omega
 refine DB I.kM O c.sa c.po n.J0 c.hd G hz λh' d sb=>h _ ?_
 have hd:∃o,(0,h'.get? T,o):=let⟨o,_,_,M,_⟩:=d.ns;⟨o,M⟩;rw[0,I.write (x:=a) (e:=T) (10,e,True.intro) (.inr ho) (λb q hb z=>(sb.2 b hb).trans z) hd ?_,⟨(10,aI O.ne,ho),?_,O.ne,d.obj,_,d.ns,λg=>?_,λg hg=>?_⟩]
 ·have:=n9 f y fs;omega
 ·show hh ((hA f y fs).lookup g) (if g=f then some u else Y g)
  rw[n8]
  by_cases q:g=f
  ·rw[if_pos q,if_pos q];exact N
  ·rw[if_neg q,if_neg q];exact r g
 ·by_cases q:g=f
  ·rw[2,q,(m1 f y fs).1]
  ·refine(m1 f y fs).2 g (G g λz=>hg ?_)
   show(2,if g=f then some u else Y g)
   rw[2,if_neg q,z]
theorem Inv.made(I:#[6]):Inv X Z σ (upd (upd H s.heap.objs.size (.own #[16])) #[16] (.ins C s.heap.objs.size []))
 {s with heap:=(s.heap.push PySem.W.emptyDict).push (PySem.W.instObj C s.heap.objs.size)}:=by
 have O:(0,(s.heap.push PySem.W.emptyDict).get? s.heap.objs.size,PySem.W.emptyDict):=Heap.get?_push_size s.heap rfl;have W:(0,((s.heap.push PySem.W.emptyDict).push (PySem.W.instObj C s.heap.objs.size)).get? #[16],PySem.W.instObj C s.heap.objs.size):=by
  have:=Heap.get?_push_size (s.heap.push PySem.W.emptyDict) (o:=PySem.W.instObj C s.heap.objs.size) rfl
  rwa [Heap.size_push]at this
 have g:(s.heap.push PySem.W.emptyDict).Ns s.heap.objs.size (λ_=>none):=⟨PySem.W.emptyDict,#[],_,O,rfl,(λe he=>absurd he (by simp)),λ_=>rfl⟩;have I1:=I.laid (a:=s.heap.objs.size) (o:=.own #[16]) (h':=s.heap.push PySem.W.emptyDict) (t':=s.toks) (λb u q=>(22,q)) (Nat.le_refl _) ⟨_,O⟩;refine I1.laid (a:=#[16]) (o:=.ins C s.heap.objs.size []) (t':=s.toks) (λb u q=>(22,q)) (Nat.le_of_eq (Heap.size_push _ _)) ?_;have ne:s.heap.objs.size≠ #[16]:=Nat.ne_of_lt (Nat.lt_succ_self _);refine⟨by rw[aI ne,aM],Nat.zero_le _,ne,W,λ_=>none,(Heap.Ns1.of_empty g).at λo q=>(22,q),λ_=>True.intro,λy hy=>absurd rfl hy⟩
theorem DC{prog:Program}{env:Env}{f:Str}(hb:attributeBase e f env (eval e env)=eval e env)
(h:wpAny (model prog w) A (eval e env) (λo c=>wpAny (model prog w) A (getAttr o f true) Q E c) E s):(27,eval (.Attribute e f pos) env):=
 Attribute_any_ h (by rw[arm_eval_Attribute,hb])
end
def MR(K:PySem.W.Frag)(B:TE)(f:Str):TE:=λσ H Q=>B σ H λx H1=>∃a C T fs v,(3,x,.ref a,(0,H1 a,.ins C T fs),qI K C/\bS K C f/\(0,fs.lookup f,v)/\Q v H1)
def MS(K:PySem.W.Frag)(B tv:TE)(f:Str):TS:=λD σ H=>tv σ H λy H1=>B σ H1 λx H2=>∃a C T fs,(3,x,.ref a,(0,H2 a,.ins C T fs),qI K C/\bS K C f/\fs.length<1000/\
 D.nx σ (upd H2 a (.ins C T (hA f y fs))))
section
variable{X:Cx}{o value:Expr}{f:Str}{R b:Pos}{B tv:TE}
theorem GX(he:PE X e B)(hb:attributeBase e f X.env (eval e X.env)=eval e X.env):PE X (.Attribute e f pos) (MR X.K B f):=by
 intro Z s σ H Q I h;refine DC hb (bK (he Z s σ H _ I h) λu s1⟨x,H1,I1,L,a,C,T,fs,v,ex,ea,c,n,l,q⟩=>?_);subst ex;obtain rfl:u=Value.ref a:=L;exact wK I1 ea c n l λu' s2 d ru=>⟨v,H1,d,ru,q⟩
theorem GY(ha:PE X o B)(hv:PE X value tv)(hs:swapsWith value (some (.Attribute o f R)) pos.line X.env=pure false):PS X (.Assign [.Attribute o f R] value pos) (MS X.K B tv f):=by
 intro Z s σ H D I h;refine plainObj_wpAny_Assign_Attribute (bK (hv Z s σ H _ I h) λu s1⟨y,H1,I1,N,q⟩=>bK (ha Z s1 σ H1 _ I1 q) λp s2⟨x,H2,d,L,a,C,T,fs,ex,ea,c,n,l,q2⟩=>?_) hs;subst ex;obtain rfl:p=Value.ref a:=L;exact wL d ea c n l N λs3 e=>⟨σ,_,e,q2⟩
end
section
variable{X:Cx}{c:Value}{b:Bool}
inductive o5(K:PySem.W.Frag)(H:Hp):(7,V,Value)where
 |bu:o5 K H .bu (.type "NoneType")
 |bl(x:Bool):o5 K H (.bl x) (.type "bool")
 |int(i:Int):o5 K H (.int i) (.type "int")
 |str(x:Str):o5 K H (.str x) (.type "str")
 |Gp(x:UInt64):o5 K H (.Gp x) (.type "float")
 |lst{a:Addr}{xs:List V}(e:(0,H a,.lst xs)):o5 K H (.ref a) (.type "list")
 |cR{a:Addr}{o:Obj}{xs:List V}(e:(0,H a,.cR o (.lst xs))):o5 K H (.ref a) (.type "list")
 |tup{a:Addr}{xs:List V}(e:(0,H a,.tup xs)):o5 K H (.ref a) (.type "tuple")
 |dK{a:Addr}{kvs:(5,Key,V)}(e:(0,H a,.dK kvs)):o5 K H (.ref a) (.type "dict")
 |dT{a:Addr}{kvs:(5,List Key,V)}(e:(0,H a,.dT kvs)):o5 K H (.ref a) (.type "dict")
 |ins{a C T:Addr}{fs:(5,Str,V)}(e:(0,H a,.ins C T fs))(f:qI K C)(ha:(0,PySem.W.findIn K (.ref C) "__class__",some (.builtin "object.__class__")))
   (hn:(0,PySem.W.specialIn K (.builtin "object.__class__") "__get__",some (.builtin "getset_descriptor.__get__")))(htk:(0,PySem.W.takesIn K (.builtin "object.__class__"),true))
   (hm:(0,PySem.W.mroIn K C (.type "object"),true)):o5 K H (.ref a) (.ref C)
end
structure bT(k:Nat)(A:Around):Prop where
 hd:(2,A.handled)
 dp:A.depth+3*k+5<recursionLimit
 un:A.units+16*k+200<cLine
theorem bT.mono{j k:Nat}(r:bT k A)(h:j<=k):bT j A:=⟨r.hd,by have:=r.dp;omega,by have:=r.un;omega⟩
theorem bT.deeper{k:Nat}(r:bT (k+1) A)(env:Env):bT k (A.deeper env):=
 ⟨r.hd,by have:=r.dp;show A.depth+1+3*k+5<_;omega,by have:=r.un;show A.units+3+16*k+200<_;omega⟩
theorem bT.in1{k:Nat}(r:bT (k+1) A):bT k A.in1:=
 ⟨r.hd,by have:=r.dp;show A.depth+3*k+5<_;omega,by have:=r.un;show A.units+1+16*k+200<_;omega⟩
theorem wM:(A.under (.builtin "type.__call__" ⟨.ref C::us,kw⟩)).depth=A.depth+1:=by
 first|rfl|simp[Around.under,Code.weight,Code.isCreation,Code.isGuard,Code.isCaller,Code.frames,Code.isFrame,guardIds]
theorem wN:(A.under (.builtin "type.__call__" ⟨.ref C::us,kw⟩)).units=A.units+1:=by
 first|rfl|simp[Around.under,Code.cUnits,Code.frames,Code.isFrame]
theorem bT.make{k:Nat}(r:bT (k+1) A)(C:Addr)(us:#[5])(kw:(5,Str,Value)):bT k (A.under (.builtin "type.__call__" ⟨.ref C::us,kw⟩)):=
 ⟨r.hd,by have:=r.dp;rw[wM];omega,by have:=r.un;rw[wN];omega⟩
theorem bT.depth{k:Nat}(r:bT k A):A.depth<recursionLimit:=by have:=r.dp;omega
theorem bT.units{k:Nat}(r:bT k A):A.units+64<cLine:=by have:=r.un;omega
def MT:TA:=λ_ H Q=>Q [] H
def A2(B:TE)(tr:TA):TA:=λσ H Q=>B σ H λx H1=>tr σ H1 λxs H2=>Q (x::xs) H2
section
variable{X:Cx}{es:#[4]}{te:TE}{t:TA}
theorem gj:PA X [] MT:=λ_ _ _ _ H Q I h=>Calls.spliced_nil ⟨[],H,I,.nil,h⟩
theorem cZ(ha:PE X e te)(hr:PA X es t)(hs:#[13]:=by rfl):PA X (e::es) (A2 te t):=by
 intro pos Z s σ H Q I h;rw[hs]
 show wpAny _ _ (spliced ((false,eval e X.env)::backTo pos (starEach es X.env))) _ _ s
 refine Calls.spliced_cons (bK (ha Z s σ H _ I h) λu s1⟨x,H1,I1,r1,q1⟩=>?_);exact bK (hr pos Z s1 σ H1 _ I1 q1) λus s2⟨xs,H2,a,r2,q2⟩=>⟨x::xs,H2,a,.cons r1 r2,q2⟩
def MU(t:TA):TE:=λσ H Q=>t σ H λxs H1=>(8,xs.length)/\ ∀p,(2,H1 p)->Q (.ref p) (upd H1 p (.tup xs))
def MV(t:TA):TE:=λσ H Q=>t σ H λxs H1=>(8,xs.length)/\ ∀p,(2,H1 p)->Q (.ref p) (upd H1 p (.lst xs))
theorem GZ{x1}(h:PA X es t):PE X (.Tuple es x1 pos) (MU t):=by
 intro Z s σ H Q I hq;refine wpAny_Tuple_spliced (bK (h pos Z s σ H _ I hq) λus s1⟨xs,H1,I1,r,z,q⟩=>⟨(26,r.length,z),?_⟩);have S:(2,H1 s1.heap.objs.size):=I1.bH.fresh (Nat.le_refl _);refine⟨.ref s1.heap.objs.size,upd H1 s1.heap.objs.size (.tup xs),I1.laid (t':=s1.toks) (λb u e=>(22,e)) (Nat.le_refl _) ?_,rfl,q _ S⟩;exact⟨z,us,r,⟨_,#[15],rfl,_,rfl⟩⟩
theorem G3(h:PA X es t):PE X (.List es pos) (MV t):=by
 intro Z s σ H Q I hq;refine wpAny_List_spliced (bK (h pos Z s σ H _ I hq) λus s1⟨xs,H1,I1,r,z,q⟩=>⟨(26,r.length,z),?_⟩);have S:(2,H1 s1.heap.objs.size):=I1.bH.fresh (Nat.le_refl _);refine⟨.ref s1.heap.objs.size,upd H1 s1.heap.objs.size (.lst xs),I1.laid (t':=s1.toks) (λb u e=>(22,e)) (Nat.le_refl _) ?_,rfl,q _ S⟩;rw[4,z,us,0,r,#[15]]
end
abbrev Sp:=List V->Hp->(7,VK,XK)
abbrev Fl:=(11,List Env,Hp,Shared,XK,#[8])
variable{CX:Fl}
structure m2(P:Program)(w:World)(K:PySem.W.Frag)(mg:#[11])(base:Heap)(A:Around)(outer:List Env)(s:Shared)(H:Hp):Prop where
 frames:(0,A.frames,outer)
 mod:Mod K mg base
 bs:∀b o,(0,base.get? b,o)->(0,s.heap.get? b,o)/\(2,H b)
 x6:base.objs.size<=s.heap.objs.size
 i3:s.heap.FunFrames base outer
 AA:∀b∈qK outer,H b=none
 bH:i6 P w H s.heap
 bare:AllBare s.gens
def CE(outer:List Env)(P:Program)(w:World)(H:Hp)(s:Shared)(Q:VK)(u:Value)(s':Shared):Prop:=
 ∃v H',(3,s'.os,s.os,AllBare s'.gens,Un (qK outer) [] H H' s.heap s'.heap/\i6 P w H' s'.heap/\RelV v u/\Q v H')
def CR(CX:Fl)(outer:List Env)(P:Program)(w:World)(H:Hp)(s:Shared)(Q:VK)(E:XK)(r:Result)(s':Shared):Prop:=
 match r with
 | .ok (.ret u)=>CE outer P w H s Q u s'
 | .ok _=>False
 | .error e=>CX outer H s E e s'
structure aQ(P:Program)(w:World)(K:PySem.W.Frag)(mg:#[11])(base:Heap)(CX:Fl)(k:Nat)(f:Addr)(fd:FuncData)(ps:#[1])(sp:Sp):Prop where
 len:∀vs H Q E,sp vs H Q E->vs.length=ps.length
 run:∀(A:Around)(outer:List Env)(s:Shared)(H:Hp)(i:Args)(us:#[5])(vs:List V)(Q:VK)(E:XK),(11,bT k A,m2 P w K mg base A outer s H,BindsTo s fd i (ps.zip us),Vals vs us,sp vs H Q E->
  codeAny (model P w) A (.call (.ref f) i) (CR CX outer P w H s Q E) s)
theorem aQ.mono{j k:Nat}{f:Addr}{sp:Sp}(F:aQ P w K mg base CX j f fd ps sp)(h:j<=k):
 aQ P w K mg base CX k f fd ps sp:=⟨F.len,λA outer s H i us vs Q E hr=>F.run A outer s H i us vs Q E (hr.mono h)⟩
theorem aQ.imp{k:Nat}{f:Addr}{sp a:Sp}(F:aQ P w K mg base CX k f fd ps sp)
(h:∀vs H Q E,a vs H Q E->sp vs H Q E):aQ P w K mg base CX k f fd ps a:=
 ⟨λvs H Q E q=>F.len vs H Q E (h _ _ _ _ q),λA outer s H i us vs Q E hr he hb hv hs=>F.run A outer s H i us vs Q E hr he hb hv (h _ _ _ _ hs)⟩
theorem m2.make(e:m2 P w K mg base A outer s H)(C:Addr)(us:#[5])(kw:(5,Str,Value)):
 m2 P w K mg base (A.under (.builtin "type.__call__" ⟨.ref C::us,kw⟩)) outer s H:=⟨by first|exact e.frames|(simpa[Around.under,Code.envs,Code.isFrame,pushEnvs]using e.frames),e.mod,e.bs,e.x6,e.i3,e.AA,e.bH,e.bare⟩
theorem m2.in1(e:m2 P w K mg base A outer s H):
 m2 P w K mg base A.in1 outer s H:=⟨e.frames,e.mod,e.bs,e.x6,e.i3,e.AA,e.bH,e.bare⟩
section
variable{X:Cx}{s':Shared}
theorem Inv.wO(I:#[6]):m2 X.prog X.w X.K X.mg X.base X.A X.stack s H:=
 ⟨I.ok.frames,I.ok.mod,I.bs,Nat.le_trans I.ok.x6 I.sz,I.stack,I.oE,I.bH,I.bare⟩
theorem Inv.after{Q:VK}(I:#[6])(h:CE X.stack X.prog X.w H s Q u s'):EP X Z σ Q u s':=by
 obtain⟨v,H',os,bare,un,bH,r,q⟩:=h;obtain⟨N,g,d,t,a⟩:=s';obtain rfl:a=s.os:=os;rw[4,v,H',I.call (h':=N) (g':=g) (d':=d) (t':=t) (ch:=[]) un bH bare (λb z=>absurd z (by simp)),r,q]
end
def Binds(K:PySem.W.Frag)(fd:FuncData)(ps:#[1])(ds:#[5]):Prop:=
 ∀(s:Shared)(us:#[5]),K.In s.heap->(us++ds).length=ps.length->BindsTo s fd ⟨us,[]⟩ (ps.zip (us++ds))
theorem Binds.all(h:∀us:#[5],us.length=ps.length->bindArgs fd ⟨us,[]⟩=pure (ps.zip us)):Binds K fd ps []:=λs us _ hl=>by
 rw[List.append_nil]at hl⊢;exact .of_eq (h us hl)
section
variable{X:Cx}{k:Nat}{f:Addr}{sp:Sp}{dvs:List V}{ds:#[5]}{E:XK}{x m:Str}{p w:Pos}{o:Expr}{es:#[4]}{B:TE}{t:TA}
structure Mk(K:PySem.W.Frag)(C f:Addr):Prop where
 makes:(4,PySem.W.makesIn K C)
 init:(37,C,"__init__",f)
 fn:(39,f)
 kp:(4,keepIn K (.ref C))
end
section
variable{X:Cx}{k:Nat}{f:Addr}{ks:#[1]}{sp:Sp}{E:XK}{x m:Str}{p w W0:Pos}{o:Expr}{es:#[4]}{aZ:List Keyword}{te B:TE}{t tk:TA}{nm:Option Str}
structure MW(K:PySem.W.Frag)(fd:FuncData)(ps ks:#[1])(g:#[5]-> #[5]-> #[5])(gV:List V->List V->List V):Prop where
 to:∀(s:Shared)(us ws:#[5]),K.In s.heap->(g us ws).length=ps.length->BindsTo s fd ⟨us,ks.zip ws⟩ (ps.zip (g us ws))
 rel:∀{vs:List V}{us:#[5]}{zs:List V}{ws:#[5]},Vals vs us->Vals zs ws->Vals (gV vs zs) (g us ws)
variable{g:#[5]-> #[5]-> #[5]}{gV:List V->List V->List V}
end
structure aH(N P:#[1])(a:Scope):Prop where
 kind:a.kind=.function
 co:a.isCoroutine=false
 gen:a.isGenerator=false
 nd:N.Nodup
 pre:N.take P.length=P
 par:∀x∈P,(0,a.names.lookup x,.local)\/(0,a.names.lookup x,.cell)
 G5:∀y∈a.names,y.2≠ .free
theorem rA{kindOf:Str->Option NameKind}{x:Str}:∀{binds:(5,Str,Value)}{m:#[11]},(∀v,(x,v)∉binds)->bindL kindOf binds m x=m x
 |[],_,_=>rfl
 |(n,v)::r,m,h=>by
  unfold bindL;rw[rA λw hw=>h w (List.mem_cons_of_mem _ hw)]
  split
  ·have:x≠n:=by rintro rfl;exact h v List.mem_cons_self
   simp[this]
  ·rfl
theorem rB{kindOf:Str->Option NameKind}{x:Str}:∀{binds:(5,Str,Value)}{m:#[11]},(∀v,(x,v)∉binds)->bindC kindOf binds m x=m x
 |[],_,_=>rfl
 |(n,v)::r,m,h=>by
  unfold bindC;rw[rB λw hw=>h w (List.mem_cons_of_mem _ hw)]
  split
  ·rfl
  ·have:x≠n:=by rintro rfl;exact h v List.mem_cons_self
   simp[this]
theorem rD{kindOf:Str->Option NameKind}{x:Str}{v:Value}:∀{P:#[1]}{vs:#[5]}{i:Nat}{m:#[11]},(11,P.Nodup,(0,P[i]?,x),(0,vs[i]?,v),(0,kindOf x,.local),(0,bindL kindOf (P.zip vs) m x,v))
  |[],_,_,_,_,h,_,_=>by simp at h
  |_::_,[],_,_,_,_,h,_=>by simp at h
  |p::P,w::vs,0,m,nd,h1,h2,hk=>by
    simp at h1 h2;subst h1;subst h2
    show bindL kindOf ((p,w)::P.zip vs) m p=_
    unfold bindL;rw[rA λv hv=>(List.nodup_cons.mp nd).1 (List.of_mem_zip hv).1,if_pos hk];simp
  |p::P,w::vs,i+1,m,nd,h1,h2,hk=>by
    show bindL kindOf ((p,w)::P.zip vs) m x=_
    unfold bindL;exact rD (i:=i) (List.nodup_cons.mp nd).2 (by simpa using h1) (by simpa using h2) hk
theorem rE{kindOf:Str->Option NameKind}{x:Str}{v:Value}:∀{P:#[1]}{vs:#[5]}{i:Nat}{m:#[11]},(11,P.Nodup,(0,P[i]?,x),(0,vs[i]?,v),kindOf x≠some .local,(0,bindC kindOf (P.zip vs) m x,v))
  |[],_,_,_,_,h,_,_=>by simp at h
  |_::_,[],_,_,_,_,h,_=>by simp at h
  |p::P,w::vs,0,m,nd,h1,h2,hk=>by
    simp at h1 h2;subst h1;subst h2
    show bindC kindOf ((p,w)::P.zip vs) m p=_
    unfold bindC;rw[rB λv hv=>(List.nodup_cons.mp nd).1 (List.of_mem_zip hv).1,if_neg hk];simp
  |p::P,w::vs,i+1,m,nd,h1,h2,hk=>by
    show bindC kindOf ((p,w)::P.zip vs) m x=_
    unfold bindC;exact rE (i:=i) (List.nodup_cons.mp nd).2 (by simpa using h1) (by simpa using h2) hk
def start(N:#[1])(vs:List V):St:=vs.map some++List.replicate (N.length-vs.length) none
def gk(CX:Fl)(P:Program)(w:World)(K:PySem.W.Frag)(mg:#[11])(base:Heap)(N:#[1])(g:Str)(U:Scope)(f:Addr)(cd:Value)(A:Around)(outer:List Env)(s:Shared)(H:Hp)(E:XK):Cx where
 prog:=P
 w:=w
 K:=K
 mg:=mg
 base:=base
 A:=A.deeper (envOfC g U s.heap.objs.size f cd)
 N:=N
 ey:=s
 wx:=H
 env:=envOfC g U s.heap.objs.size f cd
 outer:=outer
 stack:=envOfC g U s.heap.objs.size f cd::outer
 ex:=[]
 calm:=true
 fn:=λ_=>true
 pn:=[]
 xe:=λe s'=>wpAny (model P w) (A.deeper (envOfC g U s.heap.objs.size f cd)) (leaving (envOfC g U s.heap.objs.size f cd) e) (λ_ Q=>CX outer H s E e Q) (λM Q=>CX outer H s E M Q) s'
theorem uL{a:Scope}{n:Nat}{x:Str}(h:(0,a.names.lookup x,.cell)):∃c,(0,(cellsFrom n a.names []).lookup x,c):=by
 have q:=PySem.W.cellsFrom_some a.names n [] (.inl h);exact Option.isSome_iff_exists.mp q
theorem zq{g:Str}{U:Scope}{f:Addr}{cd:Value}{s1:Shared}{E:XK}{vs:List V}
(S:aH N ps U)(hd:(2,A.handled))(e0:m2 P w K mg base A outer s H)(hl:vs.length=ps.length)(r:Vals vs us)
(x:InCallC s s.heap.objs.size (bindL (envOfC g U s.heap.objs.size f cd).kindOf (ps.zip us) λ_=>none) (cellsFrom #[16] U.names []) (bindC (envOfC g U s.heap.objs.size f cd).kindOf (ps.zip us) λ_=>none) s1):
Inv (gk CX P w K mg base N g U f cd A outer s H E) [] (start N vs) H s1:=by
 have cU:ps.length<=N.length:=by have:=congrArg List.length S.pre;rw[List.length_take]at this;omega
 obtain⟨h1,tk,rfl,hk⟩:=x.done;have d:∀b:Addr,b∉(gk CX P w K mg base N g U f cd A outer s H E).ex:=λb z=>absurd (show b∈([]:List Addr)from z) (by simp)
 refine⟨⟨e0.mod,S.kind,rfl,rfl,Nat.le_refl _,λy z c h1 h2=>?_,λy hy=>?_,λy c _ h=>?_,λ_=>hd,Around.frames_deeper e0.frames,.inr ⟨rfl,rfl⟩,λb z=>absurd z (d b),e0.bs,e0.x6,λb _ _=>d b,λb z=>absurd z (d b),e0.i3,e0.AA⟩,
  rfl,e0.bare,Un.kept hk,⟨_,x.toInCall.ns,λi y v h1 h2 J=>?_⟩,λy c h=>⟨_,x.cell y c h⟩,e0.bH.fresh (Nat.le_refl _),λy c h=>?_,λp hp=>absurd (show p∈([]:#[9])from hp) (by simp),e0.bH.kept hk,?_⟩
 ·exact name_of_addr x.apart (PySem.mem_of_lookup h1) (PySem.mem_of_lookup h2)
 ·have hy:(0,U.names.lookup y,.cell)\/(0,U.names.lookup y,.free):=hy
  rcases hy with hy|hy
  ·exact uL hy
  ·exact absurd rfl (S.G5 _ (PySem.mem_of_lookup hy))
 ·exact Nat.le_of_lt (x.above y c (PySem.mem_of_lookup h))
 ·have hi:i<vs.length:=by
   unfold start at h2
   by_cases hi:i<vs.length
   ·exact hi
   ·rw[List.getElem?_append_right (by simpa using hi)]at h2
    rw[List.getElem?_replicate]at h2
    split at h2<;>cases h2
  have ha:(0,vs[i]?,v):=by
   unfold start at h2;rw[List.getElem?_append_left (by simpa using hi),List.getElem?_map]at h2
   cases e:vs[i]? with
   |none=>rw[e]at h2;cases h2
   |some a=>rw[e]at h2;cases h2;rfl
  obtain⟨u,hu,rv⟩:=r.get ha;have hp:(0,ps[i]?,y):=by
   rw[<-S.pre,List.getElem?_take_of_lt #[3]];exact h1
  have j:ps.Nodup:=by rw[<-S.pre];exact S.nd.sublist (List.take_sublist _ _)
  refine⟨u,rv,?_⟩
  rcases S.par y (List.mem_of_getElem? hp)with k|k
  ·exact .inl ⟨k,rD j hp hu k⟩
  ·obtain⟨c,e⟩:=uL (n:=#[16]) k
   refine .inr ⟨.inl k,c,e,?_⟩;have q:=x.cell y c e;rw[rE j hp hu (by show U.names.lookup y≠_;rw[k];decide)]at q;exact q
 ·exact e0.bH.fresh (Nat.le_of_lt (x.above y c (PySem.mem_of_lookup h)))
 ·unfold start
  show _=N.length
  rw[List.length_append,List.length_map,List.length_replicate];omega
theorem Fm{k:Nat}{f:Addr}{name g:Str}{a:Arguments}{U:Scope}{dV kV p pm j ct oc:Value}{an m:Option Addr}
 {d:Array (Option Value)}{sp:Sp}(lk:(0,K.lookup f,⟨oc,m,.func (PySem.W.fnOf name g a body U dV kV p pm an j ct),d⟩))(W:(4,codeIn K j g))(S:aH N ps U)
(len:∀vs H Q E,sp vs H Q E->vs.length=ps.length)
(c:∀(A:Around)(outer:List Env)(s:Shared)(H:Hp)(vs:List V)(Q:VK)(E:XK),bT k (A.deeper (envOfC g U s.heap.objs.size f j))->sp vs H Q E->
∃t,qM (gk CX P w K mg base N g U f j A outer s H E) body t/\t {nx:=λ_ H'=>Q .bu H',rt:=Q} (start N vs) H):
aQ P w K mg base CX (k+1) f (PySem.W.fnOf name g a body U dV kV p pm an j ct) ps sp:=by
 refine⟨len,λA outer s H i us vs Q E hr e0 hb r lK=>?_⟩;have hl:=len _ _ _ _ lK;have D:K.In s.heap:=e0.mod.g9.keeps λb o e=>(e0.bs b o e).1
 have l:s.heap.NoLimit:=e0.mod.nolimit.keeps λb o e=>(e0.bs b o e).1
 have h:∀y∈ps.zip us,(0,U.names.lookup y.1,.local)\/((0,U.names.lookup y.1,.cell)/\(4,((cellsFrom #[16] U.names []).lookup y.1).isSome)):=λ⟨n,v⟩hy=>by
  rcases S.par n (List.of_mem_zip hy).1 with q|q
  ·exact .inl q
  ·exact .inr ⟨q,PySem.W.cellsFrom_some _ _ _ (.inl q)⟩
 rw[0,codeAny_call_function hr.depth (D _ _ lk) rfl S.co S.gen rfl (PySem.W.codeRec_of D W) (hb _ _ _ _ ?_),wpAny_newFunctionEnv_cells S.kind h λenv he s1 x=>?_]
 subst he;refine⟨l.keeps x.toInCall.keep,codeAny_func ?_⟩;obtain⟨t,M,hq⟩:=c A outer s H vs Q E (hr.deeper _) lK;have I:Inv (gk CX P w K mg base N g U f j A outer s H E) [] (start N vs) H s1:=zq S hr.hd e0 hl r x;refine wpAny_mono (M [] s1 (start N vs) H _ I hq) (λfl s' hs=>?_) λe s' hs=>hs
 have fin:∀{L:St}{H':Hp}{v:V}{u:Value},Inv (gk CX P w K mg base N g U f j A outer s H E) [] L H' s'->RelV v u->Q v H'->CE outer P w H s Q u s':=
  λ{L H' v u}J rv q=>⟨v,H',J.os,J.bare,J.base,J.bH,rv,q⟩
 cases fl with
 |ret u=>
  obtain⟨v,L,H',J,rv,q⟩:=hs;exact fin J rv q
 |next=>
  obtain⟨L,H',J,q⟩:=hs;exact fin (v:=V.bu) (u:=Value.none) J rfl q
 |brk=>
  obtain⟨_,_,_,q⟩:=hs;exact False.elim q
 |cont=>
  obtain⟨_,_,_,q⟩:=hs;exact False.elim q
section
variable{X:Cx}{x:Str}{p:Pos}{es:#[4]}{t:TA}{id T:String}{r:List V->Hp->(1,VK)}
def LJ(r:List V->Hp->(1,VK))(t:TA):TE:=λσ H Q=>t σ H λvs H1=>r vs H1 Q
theorem o6(hc:eZ X (.builtin id) r)(hg:Gl X x)(hm:(2,X.mg x))(hv:(0,bootBuiltins x,.builtin id))(ha:PA X (e::es) t)(hn:x≠ "__name__":=by decide)(j:(23,x):=by decide)
(he:#[13]:=by rfl)(cU:(28,pos,es):=by rfl):PE X (.Call (.Name x p) (e::es) [] pos) (LJ r t):=by
 intro Z s σ H Q I h;refine wpAny_Call_Name_kw (mU I hg hm hv ?_ hn j);exact PyProof.Rows.callWith_builtin1 (bK (ha pos Z s σ H _ I h) λus s1⟨vs,H1,I1,r1,q1⟩=>hc Z s1 σ H1 vs us Q I1 r1 q1) he cU
theorem jX(hc:eZ X (.type T) r)(hg:Gl X x)(hm:(2,X.mg x))(hv:(0,bootBuiltins x,.type T))(ha:PA X (e::es) t)(hn:x≠ "__name__":=by decide)(j:(23,x):=by decide)
(he:#[13]:=by rfl)(cU:(28,pos,es):=by rfl):PE X (.Call (.Name x p) (e::es) [] pos) (LJ r t):=by
 intro Z s σ H Q I h;refine wpAny_Call_Name_kw (mU I hg hm hv ?_ hn j);exact PyProof.Rows.callWith_type1 (bK (ha pos Z s σ H _ I h) λus s1⟨vs,H1,I1,r1,q1⟩=>hc Z s1 σ H1 vs us Q I1 r1 q1) he cU
end
end L2
namespace HT
open PySem PyProof.Rows
variable{Q:#[8]}{hi lo:Option Int}
def lexLt:List Int->List Int->Bool
 |[],[]=>false
 |[],_::_=>true
 |_::_,[]=>false
 |x::xs,y::ys=>if x=y then lexLt xs ys else decide (x<y)
section
open PySem.SeqAt
open PySem.AutoSeq1 (wpAny_loadPart')
open PySem.MeetsSeq PySem.MeetsSeq2 PySem.MeetsSeq3
end
section
variable{prog:Program}{w:World}{A:Around}{E:#[8]}{s:Shared}
theorem DD{t b:Addr}{vs ws:#[5]}(M:IsTup s.heap t vs.toArray)(hb:IsTup s.heap b ws.toArray)(hv:vs≠[])
(h1:ws=[]->Q (.ref t) s)(h2:ws≠[]->Q #[14] {s with heap:=s.heap.push {cls:=.type "tuple",data:=.seq (vs++ws).toArray}})
(hsz:(8,vs.length+ws.length)):(27,binaryOp .Add (.ref t) (.ref b)):=by
 obtain⟨⟨j,dd,h,sl⟩,ho,hc,n,hd⟩:=id M;obtain⟨⟨i,g,data2,d⟩,c,a,P,f⟩:=id hb;simp only at hc hd a f;subst hc hd a f;have e:vs.toArray++ws.toArray=(vs++ws).toArray:=by simp
 by_cases hw:ws=[]
 ·exact concat_meets ⟨_,ho,rfl⟩ ⟨_,c,rfl⟩ noFill_tuple_add seq_tuple_add PySem.F.slot_tuple_add PySem.F.entry_tuple_add (PySem.F.args_tuple_add_2 _ _)
   (tuple_addW1 t b vs.toArray ws.toArray n P dd g sl d (by simpa using hv) (by simp[hw])) ⟨ho,c,h1 hw⟩
 ·refine concat_meets ⟨_,ho,rfl⟩ ⟨_,c,rfl⟩ noFill_tuple_add seq_tuple_add PySem.F.slot_tuple_add PySem.F.entry_tuple_add (PySem.F.args_tuple_add_2 _ _)
   (tuple_addW2 t b vs.toArray ws.toArray n P dd g sl d (by simpa using hv) (by simpa using hw) (by rw[List.size_toArray,List.size_toArray];exact hsz)) ⟨ho,c,?_⟩
  rw[e];exact h2 hw
def ez(n d:Nat):Option Int->Nat
 |none=>d
 |some v=>if v<0 then(v+(n:Int)).toNat else min v.toNat n
theorem G8(n d:Nat)(hd:d<=n)(o:Option Int):ez n d o<=n:=by
 cases o with
 |none=>exact hd
 |some v=>
  show(if v<0 then(v+(n:Int)).toNat else min v.toNat n)<=n
  by_cases hv:v<0
  ·rw[if_pos hv];omega
  ·rw[2,if_neg hv,Nat.min_le_right _ _]
theorem ye(v:Int)(n d:Nat):(if v<0 then max (v+(n:Int)) 0 else min v (n:Int))=((ez n d (some v):Nat):Int):=by
 show(if v<0 then max (v+(n:Int)) 0 else min v (n:Int))=(((if v<0 then(v+(n:Int)).toNat else min v.toNat n):Nat):Int)
 by_cases hv:v<0
 ·simp only[if_pos hv];omega
 ·simp only[if_neg hv];omega
theorem wQ(lo hi:Option Int)(n:Nat):Builtin.Slice.sliceAdjust lo hi 1 (n:Int)=(((ez n 0 lo:Nat):Int),((ez n n hi:Nat):Int)):=by
 have h1:¬((1:Int)<0):=#[3]
 unfold Builtin.Slice.sliceAdjust;simp only[h1,if_false];refine Prod.ext ?_ ?_
 ·cases lo with
  |none=>rfl
  |some v=>exact ye v n 0
 ·cases hi with
  |none=>rfl
  |some v=>exact ye v n n
theorem wR(i j:Nat):Builtin.Slice.slicePlaces (i:Int) (j:Int) 1=j-i:=by
 unfold Builtin.Slice.slicePlaces;have h1:(1:Int)>0:=#[3]
 simp only[h1,if_true,Int.ediv_one]
 split<;>omega
theorem o7{v:Value}{o:Option Int}{Q:(18,Option Int)}(p:IsPart v o)(h:Q o s):(27,Builtin.Slice.slicePartIndex v):=by
 cases p with
 |none=>exact slicePart_none h
 |int i t=>exact slicePart_int h
theorem m3{sl:Addr}{d f:Value}{n:Nat}{Q:(18,Int×Int×Nat)}(hs:s.heap.IsSliceOf sl d f .none)(pl:IsPart d lo)(i:IsPart f hi)
(h:Q (((ez n 0 lo:Nat):Int),1,ez n n hi-ez n 0 lo) s):(27,Builtin.Slice.sliceApplied (.ref sl) (pure (n:Int))):=by
 obtain⟨os,a,c,b⟩:=id hs;unfold Builtin.Slice.sliceApplied Builtin.Slice.sliceFields;rw[0,wpAny_bind (wpAny_bind (wpAny_field a b (x:=d) rfl (6,wpAny_field a b (x:=f) rfl (6,wpAny_field a b (x:=.none) rfl (wpAny_pure ?_))))),wpAny_bind (slicePart_none ?_)]
 show wpAny _ _ (29,(1:Int)==0,_,_) _ _ s
 rw[if_neg #[2]];refine(6,o7 pl (wpAny_bind (o7 i (wpAny_bind (wpAny_pure ?_)))))
 show wpAny _ _ (match Builtin.Slice.sliceAdjust lo hi 1 (n:Int)with|(lo,hi)=>pure (lo,(1:Int),Builtin.Slice.slicePlaces lo hi 1)) _ _ s
 rw[wQ lo hi n]
 show wpAny _ _ (pure (((ez n 0 lo:Nat):Int),(1:Int),Builtin.Slice.slicePlaces ((ez n 0 lo:Nat):Int) ((ez n n hi:Nat):Int) 1)) _ _ s
 rw[wR];exact wpAny_pure h
theorem A3(xs:Array Value)(i k:Nat):((List.range k).filterMap λ(m:Nat)=>xs[((i:Int)+(m:Int)*1).toNat]?).toArray=((xs.toList.drop i).take k).toArray:=by
 have e:(λ(m:Nat)=>xs[((i:Int)+(m:Int)*1).toNat]?)=λm=>xs[i+m]?:=by
  funext m
  have:((i:Int)+(m:Int)*1).toNat=i+m:=#[3]
  rw[this]
 rw[e];have:=pick_run xs i k;rw[List.filterMap_map]at this;have W:((λx=>xs[x]?)∘λx=>i+x)=λm=>xs[i+m]?:=rfl
 rw[W]at this;rw[this]
theorem lL{t sl:Addr}{items:Array Value}{d f:Value}(M:IsTup s.heap t items)(hs:s.heap.IsSliceOf sl d f .none)(pl:IsPart d lo)(i:IsPart f hi)
(hw:¬(ez items.size 0 lo=0/\ez items.size items.size hi=items.size))
(h:Q #[14] {s with heap:=s.heap.push {cls:=.type "tuple",data:=.seq ((items.toList.drop (ez items.size 0 lo)).take (ez items.size items.size hi-ez items.size 0 lo)).toArray}})
(hsz:(8,items.size)):(27,getItem (.ref t) (.ref sl)):=by
 have e:sizeOk (.seq ((items.toList.drop (ez items.size 0 lo)).take (ez items.size items.size hi-ez items.size 0 lo)).toArray):=by
  show(8,((items.toList.drop (ez items.size 0 lo)).take (ez items.size items.size hi-ez items.size 0 lo)).toArray.size)
  rw[List.size_toArray,List.length_take,List.length_drop,Array.length_toList];omega
 have g:ez items.size items.size hi<=items.size:=G8 _ _ (Nat.le_refl _) hi;obtain⟨os,a,c,b⟩:=id hs;have k:s.TypeIs (.ref sl) "slice":=⟨os,a,c⟩;unfold getItem
 try with_reducible refine wpAny_holding ?_
 first|refine wpAny_bind (wpAny_pure ?_)|skip
 rw[0,(6,wpAny_sequenceKey M.typeIs #[2] ?_),(6,wpAny_callSpecial?_slot (name:=Str.ofString "__getitem__") M.typeIs PyProof.Rows.slot_tuple_getitem
  (wpAny_call_entry PyProof.Rows.slot_tuple_getitem M.typeIs entry_tuple_getitem ?_ (args_tuple_getitem _ _)))]
 show wpAny _ _ (Builtin.Tuple.tupleItemsOf (.ref t)>>=_) _ _ s
 rw[0,(6,tupleItemsOf_ M ?_),(6,wpAny_typeOf k ?_)];rw[if_pos #[2]];refine(6,m3 hs pl i ?_);have j:¬(4,((ez items.size 0 lo:Nat):Int)==0&&(1:Int)==1&&(ez items.size items.size hi-ez items.size 0 lo)==items.size):=by
  intro q;rw[Bool.and_eq_true,Bool.and_eq_true]at q;have q1:((ez items.size 0 lo:Nat):Int)=0:=eq_of_beq q.1.1;have q2:ez items.size items.size hi-ez items.size 0 lo=items.size:=eq_of_beq q.2;exact hw ⟨#[3],#[3]⟩
 show wpAny _ _ (29,((ez items.size 0 lo:Nat):Int)==0&&(1:Int)==1&&(ez items.size items.size hi-ez items.size 0 lo)==items.size,_,_) _ _ s
 rw[if_neg j,A3]
 first
  |exact wpAny_bind (m:=Builtin.Tuple.tupleExact _) (wpAny_newObj_type (wpAny_pure ⟨_,rfl,wpAny_pure h⟩) e)
  |exact wpAny_bind (m:=Builtin.Tuple.tupleExact _) (wpAny_newObj_type (wpAny_bind (wpAny_pure (wpAny_pure ⟨_,rfl,wpAny_pure h⟩))) e)
  |exact wpAny_bind (wpAny_bind (m:=Builtin.Tuple.tupleExact _) (wpAny_newObj_type (wpAny_pure (wpAny_pure ⟨_,rfl,wpAny_pure h⟩)) e))
  |exact wpAny_bind (wpAny_bind (m:=Builtin.Tuple.tupleExact _) (wpAny_newObj_type (wpAny_pure ⟨_,rfl,wpAny_pure h⟩) e))
end
end HT
namespace L2
open PySem PySem.Spec PyProof.Rows
variable{A:Around}{H:Hp}{P:Program}{Q:#[8]}{a:Addr}{its:#[5]}{kvs:(5,List Key,V)}{o:Option V}{Z:#[9]}{r:(11,V,Option Int,Option Int,Hp,(1,VK))}{s:Shared}{u v:Value}{w:World}{xs:(5,List Key,Addr×Value)}{y:V}
abbrev TO:=St->Hp->(1,(7,Option Int,Hp))
def PO(X:Cx)(e:Option Expr)(t:TO):Prop:=
 ∀(Z:#[9])(s:Shared)(σ:St)(H:Hp)(Q:(7,Option Int,Hp)),#[6]->t σ H Q->
  (30,evalPart e X.env,λu s'=>∃o H',Inv X Z σ H' s'/\IsPart u o/\Q o H')
def DE:TO:=λ_ H Q=>Q none H
def J1(t:TE):TO:=λσ H Q=>t σ H λx H1=>∃i,x=.int i/\Q (some i) H1
section
variable{X:Cx}{e:Expr}{te:TE}{lo hi:Option Expr}{S c:TO}{pos p2:Pos}
theorem DF:PO X none DE:=by
 intro Z s σ H Q I h;rw[evalPart_none];exact wpAny_pure ⟨none,H,I,.none,h⟩
theorem DG(h:PE X e te):PO X (some e) (J1 te):=by
 intro Z s σ H Q I hw;rw[evalPart_some];refine bK (h Z s σ H _ I hw) λu s1⟨x,H1,I1,r1,q1⟩=>?_
 obtain⟨i,rfl,q⟩:=q1;obtain⟨t,rfl⟩:=r1;rw[4,some i,H1,I1,.int i t,q]
def MX(X:Cx)(r:(11,V,Option Int,Option Int,Hp,(1,VK))):Prop:=
 ∀(Z:#[9])(s:Shared)(σ:St)(H:Hp)(x:V)(v d f:Value)(lo hi:Option Int)(sl:Addr)(Q:VK),(11,#[6],RelV x v,s.heap.IsSliceOf sl d f .none,IsPart d lo,IsPart f hi->r x lo hi H Q->
  ∃T id,(3,typeLookup (.type T) "__getitem__",pure (some (.builtin id)),s.TypeIs v T,(30,getItem v (.ref sl),EP X Z σ Q)))
def W2(r:(11,V,Option Int,Option Int,Hp,(1,VK)))(te:TE)(S c:TO):TE:=λσ H Q=>te σ H λx H1=>S σ H1 λl H2=>c σ H2 λu A=>r x l u A Q
theorem uM(hr:MX X r)(he:PE X e te)(hl:PO X lo S)(hu:PO X hi c):PE X (.Subscript e (.Slice lo hi none p2) pos) (W2 r te S c):=by
 intro Z s σ H Q I h;rw[0,Subscript_ (49,he,x,?_),wpAny_Slice (bK (hl Z s1 σ H1 _ I1 q1) λd s2⟨l,H2,a,pl,q2⟩=>bK (hu Z s2 σ H2 _ a q2) λf s3⟨u,A,j,i,g⟩=>?_)];rw[evalPart_none];refine wpAny_pure ?_
 have t:Inv X Z σ A {s3 with heap:=s3.heap.push {cls:=.type "slice",data:=.fields #[d,f,.none]}}:=j.kept (t':=s3.toks) λb ob q=>(22,q)
 obtain⟨T,id,O,M,hg⟩:=hr Z {s3 with heap:=s3.heap.push {cls:=.type "slice",data:=.fields #[d,f,.none]}} σ A x v d f l u s3.heap.objs.size Q t r1 (Heap.IsSliceOf.new ..) pl i g
 show(40,X.A,subscriptTail e (.Slice lo hi none p2) v (.ref s3.heap.objs.size),EP X Z σ Q,X.xe,{s3 with heap:=s3.heap.push {cls:=.type "slice",data:=.fields #[d,f,.none]}})
 exact tail_any (ops:=[.ref s3.heap.objs.size,v]) M O hg (by with_unfolding_all rfl)
def sS(xs:List V)(lo hi:Option Int):List V:=(xs.drop (HT.ez xs.length 0 lo)).take (HT.ez xs.length xs.length hi-HT.ez xs.length 0 lo)
theorem n_(xs:List V)(lo hi:Option Int):(sS xs lo hi).length<=xs.length:=by
 unfold sS;rw[List.length_take,List.length_drop];omega
inductive J2(K:PySem.W.Frag)(x:V)(lo:Option Int)(hi:Option Int)(H:Hp)(Q:VK):Prop
 |mk(a:_)(xs:_):(11,x=.ref a,dg K H a xs,¬(HT.ez xs.length 0 lo=0/\HT.ez xs.length xs.length hi=xs.length),∀p,(2,H p)->Q (.ref p) (upd H p (.tup (sS xs lo hi))),J2 K x lo hi H Q)
theorem G9:MX X (J2 X.K):=by
 intro Z s σ H x v d f lo hi sl Q I L hs pl i h;obtain⟨a,xs,rfl,hx,hw,q⟩:=h;cases L;obtain⟨its,r,M,hz⟩:=I.tuple hx;have e:its.toArray.size=xs.length:=(10,List.size_toArray,r.length.symm)
 rw[0,⟨"tuple",_,PyProof.Rows.slot_tuple_getitem.lookup,M.typeIs,?_⟩,HT.lL M hs pl i (10,e,hw) ?_ (10,e,hz)];rw[e];refine⟨#[14],_,I.laid (t':=s.toks) (o:=.tup (sS xs lo hi)) (λb ob q=>(22,q)) (Nat.le_refl _) ?_,rfl,q _ (I.bH.fresh (Nat.le_refl _))⟩;exact⟨Nat.le_trans (n_ xs lo hi) hz,_,(r.drop (HT.ez xs.length 0 lo)).take (HT.ez xs.length xs.length hi-HT.ez xs.length 0 lo),IsTup.new _ _⟩
inductive MY(K:PySem.W.Frag)(x:V)(y:V)(H:Hp)(Q:VK):Prop
 |mk(a:_)(b:_)(ns:_)(d:_):(11,x=.ref a,y=.ref b,dg K H a (ns.map V.int),dg K H b (d.map V.int),Q (.bl (HT.lexLt ns d)) H->MY K x y H Q)
inductive A4(K:PySem.W.Frag)(x:V)(y:V)(H:Hp)(Q:VK):Prop
 |mk(a:_)(b:_)(xs:_)(ys:_):(11,x=.ref a,y=.ref b,dg K H a xs,dg K H b ys,(11,xs≠[],(8,xs.length+ys.length),ys=[]->Q (.ref a) H,ys≠[]-> ∀p,(2,H p)->Q (.ref p) (upd H p (.tup (xs++ys))),A4 K x y H Q))
theorem Vals.sT{xs:List V}{us:#[5]}(r:Vals xs us):us=[]↔xs=[]:=by
 cases r with
 |nil=>simp
 |cons _ _=>simp
theorem DH:f5 X (binaryOp .Add) (A4 X.K):=by
 intro Z s σ H x y v u Q I L N h;obtain⟨a,b,xs,ys,rfl,rfl,ha,hb,hx,hz,q1,q2⟩:=h;cases L;cases N;obtain⟨its,r1,p1,_⟩:=I.tuple ha;obtain⟨m,r2,p2,_⟩:=I.tuple hb;rw[0,HT.DD p1 p2 (λz=>hx (r1.sT.mp z)) (λz=>⟨.ref a,H,I,rfl,q1 (r2.sT.mp z)⟩) (λz=>?_) (by rw[<-r1.length,<-r2.length];exact hz),⟨#[14],_,I.laid (t':=s.toks) (o:=.tup (xs++ys)) (λb ob q=>(22,q)) (Nat.le_refl _) ?_,rfl,q2 (λw=>z (r2.sT.mpr w)) _ (I.bH.fresh (Nat.le_refl _))⟩];exact⟨(10,List.length_append,hz),_,r1.append r2,IsTup.new _ _⟩
end
def G_(n:Nat)(i:Int):Option Nat:=if 0<=i then(if i<n then some i.toNat else none)else if-(n:Int)<=i then some (i+n).toNat else none
def wU{α:Type}(xs:List α)(i:Int):Option α:=(G_ xs.length i).bind λj=>xs[j]?
theorem DI{n:Nat}{i:Int}{j:Nat}(h:(0,G_ n i,j)):(0,seqIndex? i n,j)/\j<n/\ -(n:Int)<=i/\i<n:=by
 unfold G_ at h
 by_cases M:0<=i
 ·rw[if_pos M]at h
  by_cases h1:i<n
  ·rw[if_pos h1]at h
   have e:i.toNat=j:=Option.some.inj h;exact⟨by rw[seqIndex_of M h1,e],#[3],#[3],h1⟩
  ·rw[if_neg h1]at h;cases h
 ·rw[if_neg M]at h
  by_cases h1: -(n:Int)<=i
  ·rw[if_pos h1]at h
   have e:(i+n).toNat=j:=Option.some.inj h;exact⟨by rw[seqIndex_neg #[3] h1,e],#[3],h1,#[3]⟩
  ·rw[if_neg h1]at h;cases h
theorem sU{α:Type}{xs:List α}{i:Int}{v:α}(h:(0,wU xs i,v)):∃j,(0,seqIndex? i xs.length,j)/\(0,xs[j]?,v)/\j<xs.length/\ -(xs.length:Int)<=i/\i<xs.length:=by
 unfold wU at h
 cases e:G_ xs.length i with
 |none=>rw[e]at h;cases h
 |some j=>
  rw[e]at h;obtain⟨h1,h2,J,h4⟩:=DI e;exact⟨j,h1,h,h2,J,h4⟩
theorem DJ{α:Type}{xs:List α}{j:Nat}{v:α}(h:(0,xs[j]?,v)):(0,wU xs (j:Int),v):=by
 have g:j<xs.length:=(33,h).1;have e:(0,G_ xs.length (j:Int),j):=by
  unfold G_;rw[if_pos #[3],if_pos #[3]];simp
 unfold wU;rw[2,e,h]
def yf(b:Expr):Prop:=∀o i,subscripted b false o i=operate [o,i] (getItem o i)
def DK(X:Cx)(r:R2):Prop:=
 ∀(value a:Expr)(Z:#[9])(s:Shared)(σ:St)(H:Hp)(x y:V)(v u:Value)(Q:VK),(11,#[6],RelV x v,RelV y u,r x y H Q,subscripted a false v u=operate [v,u] (getItem v u)->(30,subscriptTail value a v u,EP X Z σ Q))
def Ha(X:Cx)(id:String)(r:V->List V->(7,Hp,VK)):Prop:=
 ∀(Z:#[9])(s:Shared)(σ:St)(H:Hp)(x:V)(xs:List V)(v:Value)(us:#[5])(Q:VK),(11,#[6],RelV x v,Vals xs us,r x xs H Q,(30,call (.builtin id) (v::us),EP X Z σ Q))
section
variable{X:Cx}{a b:Expr}{B F:TE}{pos:Pos}
theorem DK.or{r r':R2}(h:DK X r)(h':DK X r'):DK X (λx y H Q=>r x y H Q\/r' x y H Q):=by
 intro value a Z s σ H x y v u Q I L N q hs
 rcases q with q|q
 ·exact h value a Z s σ H x y v u Q I L N q hs
 ·exact h' value a Z s σ H x y v u Q I L N q hs
theorem J3{r:R2}(hr:DK X r)(ha:PE X a B)(hb:PE X b F)(hs:yf b):PE X (.Subscript a b pos) (GO r B F):=by
 intro Z s σ H Q I h;exact Subscript_ (GP ha hb I h λv u s2 x y H2 c L N q=>hr a b Z s2 σ H2 x y v u Q c L N q (hs _ _))
inductive Hb(K:PySem.W.Frag)(x:V)(y:V)(H:Hp)(Q:VK):Prop
 |mk(p:_)(xs:_)(i:_)(v:_):(11,x=.ref p,y=.int i,c_ K H p xs,(0,wU xs i,v),Q v H->Hb K x y H Q)
inductive Hc(K:PySem.W.Frag)(x:V)(y:V)(H:Hp)(Q:VK):Prop
 |mk(p:_)(xs:_)(i:_)(v:_):(11,x=.ref p,y=.int i,dg K H p xs,(0,wU xs i,v),Q v H->Hc K x y H Q)
inductive Hd(x:V)(y:V)(H:Hp)(Q:VK):Prop
 |mk(z:_)(i:_)(c:_):(11,x=.str z,y=.int i,(8,z.length),(0,wU z.cps.toList i,c),Q (.str ⟨#[c]⟩) H->Hd x y H Q)
theorem DL:DK X (Hb X.K):=by
 intro value a Z s σ H x y v u Q I L N h hs;obtain⟨p,xs,i,z,rfl,rfl,hq,he,q⟩:=h;cases L;obtain⟨t,rfl⟩:=N;obtain⟨its,r,pl,hz⟩:=I.list hq;obtain⟨j,h1,h2,J,h4,h5⟩:=sU he;obtain⟨w,c,b⟩:=r.get h2;have hl:=r.length;have hn:=mZ;have fin:EP X Z σ Q w s:=⟨z,H,I,b,q⟩
 by_cases M:0<=i
 ·have g:i.toNat=j:=by
   rw[seqIndex_of M h5]at h1;exact Option.some.inj h1
  exact item_listR pl.isList M #[3] (by rw[g];simpa using c) fin hs
 ·have g:(i+(its.toArray.size:Int)).toNat=j:=by
   rw[seqIndex_neg #[3] h4]at h1;rw[List.size_toArray,<-hl];exact Option.some.inj h1
  exact subscriptTail_builtinR (x:=w) pl.isList.typeIs slot_list_getitem.lookup
   (wpAny_getItem_list_neg (Q:=λr s'=>r=w/\EP X Z σ Q r s') pl.isList #[3] (by rw[List.size_toArray]<;>omega) #[3] (by rw[g];simpa using c) ⟨rfl,fin⟩) hs
theorem He:DK X (Hc X.K):=by
 intro value a Z s σ H x y v u Q I L N h hs;obtain⟨p,xs,i,z,rfl,rfl,hq,he,q⟩:=h;cases L;obtain⟨t,rfl⟩:=N;obtain⟨its,r,pl,hz⟩:=I.tuple hq;obtain⟨j,h1,h2,J,h4,h5⟩:=sU he;obtain⟨w,c,b⟩:=r.get h2;have hl:=r.length;have hn:=mZ;have fin:EP X Z σ Q w s:=⟨z,H,I,b,q⟩;exact subscriptTail_builtinR (x:=w) pl.typeIs slot_tuple_getitem.lookup
  (getItem_tuple (j:=j) (Q:=λr s'=>r=w/\EP X Z σ Q r s') pl #[3] #[3] (by rw[List.size_toArray,<-hl];exact h1) (by simpa using c) ⟨rfl,fin⟩) hs
theorem Hf:DK X Hd:=by
 intro value a Z s σ H x y v u Q I L N h hs;obtain⟨z,i,c,rfl,rfl,hz,he,q⟩:=h;rw[8];obtain⟨t',rfl⟩:=N;obtain⟨j,h1,h2,J,h4,h5⟩:=sU he;have hl:z.cps.toList.length=z.length:=by simp[Str.length]
 rw[hl]at h1 h4 h5;have hn:=mZ
 exact tail_any (typeIs_str s z t) slot_str_getitem.lookup (getItem_str (c:=c) (by
  have O:decide (i< -(2^63:Int))=false:=decide_eq_false #[3];have W:decide (i≥2^63)=false:=decide_eq_false #[3]
  rw[O,W,Bool.or_false]) (by rw[h1];simpa using h2) ⟨.str ⟨#[c]⟩,H,I.tok _,⟨_,rfl⟩,q⟩) hs
def TJ(K:PySem.W.Frag):R2:=λx y H Q=>Hb K x y H Q\/Hc K x y H Q\/Hd x y H Q
theorem Hg:DK X (TJ X.K):=DL.or (He.or Hf)
theorem sV(lo hi:Option Int)(n:Nat):(3,(sliceBounds lo hi none n).1,((HT.ez n 0 lo:Nat):Int),(sliceBounds lo hi none n).2.1=((HT.ez n n hi:Nat):Int),(sliceBounds lo hi none n).2.2=1):=by
 refine⟨?_,?_,rfl⟩
 ·cases lo with
  |none=>simp[sliceBounds,HT.ez]
  |some i=>
   simp only[sliceBounds,HT.ez,Option.getD_none,show(1:Int)>0 by decide,if_true]
   by_cases h:i<0
   ·simp only[h,if_true]<;>omega
   ·simp only[h,if_false]<;>omega
 ·cases hi with
  |none=>simp[sliceBounds,HT.ez]
  |some i=>
   simp only[sliceBounds,HT.ez,Option.getD_none,show(1:Int)>0 by decide,if_true]
   by_cases h:i<0
   ·simp only[h,if_true]<;>omega
   ·simp only[h,if_false]<;>omega
theorem qN(its:#[5])(lo hi:Option Int):slicePick its.toArray lo hi none=((its.drop (HT.ez its.length 0 lo)).take (HT.ez its.length its.length hi-HT.ez its.length 0 lo)).toArray:=by
 obtain⟨h1,h2,J⟩:=sV lo hi its.toArray.size;unfold slicePick;rw[h1,h2,J]
 simp only[sliceRange_one,pick_run,List.size_toArray]<;>rfl
inductive J4(K:PySem.W.Frag)(x:V)(lo:Option Int)(hi:Option Int)(H:Hp)(Q:VK):Prop
 |mk(a:_)(xs:_):x=.ref a->c_ K H a xs->(∀p,(2,H p)->Q (.ref p) (upd H p (.lst (sS xs lo hi))))->J4 K x lo hi H Q
theorem DM:MX X (J4 X.K):=by
 intro Z s σ H x v d f lo hi sl Q I L hs pl i h;obtain⟨a,xs,rfl,hx,q⟩:=h;cases L;obtain⟨its,r,M,hz⟩:=I.list hx;have c:=r.length;rw[0,⟨"list",_,slot_list_getitem.lookup,M.isList.typeIs,?_⟩,wpAny_getItem_list_slice M.isList hs pl i .none (by simp) ?_ (by rw[List.size_toArray]<;>omega)];rw[qN,<-c];refine⟨#[14],_,I.laid (t':=s.toks) (o:=.lst (sS xs lo hi)) (λb ob q=>(22,q)) (Nat.le_refl _) ?_,rfl,q _ (I.bH.fresh (Nat.le_refl _))⟩;rw[4,Nat.le_trans (n_ xs lo hi) hz,_,0,(r.drop (HT.ez xs.length 0 lo)).take (HT.ez xs.length xs.length hi-HT.ez xs.length 0 lo),#[15]]
def lM:V->Bool
 | .bu=>true
 | .bl _=>true
 | .int _=>true
 | .str _=>true
 |_=>false
def Fn:V->V->Bool
 | .bu,.bu=>true
 | .bl a,.bl b=>a==b
 | .bl a,.int b=>(if a then 1 else 0)==b
 | .int a,.bl b=>a==(if b then 1 else 0)
 | .int a,.int b=>a==b
 | .str a,.str b=>a==b
 |_,_=>false
theorem Hh{x:V}(N:RelV y u)(L:RelV x v)(fy:(4,lM y))(fx:(4,lM x)):SeqAt.EqAt A s u v (Fn y x):=by
 cases y with
 |bu=>
  cases N
  cases x with
  |bu=>cases L;exact SeqAt.EqAt.same _
  |bl b=>cases L;exact SeqAt.EqAt.none_bool b
  |int b=>rw[8];exact SeqAt.EqAt.none_int b t
  |str b=>rw[8];exact SeqAt.EqAt.none_str b t
  |_=>rw[11,fx]
 |bl a=>
  cases N
  cases x with
  |bu=>cases L;exact SeqAt.EqAt.bool_none a
  |bl b=>cases L;exact SeqAt.EqAt.bool_bool a b
  |int b=>rw[8];exact SeqAt.EqAt.bool_int a b t
  |str b=>rw[8];exact SeqAt.EqAt.bool_str a b t
  |_=>rw[11,fx]
 |int a=>
  obtain⟨t',rfl⟩:=N
  cases x with
  |bu=>cases L;exact SeqAt.EqAt.int_none a t'
  |bl b=>cases L;exact SeqAt.EqAt.int_bool a t' b
  |int b=>rw[8];exact SeqAt.EqAt.int_int a t' b t
  |str b=>rw[8];exact SeqAt.EqAt.int_str a t' b t
  |_=>rw[11,fx]
 |str a=>
  obtain⟨t',rfl⟩:=N
  cases x with
  |bu=>cases L;exact SeqAt.EqAt.str_none a t'
  |bl b=>cases L;exact SeqAt.EqAt.str_bool a t' b
  |int b=>rw[8];exact SeqAt.EqAt.str_int a t' b t
  |str b=>rw[8];exact SeqAt.EqAt.str_str a t' b t
  |_=>rw[11,fx]
 |_=>rw[11,fy]
def DN(x:V)(u:Value):Bool:=match u with
 | .none=>Fn .bu x
 | .bool b=>Fn (.bl b) x
 | .int i _=>Fn (.int i) x
 | .str z _=>Fn (.str z) x
 |_=>false
theorem A5{x:V}(r:RelV y u)(f:(4,lM y)):DN x u=Fn y x:=by
 cases y with
 |bu=>cases r;rfl
 |bl b=>cases r;rfl
 |int i=>obtain⟨t,rfl⟩:=r;rfl
 |str z=>obtain⟨t,rfl⟩:=r;rfl
 |_=>rw[11,f]
theorem sW{x:V}:∀{xs:List V}{us:#[5]},Vals xs us->(4,xs.all lM)->us.any (DN x)=xs.any λy=>Fn y x
 |_,_,.nil,_=>rfl
 |y::xs,u::us,.cons r t,f=>by
  rw[List.all_cons,Bool.and_eq_true]at f;rw[List.any_cons,List.any_cons,A5 r f.1,sW t f.2]
theorem o8{A:Around}{s:Shared}{x:V}{v:Value}(L:RelV x v)(fx:(4,lM x)):∀{xs:List V}{us:#[5]},Vals xs us->(4,xs.all lM)-> ∀u∈us,SeqAt.EqAt A s u v (DN x u)
 |_,_,.nil,_=>λu hu=>by cases hu
 |y::xs,u::us,.cons r t,f=>λu' hu=>by
  rw[List.all_cons,Bool.and_eq_true]at f
  rcases List.mem_cons.mp hu with rfl|hu
  ·rw[2,A5 r f.1,Hh r L f.1 fx]
  ·exact o8 L fx t f.2 u' hu
def LK(x:V)(xs:List V):Bool:=xs.any λy=>Fn y x
inductive MZ(K:PySem.W.Frag)(neg:Bool)(x:V)(y:V)(H:Hp)(Q:VK):Prop
 |mk(p:_)(xs:_):(11,y=.ref p,c_ K H p xs\/dg K H p xs,(4,lM x),(4,xs.all lM),Q (.bl (if neg then !LK x xs else LK x xs)) H->MZ K neg x y H Q)
theorem rF:f5 X (compareOp .In) (MZ X.K false):=by
 intro Z s σ H x y v u Q I L N h;obtain⟨p,xs,rfl,hq,fx,fs,q⟩:=h;cases N
 rcases hq with hq|hq
 ·obtain⟨its,r,pl,hz⟩:=I.list hq
  refine SeqAt.in_listAt (DN x) pl.isList (λw hw=>o8 L fx r fs w (by simpa using hw)) ⟨.bl _,H,I,rfl,?_⟩;rw[show its.toArray.any (DN x)=its.any (DN x)by simp,sW r fs];exact q
 ·obtain⟨its,r,pl,hz⟩:=I.tuple hq
  refine SeqAt.in_tupleAt (DN x) pl (λw hw=>o8 L fx r fs w (by simpa using hw)) ⟨.bl _,H,I,rfl,?_⟩;rw[show its.toArray.any (DN x)=its.any (DN x)by simp,sW r fs];exact q
theorem lN:eZ X (.builtin "len") (λxs H Q=>∃p ys,(3,xs,[.ref p],c_ X.K H p ys\/dg X.K H p ys,Q (.int ys.length) H)):=by
 intro Z s σ H xs us Q I r h;obtain⟨p,ys,rfl,hq,q⟩:=h;obtain⟨u,rfl,L⟩:=vals1 r;cases L;have hn:=mZ
 rcases hq with hq|hq
 ·obtain⟨its,r',pl,hz⟩:=I.list hq
  have a:=r'.length
  exact Calls.call_len_list pl.isList (by simp only[List.size_toArray]<;>omega) ⟨.int ys.length,H,I.tok _,⟨s.toks+1,by rw[List.size_toArray,a]⟩,q⟩
 ·obtain⟨its,r',pl,hz⟩:=I.tuple hq
  have a:=r'.length
  exact len_tuple pl (by simp only[List.size_toArray]<;>omega) ⟨.int ys.length,H,I.tok _,⟨s.toks+1,by rw[List.size_toArray,a]⟩,q⟩
theorem sX:eZ X (.builtin "len") (λxs H Q=>∃z,(3,xs,[.str z],(8,z.length),Q (.int z.length) H)):=by
 intro Z s σ H xs us Q I r h;obtain⟨z,rfl,hz,q⟩:=h;obtain⟨u,rfl,t,rfl⟩:=vals1 r;have hn:=mZ;exact len_str #[3] ⟨.int z.length,H,I.tok _,⟨_,rfl⟩,q⟩
theorem sY:eZ X (.type "list") (λxs H Q=>∃p ys,(3,xs,[.ref p],c_ X.K H p ys\/dg X.K H p ys,∀l,(2,H l)->Q (.ref l) (upd H l (.lst ys)))):=by
 intro Z s σ H xs us Q I r h;obtain⟨p,ys,rfl,hq,q⟩:=h;obtain⟨u,rfl,L⟩:=vals1 r;cases L;have fin:∀(its:#[5]),Vals ys its->(8,ys.length)-> ∀(h':Heap)(c:Nat),(∀b o',(0,s.heap.get? b,o')->(0,h'.get? b,o'))->
   (0,h'.get? s.heap.objs.size,{cls:=.type "list",dict:=none,data:=.seq its.toArray c,slots:=#[]})->EP X Z σ Q #[14] {s with heap:=h'}:=λits r' hz h' c kp e=>
  ⟨#[14],_,I.laid (t':=s.toks) kp (Nat.le_refl _) (show bJ X.prog X.w _ h' _ (.lst ys)from⟨hz,its,c,r',e⟩),rfl,q _ (I.bH.fresh (Nat.le_refl _))⟩
 rcases hq with hq|hq
 ·obtain⟨its,r',pl,hz⟩:=I.list hq
  have a:=r'.length;obtain⟨o,ho,hc,n,hd⟩:=pl.isList
  exact call_list_seq p (.inl rfl) ho hc hd (λh' c kp e=>fin its r' hz h' c kp e) (by simp only[List.size_toArray]<;>omega)
 ·obtain⟨its,r',pl,hz⟩:=I.tuple hq
  have a:=r'.length;obtain⟨o,ho,hc,n,hd⟩:=pl
  exact call_list_seq p (.inr rfl) ho hc hd (λh' c kp e=>fin its r' hz h' c kp e) (by simp only[List.size_toArray]<;>omega)
theorem qO:eZ X (.type "tuple") (λxs H Q=>∃p ys,xs=[.ref p]/\((c_ X.K H p ys/\ ∀l,(2,H l)->Q (.ref l) (upd H l (.tup ys)))\/(dg X.K H p ys/\Q (.ref p) H))):=by
 intro Z s σ H xs us Q I r h;obtain⟨p,ys,rfl,h⟩:=h;obtain⟨u,rfl,L⟩:=vals1 r;cases L
 rcases h with⟨hq,q⟩|⟨hq,q⟩
 ·obtain⟨its,r',pl,hz⟩:=I.list hq
  have c:=r'.length
  refine call_tuple_list pl.isList (λh' kp=>?_) (by simp only[List.size_toArray]<;>omega)
  have I1:Inv X Z σ H {s with heap:=h'}:=I.kept (t':=s.toks) kp
  have a:Inv X Z σ (upd H h'.objs.size (.tup ys)) {s with heap:=h'.push {cls:=.type "tuple",data:=.seq its.toArray}}:=
   I1.laid (t':=s.toks) (λb o e=>(22,e)) (Nat.le_refl _) (show bJ X.prog X.w _ _ _ (.tup ys)from⟨hz,its,r',IsTup.new _ _⟩)
  rw[4,.ref h'.objs.size,_,a,rfl,q _ (I1.bH.fresh (Nat.le_refl _))]
 ·obtain⟨its,r',pl,hz⟩:=I.tuple hq
  exact call_tuple_same pl ⟨.ref p,H,I,rfl,q⟩
def M0(K:PySem.W.Frag)(T:String)(x:V)(H:Hp):Prop:=match x with
 | .str _=>T= "str"
 | .int _=>T= "int"
 | .ref p=>(T= "list"/\ ∃xs,c_ K H p xs)\/(T= "tuple"/\ ∃o,(0,K.lookup p,o)/\o.cls=.type "tuple"/\(2,o.dict))\/
   (T= "dict"/\((∃kvs,(0,H p,.dK kvs))\/ ∃kvs,(0,H p,.dT kvs)))\/(T= "set"/\ ∃S n,(0,H p,.set S n))
 |_=>False
theorem A6{σ:St}{T:String}{x:V}(I:#[6])(r:RelV x v)(ty:M0 X.K T x H):
s.TypeIs v T/\ ∀a,v=.ref a-> ∃ob,(0,s.heap.get? a,ob)/\(2,ob.dict):=by
 cases x with
 |str z=>
  obtain⟨t,rfl⟩:=r;cases(show T= "str"from ty);rw[3,typeIs_str s z t,λ_ e=>nomatch e]
 |int i=>
  obtain⟨t,rfl⟩:=r;cases(show T= "int"from ty);rw[3,typeIs_int s i t,λ_ e=>nomatch e]
 |ref p=>
  cases r
  rcases ty with⟨rfl,xs,hq⟩|⟨rfl,o,hk,hc,hd⟩|⟨rfl,hk⟩|⟨rfl,S,n,hk⟩
  ·obtain⟨its,_,pl,_⟩:=I.list hq
   refine⟨pl.isList.typeIs,λa e=>?_⟩;cases e;obtain⟨o,n,e,c,hd,_⟩:=pl;rw[1,o,e,hd]
  ·refine⟨⟨o,I.kM p o hk,hc⟩,λa e=>?_⟩
   cases e;rw[1,o,I.kM _ o hk,hd]
  ·have z:∃o,(0,s.heap.get? p,o)/\o.ExactDict:=by
    rcases hk with⟨kvs,hk⟩|⟨kvs,hk⟩
    ·obtain⟨_,_,_,_,o,_,_,e,ex,_⟩:=I.bH p _ hk
     rw[1,o,e,ex]
    ·obtain⟨_,_,_,_,o,_,_,e,ex,_⟩:=I.bH p _ hk
     rw[1,o,e,ex]
   obtain⟨o,e,ex⟩:=z;refine⟨⟨o,e,ex.1⟩,λa W=>?_⟩;cases W;rw[1,o,e,ex.2.1]
  ·obtain⟨o,_,_,_,e,ex,_⟩:=I.bH p _ hk
   refine⟨⟨o,e,ex.1⟩,λa W=>?_⟩;cases W;rw[1,o,e,ex.2.1]
 |_=>exact False.elim ty
def M3(K:PySem.W.Frag)(T:String)(r:V->List V->(7,Hp,VK))(to:TE):TE:=λσ H Q=>to σ H λx H1=>M0 K T x H1/\r x [] H1 Q
def W3(K:PySem.W.Frag)(T:String)(r:V->List V->(7,Hp,VK))(to:TE)(t:TA):TE:=λσ H Q=>to σ H λx H1=>M0 K T x H1/\t σ H1 λxs H2=>r x xs H2 Q
variable{o e:Expr}{es:#[4]}{to:TE}{t:TA}{name:Str}{w aU:Pos}{T id:String}{r:V->List V->(7,Hp,VK)}
theorem Hj(pa:PlainAttrs T)(slot:Slot T name id)(a:typeOf (.builtin id)=pure (.type "method_descriptor"))(hm:Ha X id r)(ho:PE X o to)
(l:attributeBase o name X.env (eval o X.env)=eval o X.env:=by rfl)(c:(4,w.endLine==aU.line):=by rfl):PE X (31,o,name,[],aU) (M3 X.K T r to):=by
 intro Z s σ H Q I h;refine wpAny_Call_method0_late l c (bK (ho Z s σ H _ I h) λv s1⟨x,H1,I1,r1,ty,q1⟩=>?_);obtain⟨h1,h2⟩:=A6 I1 r1 ty;exact⟨T,id,pa,slot,a,h1,h2,Calls.callWith_builtin rfl (PySem.evalArgs_none (hm Z s1 σ H1 x [] v [] Q I1 r1 .nil q1))⟩
theorem A7(pa:PlainAttrs T)(slot:Slot T name id)(a:typeOf (.builtin id)=pure (.type "method_descriptor"))(hm:Ha X id r)(ho:PE X o to)(ha:PA X (e::es) t)
(l:attributeBase o name X.env (eval o X.env)=eval o X.env:=by rfl)
(f:(60,e::es,e::es):=by rfl)
(c:(4,w.endLine==aU.line):=by rfl)(hs:#[13]:=by rfl)(b:(28,aU,es):=by rfl):
PE X (31,o,name,e::es,aU) (W3 X.K T r to t):=by
 intro Z s σ H Q I h;refine wpAny_Call_method_late l f c rfl (bK (ho Z s σ H _ I h) λv s1⟨x,H1,I1,r1,ty,q1⟩=>?_);obtain⟨h1,h2⟩:=A6 I1 r1 ty;refine⟨T,id,pa,slot,a,h1,h2,?_⟩;have g:=ha aU Z s1 σ H1 _ I1 q1;rw[hs]at g⊢
 refine Calls.callWith_builtin (by show(false||(backTo aU (starEach es X.env)).any (·.1))=false;rw[b]<;>rfl) (Calls.evalArgs_plain ?_);exact bK g λus s2⟨vs,H2,d,r2,q2⟩=>hm Z s2 σ H2 x vs v us Q d r1 r2 q2
end
def W4(X:Cx)(id:String)(r:V->List V->(7,Hp,VK)):Prop:=
 ∀(Z:#[9])(s:Shared)(σ:St)(H:Hp)(x:V)(xs:List V)(v:Value)(us:#[5])(Q:VK),(11,#[6],RelV x v,Vals xs us,r x xs H Q,(30,call (.builtin id) (v::us),EP X Z σ Q))
theorem Vals.one:∀{x:V}{us:#[5]},Vals [x] us-> ∃u,us=[u]/\RelV x u
 |_,_,.cons r .nil=>⟨_,rfl,r⟩
section
variable{X:Cx}{σ:St}{l b:Addr}{xs ys zs:List V}
theorem Inv.J5{its':#[5]}{n:Nat}{f:Array Value->Array Value}{t':Nat}(I:#[6])(a:(0,H l,.lst xs))
(e:(0,s.heap.get? l,{cls:=.type "list",data:=.seq its.toArray n}))(S:f its.toArray=its'.toArray)(hv:Vals ys its')(hz:(8,ys.length)):
Inv X Z σ (upd H l (.lst ys)) {s with heap:=s.heap.update l (Obj.mapSeq f),toks:=t'}:=by
 have q:=PySem.IsL.update e f;rw[S]at q;refine I.write (x:=l) (e:=l) (10,a,trivial) (.inl rfl) (λb u hb hu=>(Heap.get?_update_other s.heap (Obj.mapSeq f) (Ne.symm hb)).trans hu) ⟨_,q⟩ ?_;rw[4,hz,its',_,hv,q]
theorem Inv.Hk{t':Nat}(I:#[6])(hv:Vals ys its)(hz:(8,ys.length)):
Inv X Z σ (upd H s.heap.objs.size (.lst ys)) {s with heap:=s.heap.push {cls:=.type "list",data:=.seq its.toArray},toks:=t'}:=
 I.laid (λ_ _ q=>(22,q)) (Nat.le_refl _) ⟨hz,its,0,hv,#[15]⟩
theorem Inv.fresh(I:#[6]):(2,H s.heap.objs.size):=I.bH.fresh (Nat.le_refl _)
theorem Inv.Hl(I:#[6])(a:(0,H l,.lst xs)):(8,xs.length)/\ ∃(its:List Value)(n:Nat),Vals xs its/\xs.length=its.length/\(0,s.heap.get? l,{cls:=.type "list",data:=.seq its.toArray n}):=by
 obtain⟨z,its,n,r,e⟩:=I.bH l _ a;exact⟨z,its,n,r,r.length,e⟩
theorem A8{n:Nat}(h:(8,n)):Builtin.List.listTooLong n=false:=by
 unfold Builtin.List.listTooLong;exact decide_eq_false #[3]
end
section
variable{X:Cx}
inductive yg(x:V)(vs:List V)(H:Hp)(Q:VK):Prop
 |mk(l:_)(xs:_)(y:_):(11,x=.ref l,vs=[y],(0,H l,.lst xs),xs.length<sizeLine,Q .bu (upd H l (.lst (xs++[y])))->yg x vs H Q)
theorem rG:W4 X "list.append" yg:=by
 intro Z s σ H x vs v us Q I L rv h;obtain⟨l,xs,y,rfl,rfl,a,hz,q⟩:=h;cases L;obtain⟨u,rfl,ru⟩:=rv.one;obtain⟨z,its,n,r,hl,e⟩:=I.Hl a;rw[0,call_meets F.slot_list_append ⟨_,e,rfl⟩ F.entry_list_append (F.args_list_append_2 _ _) (PySem.list_append l its.toArray n u (by rw[List.size_toArray];omega)) ⟨e,?_⟩,⟨.bu,_,I.J5 (its':=its++[u]) a e (by simp) (r.append (.cons ru .nil)) ?_,rfl,q⟩];rw[List.length_append,List.length_singleton];omega
inductive M4(x:V)(y:V)(H:Hp)(Q:VK):Prop
 |mk(l:_)(b:_)(xs:_)(zs:_):(11,x=.ref l,y=.ref b,(0,H l,.lst xs),(0,H b,.lst zs),(8,xs.length+zs.length)->(∀p,(2,H p)->Q (.ref p) (upd H p (.lst (xs++zs))))->M4 x y H Q)
end
section
variable{prog:Program}{E:#[8]}
set_option maxRecDepth 100000 in
end
section
variable{X:Cx}
end
section
variable{κ:Type} [DecidableEq κ]
def e1(kvs:(5,κ,V))(k:κ):Option V:=(kvs.find? λg=>decide (g.1=k)).map (·.2)
def putK(kvs:(5,κ,V))(k:κ)(v:V):(5,κ,V):=
 (29,kvs.any λg=>decide (g.1=k),kvs.map (λg=>if g.1=k then(g.1,v)else g),kvs++[(k,v)])
theorem gK{p:κ×V}{r:(5,κ,V)}{k:κ}(e:p.1=k):(0,e1 (p::r) k,p.2):=by simp[e1,List.find?_cons,e]
theorem gL{p:κ×V}{r:(5,κ,V)}{k:κ}(e:¬p.1=k):e1 (p::r) k=e1 r k:=by simp[e1,List.find?_cons,e]
theorem lO(k:κ):∀kvs:(5,κ,V),(kvs.any λg=>decide (g.1=k))=(e1 kvs k).isSome
 |[]=>rfl
 |p::r=>by
  rw[List.any_cons]
  by_cases e:p.1=k
  ·simp only[gK e,decide_eq_true e,Bool.true_or,Option.isSome_some]
  ·rw[gL e,decide_eq_false e,Bool.false_or];exact lO k r
theorem f6(kvs:(5,κ,V))(k:κ)(v:V):(putK kvs k v).length<=kvs.length+1:=by
 unfold putK
 split
 ·rw[List.length_map];omega
 ·rw[List.length_append,List.length_cons,List.length_nil];omega
theorem hh.gM{u:Option Value}(r:hh o u):o.isSome=u.isSome:=by
 cases o with
 |none=>cases u with
  |none=>rfl
  |some _=>exact(show False from r).elim
 |some _=>cases u with
  |none=>exact(show False from r).elim
  |some _=>rfl
theorem hh.getD{u:Option Value}{d:V}{d':Value}(r:hh o u)(rd:RelV d d'):RelV (o.getD d) (u.getD d'):=by
 cases o with
 |none=>cases u with
  |none=>exact rd
  |some _=>exact(show False from r).elim
 |some _=>cases u with
  |none=>exact(show False from r).elim
  |some _=>exact r
theorem KV.val{kvs:(5,κ,V)}{vs:(5,κ,Value)}(r:KV kvs vs)(k:κ):hh (e1 kvs k) (valueAt vs k):=by
 unfold KV at r
 induction r with
 |nil=>exact True.intro
 | @cons p q ps R h t ih=>
  obtain⟨h1,h2⟩:=h
  by_cases e:p.1=k
  ·have M:q.1=k:=h1.symm.trans e
   have b:(0,valueAt (q::R) k,q.2):=by simp[valueAt,List.find?_cons,M]
   rw[gK e,b];exact h2
  ·have M:¬q.1=k:=λz=>e (h1.trans z)
   have b:valueAt (q::R) k=valueAt R k:=by simp[valueAt,List.find?_cons,M]
   rw[gL e,b];exact ih
theorem KV.any{kvs:(5,κ,V)}{vs:(5,κ,Value)}(r:KV kvs vs)(k:κ):(kvs.any λg=>decide (g.1=k))=vs.any λg=>decide (g.1=k):=by
 unfold KV at r
 induction r with
 |nil=>rfl
 |cons h t ih=>rw[List.any_cons,List.any_cons,ih,h.1]
theorem KV.Hm{kvs:(5,κ,V)}{vs:(5,κ,Value)}(r:KV kvs vs)(k:κ)(N:RelV y u):
KV (kvs.map λg=>if g.1=k then(g.1,y)else g) (vs.map λg=>if g.1=k then(g.1,u)else g):=by
 unfold KV at r⊢
 induction r with
 |nil=>exact .nil
 | @cons p q ps R h t ih=>
  rw[List.map_cons,List.map_cons];refine .cons ?_ ih;obtain⟨h1,h2⟩:=h
  by_cases e:p.1=k
  ·rw[if_pos e,if_pos (h1.symm.trans e)];rw[3,h1,N]
  ·rw[if_neg e,if_neg (λz=>e (h1.trans z))];rw[3,h1,h2]
theorem KV.put{kvs:(5,κ,V)}{vs:(5,κ,Value)}(r:KV kvs vs)(k:κ)(N:RelV y u):KV (putK kvs k y) (stored vs k u):=by
 unfold putK stored;rw[r.any k]
 by_cases e:(vs.any λg=>decide (g.1=k))=true
 ·rw[if_pos e,if_pos e];exact r.Hm k N
 ·rw[if_neg e,if_neg e];exact Paired.snoc r ⟨rfl,N⟩
theorem KV.length{kvs:(5,κ,V)}{vs:(5,κ,Value)}(r:KV kvs vs):kvs.length=vs.length:=Paired.length r
end
theorem n'{k:Key}(r:RelV (kV k) u):(4,(bx P w).is k u):=by
 cases k with
 |inl i=>obtain⟨t,e⟩:=(show∃t,u=Value.int i t from r);subst e;exact uG P w i t
 |inr x=>obtain⟨t,e⟩:=(show∃t,u=Value.str x t from r);subst e;exact dC P w x t
theorem rH{P:Program}{w:World}:∀{ks:List Key}{us:#[5]},Vals (ks.map kV) us->ItemsAre (bx P w) ks us
 |[],_,r=>by rw[List.map_nil]at r;cases r;exact .nil
 |k::ks,_,r=>by
  rw[List.map_cons]at r
  cases r with
  |cons h t=>exact .cons (n' h) (rH t)
abbrev KT(H:Hp):(7,(5,List Key,V),(5,List Key,Addr×Value)):=Paired λp q=>(3,p.1,q.1,(0,H q.2.1,.tup (p.1.map kV)),RelV p.2 q.2.2)
theorem KT.val(r:KT H kvs xs)(k:List Key):hh (e1 kvs k) ((atKey xs k).map (·.2)):=by
 induction r with
 |nil=>exact True.intro
 | @cons p q ps R h t ih=>
  obtain⟨h1,_,h2⟩:=h
  by_cases e:p.1=k
  ·have M:q.1=k:=h1.symm.trans e
   have b:(0,atKey (q::R) k,q.2):=by simp[atKey,List.find?_cons,M]
   rw[gK e,b];exact h2
  ·have M:¬q.1=k:=λz=>e (h1.trans z)
   have b:atKey (q::R) k=atKey R k:=by simp[atKey,List.find?_cons,M]
   rw[gL e,b];exact ih
theorem KT.Hm(r:KT H kvs xs)(k:List Key)(N:RelV y u):
KT H (kvs.map λg=>if g.1=k then(g.1,y)else g) (xs.map (putAt k u)):=by
 induction r with
 |nil=>exact .nil
 | @cons p q ps R h t ih=>
  rw[List.map_cons,List.map_cons];refine .cons ?_ ih;obtain⟨h1,h2,J⟩:=h;unfold putAt
  by_cases e:p.1=k
  ·rw[if_pos e,if_pos (h1.symm.trans e)];rw[1,h1,h2,N]
  ·rw[if_neg e,if_neg (λz=>e (h1.trans z))];rw[1,h1,h2,J]
theorem KT.put(r:KT H kvs xs)(k:List Key){b:Addr}(hb:(0,H b,.tup (k.map kV)))(N:RelV y u):
KT H (putK kvs k y) (storedH xs k b u):=by
 have e:(kvs.any λg=>decide (g.1=k))=(atKey xs k).isSome:=by
  rw[lO,(r.val k).gM,Option.isSome_map]
 unfold putK storedH;rw[e]
 by_cases q:(atKey xs k).isSome=true
 ·rw[if_pos q,if_pos q];exact r.Hm k N
 ·rw[if_neg q,if_neg q];exact Paired.snoc r ⟨rfl,hb,N⟩
theorem KT.keeps{H':Hp}(r:KT H kvs xs)(M:∀b ys,(0,H b,.tup ys)->(0,H' b,.tup ys)):KT H' kvs xs:=
 Paired.Gq r λ_ _ z=>⟨z.1,M _ _ z.2.1,z.2.2⟩
section
variable{h:Heap}
theorem Fo{u:HO}(ok:i6 P w H h)(e:Rd H a u):bJ P w H h a u:=e.ok ok
theorem iU{kvs:(5,Key,V)}(ok:i6 P w H h)(e:Rd H a (.dK kvs)):(8,kvs.length)/\(a==sysModules)=false/\ ∃vs,KV kvs vs/\h.DictOf (bx P w) a vs:=
 show bJ P w H h a (.dK kvs)from Fo ok e
theorem A9{kvs:(5,Key,V)}(ok:i6 P w H h)(e:(0,H a,.dK kvs)):(8,kvs.length)/\(a==sysModules)=false/\ ∃vs,KV kvs vs/\h.DictOf (bx P w) a vs:=iU ok (.inl e)
theorem i'{ks:List Key}(ok:i6 P w H h)(e:(0,H a,.tup (ks.map kV))):(tupleKind (bx P w)).is h ks a:=by
 obtain⟨_,its,r,o,h1,h2,n,J⟩:=(show bJ P w H h a (.tup (ks.map kV))from ok a _ e);exact⟨o,its.toArray,n,h1,h2,J,by simpa using rH r⟩
theorem od(ok:i6 P w H h)(e:Rd H a (.dT kvs)):(8,kvs.length)/\(a==sysModules)=false/\
∃xs,KT H kvs xs/\h.DictOfH (tupleKind (bx P w)) a xs:=by
 obtain⟨z,y,xs,r,o,es,ep,h1,h2,J,h4,h5⟩:=(show bJ P w H h a (.dT kvs)from Fo ok e);refine⟨z,y,xs,r,o,es,ep,h1,h2,J,h4,λx hx=>?_,h5⟩;have all:∀{l:(5,List Key,V)}{m:(5,List Key,Addr×Value)},KT H l m-> ∀x∈m,(tupleKind (bx P w)).is h x.1 x.2.1:=by
  intro l m q
  induction q with
  |nil=>intro x hx;exact nomatch hx
  | @cons p q ps R hq t ih=>
   intro x hx
   rcases List.mem_cons.mp hx with e|hx
   ·subst e
    exact i' ok (26,hq.1,hq.2.1)
   ·exact ih x hx
 exact all r x hx
theorem Fp(ok:i6 P w H h)(e:(0,H a,.dT kvs)):(8,kvs.length)/\(a==sysModules)=false/\
 ∃xs,KT H kvs xs/\h.DictOfH (tupleKind (bx P w)) a xs:=od ok (.inl e)
end
def e4(H:Hp)(a:Addr)(y:V)(r:Option V):Prop:=
 (∃kvs k,Rd H a (.dK kvs)/\y=kV k/\r=e1 kvs k)\/ ∃kvs k b,Rd H a (.dT kvs)/\y=.ref b/\(0,H b,.tup (k.map kV))/\r=e1 kvs k
def m4(H:Hp)(a:Addr)(y v:V)(H':Hp):Prop:=
 (∃kvs k,(0,H a,.dK kvs)/\y=kV k/\kvs.length<sizeLine/\H'=upd H a (.dK (putK kvs k v)))\/
 ∃kvs k b,(0,H a,.dT kvs)/\y=.ref b/\(0,H b,.tup (k.map kV))/\kvs.length<sizeLine/\H'=upd H a (.dT (putK kvs k v))
theorem m4.k{kvs:(5,Key,V)}{k:Key}{v:V}(e:(0,H a,.dK kvs))(hl:kvs.length<sizeLine):m4 H a (kV k) v (upd H a (.dK (putK kvs k v))):=.inl ⟨kvs,k,e,rfl,hl,rfl⟩
theorem m4.t{b:Addr}{k:List Key}{v:V}(e:(0,H a,.dT kvs))(F:(0,H b,.tup (k.map kV)))(hl:kvs.length<sizeLine):
 m4 H a (.ref b) v (upd H a (.dT (putK kvs k v))):=.inr ⟨kvs,k,b,e,rfl,F,hl,rfl⟩
section
variable{X:Cx}{σ:St}{v:V}{r:Value}{E:#[8]}
theorem Inv.big(I:#[6]):sysModules<s.heap.objs.size:=by
 have h:mainGlobals<s.heap.objs.size:=(I.mod.glob.keeps I.bk).lt;exact Nat.lt_trans #[2] h
theorem zr(hu:A.units+1<cLine)(I:#[6])(g:e4 H a y (some v))(N:RelV y u)(h:∀t s',Inv X Z σ H s'->RelV v t->Q t s'):
wpAny (model X.prog X.w) A (getItem (.ref a) u) Q E s:=by
 rcases g with⟨kvs,k,e,c,l⟩|⟨kvs,k,b,e,c,F,l⟩
 ·subst c
  obtain⟨z,hd,vs,rel,dd⟩:=iU I.bH e;obtain⟨t,hw,d⟩:=hh.some_of (v:=v) (o:=valueAt vs k) (by rw[l];exact rel.val k);exact wpAny_getItem_of (n' N) dd.mapOf hw (h t _ (I.tok _) d)
 ·subst c
  rw[20,od];obtain⟨t,hw,d⟩:=hh.some_of (v:=v) (o:=(atKey xs k).map (·.2)) (by rw[l];exact rel.val k);obtain⟨p,hp,f⟩:=Option.map_eq_some_iff.mp hw;refine wpAny_getItem_heap (tupleKind_room_in1 hu) (i' I.bH F) dd hp ?_;rw[2,f,h t _ (I.tok _) d]
theorem M5(hu:A.units+1<cLine)(I:#[6])(g:e4 H a y o)(N:RelV y u)(h:∀s',Inv X Z σ H s'->Q (.bool o.isSome) s'):
wpAny (model X.prog X.w) A (compareOp .In u (.ref a)) Q E s:=by
 rcases g with⟨kvs,k,e,c,l⟩|⟨kvs,k,b,e,c,F,l⟩
 ·subst c
  obtain⟨z,hd,vs,rel,dd⟩:=iU I.bH e;refine wpAny_in_of (n' N) hd dd.mapOf ?_;rw[<-(rel.val k).gM,<-l];exact h _ (I.tok _)
 ·subst c
  rw[20,od];refine wpAny_in_heap (tupleKind_room_in1 hu) (i' I.bH F) hd dd ?_;have q:=(rel.val k).gM;rw[Option.isSome_map]at q;rw[<-q,<-l];exact h _ (I.tok _)
theorem DO(hu:A.units+1<cLine)(I:#[6])(g:e4 H a y o)(N:RelV y u)(h:∀s',Inv X Z σ H s'->Q (.bool (!o.isSome)) s'):
wpAny (model X.prog X.w) A (compareOp .NotIn u (.ref a)) Q E s:=by
 rcases g with⟨kvs,k,e,c,l⟩|⟨kvs,k,b,e,c,F,l⟩
 ·subst c
  obtain⟨z,hd,vs,rel,dd⟩:=iU I.bH e;refine wpAny_notIn_of (n' N) hd dd.mapOf ?_;rw[<-(rel.val k).gM,<-l];exact h _ (I.tok _)
 ·subst c
  rw[20,od];refine wpAny_notIn_heap (tupleKind_room_in1 hu) (i' I.bH F) hd dd ?_;have q:=(rel.val k).gM;rw[Option.isSome_map]at q;rw[<-q,<-l];exact h _ (I.tok _)
theorem oG{h':Heap}{t':Nat}{ob:HO}(I:#[6])(d:JI (H a))(hs:Heap.SameBut a s.heap h')(he:∃q,(0,h'.get? a,q))(new:bJ X.prog X.w (upd H a ob) h' a ob):
Inv X Z σ (upd H a ob) {s with heap:=h',toks:=t'}:=
 I.write (x:=a) (e:=a) d (.inl rfl) (λb q hb z=>(hs.2 b hb).trans z) he new
theorem wV{H':Hp}{h':Heap}{kvs:(5,Key,V)}{vs:(5,Key,Value)}(z:(8,kvs.length))(hd:(a==sysModules)=false)(rel:KV kvs vs)(dd:h'.DictOf (bx P w) a vs):
 bJ P w H' h' a (.dK kvs):=⟨z,hd,vs,rel,dd⟩
theorem zt{H':Hp}{Q:(18,Unit)}(hu:A.units+1<cLine)(I:#[6])(g:m4 H a y v H')(N:RelV y u)(rv:RelV v r)(h:∀s',Inv X Z σ H' s'->Q () s'):
wpAny (model X.prog X.w) A (setItem (.ref a) u r) Q E s:=by
 rcases g with⟨kvs,k,e,d,l,j⟩|⟨kvs,k,b,e,d,F,l,j⟩
 ·subst d j
  obtain⟨z,hd,vs,rel,dd⟩:=A9 I.bH e;have hz:(8,vs.length):=(26,rel.length,z)
  have hl:(8,(putK kvs k v).length):=by have:=f6 kvs k v;omega
  refine wpAny_setItem_pairs (hsz:=hz) (n' N) dd λh' i hs=>h _ ?_
  have he:∃q,(0,h'.get? a,q):=let⟨q,_,_,hq,_⟩:=i;⟨q,hq⟩;exact oG I (10,e,True.intro) hs he (wV hl hd (rel.put k rv) i)
 ·subst d j
  rw[20,Fp];have hz:(8,xs.length):=(26,Paired.length rel,z)
  have hl:(8,(putK kvs k v).length):=by have:=f6 kvs k v;omega
  refine wpAny_setItem_heap (hsz:=hz) (tupleKind_room_in1 hu) (i' I.bH F) dd λh' i hs=>h _ ?_
  obtain⟨q,es,ep,hq,h2,J,h4,_,h5⟩:=i;refine oG I (10,e,True.intro) hs ⟨q,hq⟩ ⟨hl,hd,_,(rel.put k F rv).keeps λc ys f=>?_,q,es,ep,hq,h2,J,h4,h5⟩;rw[2,aI (E_ f e (λz=>nomatch z)),f]
end
section
variable{X:Cx}{σ:St}{kvs:(5,Key,V)}{k:Key}{E:#[8]}
end
def DP(i:Expr):Prop:=∀p a,subscripted i false p a=operate [p,a] (getItem p a)
theorem yh{prog:Program}{E:#[8]}{env:Env}{value a:Expr}{pos:Pos}{T id:String}
(hl:typeLookup (.type T) "__getitem__"=pure (some (.builtin id)))(hs:DP a)
(h:wpAny (model prog w) A (eval value env) (λo c=>wpAny (model prog w) A (eval a env) (λi d=>d.TypeIs o T/\wpAny (model prog w) A (getItem o i) Q E d) E c) E s):
(27,eval (.Subscript value a pos) env):=by
 refine Subscript_ (wpAny_mono h (λo c e=>wpAny_mono e (λi d b=>?_) λ_ _ x=>x) λ_ _ x=>x);obtain⟨O,b⟩:=b;unfold subscriptTail;refine(6,?_);rw[getitemInPython_of_ne O.not_modules];refine(6,wpAny_specialOf O hl ?_);have fin:wpAny (model prog w) A (subscripted a false o i) (λr g=>wpAny (model prog w) A (letTemporaryGo value o r>>=λ_=>pure r) Q E g) E d:=by
  rw[hs o i];exact wpAny_operating (wpAny_mono b (λr g f=>wpAny_bind (wpAny_letTemporaryGo (wpAny_pure f))) λ_ _ x=>x)
 first
  |exact wpAny_pure (6,fin)
  |exact wpAny_bind (wpAny_pure (wpAny_bind fin))
  |exact wpAny_bind fin
theorem uN{X:Cx}{σ:St}(I:#[6])(g:e4 H a y o):s.TypeIs (.ref a) "dict":=by
 rcases g with⟨kvs,k,e,_,_⟩|⟨kvs,k,b,e,_,_,_⟩
 ·obtain⟨_,_,vs,_,dd⟩:=iU I.bH e
  exact dd.typeIs
 ·obtain⟨_,_,xs,_,dd⟩:=od I.bH e
  exact dd.typeIs
def J6(l ty:TE):TE:=λσ H Q=>l σ H λx H1=>ty σ H1 λy H2=>∃a v,(3,x,.ref a,e4 H2 a y (some v),Q v H2)
def M6(ty l:TE):TE:=λσ H Q=>ty σ H λy H1=>l σ H1 λx H2=>∃a o,(3,x,.ref a,e4 H2 a y o,Q (.bl o.isSome) H2)
def DQ(ty l:TE):TE:=λσ H Q=>ty σ H λy H1=>l σ H1 λx H2=>∃a o,(3,x,.ref a,e4 H2 a y o,Q (.bl (!o.isSome)) H2)
def J7(l ty tv:TE):TS:=λD σ H=>tv σ H λv H1=>l σ H1 λx H2=>ty σ H2 λy A=>∃a b,(3,x,.ref a,m4 A a y v b,D.nx σ b)
section
variable{X:Cx}{o i e value:Expr}{pos R b:Pos}{l ty tv:TE}
theorem DR(hu:X.A.units+1<cLine)(ho:PE X o l)(hi:PE X i ty)(hs:DP i):PE X (.Subscript o i pos) (J6 l ty):=by
 intro Z s σ H Q I h;refine yh PySem.F.slot_dict_getitem.lookup hs (bK (ho Z s σ H _ I h) λu s1⟨x,H1,I1,L,q1⟩=>bK (hi Z s1 σ H1 _ I1 q1) λe s2⟨y,H2,c,N,a,v,ex,g,q2⟩=>?_);subst ex;obtain rfl:u=Value.ref a:=L;rw[3,uN c g,zr hu c g N λt s3 f d=>⟨v,H2,f,d,q2⟩]
theorem Hn(hu:X.A.units+1<cLine)(hi:PE X i ty)(ho:PE X o l):PC X .In i o (M6 ty l):=by
 intro Z s σ H Q I h;refine bK (hi Z s σ H _ I h) λd s1⟨y,H1,I1,N,q1⟩=>bK (ho Z s1 σ H1 _ I1 q1) λu s2⟨x,H2,c,L,a,p,ex,g,q2⟩=>?_
 subst ex;obtain rfl:u=Value.ref a:=L;exact M5 hu c g N λs3 f=>⟨.bl p.isSome,H2,f,rfl,q2⟩
theorem zu(hu:X.A.units+1<cLine)(hi:PE X i ty)(ho:PE X o l):PC X .NotIn i o (DQ ty l):=by
 intro Z s σ H Q I h;refine bK (hi Z s σ H _ I h) λd s1⟨y,H1,I1,N,q1⟩=>bK (ho Z s1 σ H1 _ I1 q1) λu s2⟨x,H2,c,L,a,p,ex,g,q2⟩=>?_
 subst ex;obtain rfl:u=Value.ref a:=L;exact DO hu c g N λs3 f=>⟨.bl (!p.isSome),H2,f,rfl,q2⟩
theorem DS(hu:X.A.units+1<cLine)(ho:PE X o l)(hi:PE X i ty)(hv:PE X value tv)(hs:swapsWith value (some (.Subscript o i R)) pos.line X.env=pure false):
PS X (.Assign [.Subscript o i R] value pos) (J7 l ty tv):=by
 intro Z s σ H D I h;refine wpAny_Assign_Subscript (bK (hv Z s σ H _ I h) λr s1⟨v,H1,I1,rv,q1⟩=>bK (ho Z s1 σ H1 _ I1 q1) λu s2⟨x,H2,c,L,q2⟩=>bK (hi Z s2 σ H2 _ c q2) λj s3⟨y,A,f,N,a,d,ex,g,e⟩=>?_) hs;subst ex;obtain rfl:u=Value.ref a:=L;exact zt hu f g N rv λs4 t=>⟨σ,d,t,e⟩
end
theorem uO(h:Heap)(hb:sysModules<h.objs.size):bJ P w H (h.push {cls:=.type "dict",data:=.dict #[]}) h.objs.size (.dK []):=
 ⟨Nat.zero_le _,beq_eq_false_iff_ne.mpr (Ne.symm (Nat.ne_of_lt hb)),[],.nil,Heap.DictOf.new h⟩
theorem A_(h:Heap)(hb:sysModules<h.objs.size):bJ P w H (h.push {cls:=.type "dict",data:=.dict #[]}) h.objs.size (.dT []):=
 ⟨Nat.zero_le _,beq_eq_false_iff_ne.mpr (Ne.symm (Nat.ne_of_lt hb)),[],.nil,_,#[],0,#[15],⟨rfl,rfl,rfl⟩,rfl,rfl,List.nodup_nil⟩
def Ho:TE:=λ_ H Q=>∀p,(2,H p)->Q (.ref p) (upd H p (.dK []))
section
variable{X:Cx}{pos:Pos}
theorem Ba:PE X (.Dict [] [] pos) Ho:=λZ s σ H Q I h=>
 wpAny_Dict_empty ⟨#[14],_,I.laid (a:=s.heap.objs.size) (o:=.dK []) (t':=s.toks) (λ_ _ q=>(22,q)) (Nat.le_refl _) (uO s.heap I.big),rfl,h _ (I.bH.fresh (Nat.le_refl _))⟩
end
structure M1(X:Cx)(o:Expr)(m:Str)(w:Pos)(e:Expr)(aU:Pos):Prop where
 base:attributeBase o m X.env (eval o X.env)=eval o X.env
 LL:(60,[e],([e]:#[4]))
 line:(4,w.endLine==aU.line)
 trees:backTo aU (starEach [e] X.env)=[(false,eval e X.env)]
structure M2(X:Cx)(o:Expr)(m:Str)(w:Pos)(e f:Expr)(aU:Pos):Prop where
 base:attributeBase o m X.env (eval o X.env)=eval o X.env
 LL:(60,[e,f],([e,f]:#[4]))
 line:(4,w.endLine==aU.line)
 trees:backTo aU (starEach [e,f] X.env)=[(false,eval e X.env),(false,eval f X.env)]
def M7(H:Hp)(a:Addr):Prop:=(∃kvs,Rd H a (.dK kvs))\/ ∃kvs,Rd H a (.dT kvs)
theorem Bb{X:Cx}{σ:St}(I:#[6])(d:M7 H a):
s.TypeIs (.ref a) "dict"/\(∀b,Value.ref a=.ref b-> ∃ob,(0,s.heap.get? b,ob)/\(2,ob.dict))/\(a==sysModules)=false:=by
 rcases d with⟨kvs,e⟩|⟨kvs,e⟩
 ·obtain⟨_,hd,vs,_,dd⟩:=iU I.bH e
  refine⟨dd.typeIs,λb q=>?_,hd⟩;cases q;obtain⟨ob,_,_,h1,h2,_⟩:=dd;rw[1,ob,h1,h2.2.1]
 ·obtain⟨_,hd,xs,_,dd⟩:=od I.bH e
  refine⟨dd.typeIs,λb q=>?_,hd⟩;cases q;obtain⟨ob,_,_,h1,h2,_⟩:=dd;rw[1,ob,h1,h2.2.1]
section
variable{X:Cx}{σ:St}{d:V}{r:Value}{E:#[8]}
theorem Hq(hu:A.units+1<cLine)(I:#[6])(g:e4 H a y o)(N:RelV y u)(h:∀t s',Inv X Z σ H s'->RelV (o.getD .bu) t->Q t s'):
wpAny (model X.prog X.w) A (call (.builtin "dict.get") [.ref a,u]) Q E s:=by
 rcases g with⟨kvs,k,e,c,l⟩|⟨kvs,k,b,e,c,F,l⟩
 ·subst c
  obtain⟨z,hd,vs,rel,dd⟩:=iU I.bH e;refine call_meetsIn PySem.F.slot_dict_get dd.typeIs PySem.F.entry_dict_get (PySem.F.args_dict_get_2 _ _) (meets_dict_get (bx X.prog X.w) a (n' N) hd) ⟨_,dd.mapOf,h _ _ (I.tok _) ?_⟩;rw[l];exact(rel.val k).getD rfl
 ·subst c
  rw[20,od];refine call_meetsIn PySem.F.slot_dict_get dd.typeIs PySem.F.entry_dict_get (PySem.F.args_dict_get_2 _ _) (meetsH_dict_get (tupleKind (bx X.prog X.w)) a b hd) ⟨tupleKind_room_in1 hu,k,xs,i' I.bH F,dd,h _ _ (I.tok _) ?_⟩;rw[l];exact(rel.val k).getD rfl
theorem Hr(hu:A.units+1<cLine)(I:#[6])(g:e4 H a y o)(N:RelV y u)(rd:RelV d r)(h:∀t s',Inv X Z σ H s'->RelV (o.getD d) t->Q t s'):
wpAny (model X.prog X.w) A (call (.builtin "dict.get") [.ref a,u,r]) Q E s:=by
 rcases g with⟨kvs,k,e,c,l⟩|⟨kvs,k,b,e,c,F,l⟩
 ·subst c
  obtain⟨z,hd,vs,rel,dd⟩:=iU I.bH e;refine call_meetsIn PySem.F.slot_dict_get dd.typeIs PySem.F.entry_dict_get (PySem.F.args_dict_get_3 _ _ _) (meets_dict_get_default (bx X.prog X.w) a (n' N) hd r) ⟨_,dd.mapOf,h _ _ (I.tok _) ?_⟩;rw[l];exact(rel.val k).getD rd
 ·subst c
  rw[20,od];refine call_meetsIn PySem.F.slot_dict_get dd.typeIs PySem.F.entry_dict_get (PySem.F.args_dict_get_3 _ _ _) (meetsH_dict_get_default (tupleKind (bx X.prog X.w)) a b hd r) ⟨tupleKind_room_in1 hu,k,xs,i' I.bH F,dd,h _ _ (I.tok _) ?_⟩;rw[l];exact(rel.val k).getD rd
end
def Ht(l ty:TE):TE:=λσ H Q=>l σ H λx H1=>∃a,(3,x,.ref a,M7 H1 a,ty σ H1 λy H2=>∃o,e4 H2 a y o/\Q (o.getD .bu) H2)
def Hu(l ty tx:TE):TE:=λσ H Q=>l σ H λx H1=>∃a,(3,x,.ref a,M7 H1 a,ty σ H1 λy H2=>tx σ H2 λz A=>∃o,e4 A a y o/\Q (o.getD z) A)
section
variable{X:Cx}{o e f:Expr}{w aU:Pos}{l ty tx:TE}
theorem Bc(hu:X.A.units+1<cLine)(ho:PE X o l)(he:PE X e ty)(m:M1 X o "get" w e aU):PE X (31,o,"get",[e],aU) (Ht l ty):=by
 intro Z s σ H Q I h;refine wpAny_Call_method m.base m.LL m.line PySem.F.plainAttrs_dict PySem.F.slot_dict_get PySem.F.type_dict_get (bK (ho Z s σ H _ I h) λu s1⟨x,H1,I1,L,a,ex,d,q1⟩=>?_);subst ex;obtain rfl:u=Value.ref a:=L;obtain⟨i,j,_⟩:=Bb I1 d;refine⟨i,j,?_⟩;rw[m.trees];refine Calls.callWith_builtin rfl (Calls.evalArgs_plain (Calls.spliced_cons (bK (he Z s1 σ H1 _ I1 q1) λk s2⟨y,H2,c,N,p,g,q2⟩=>Calls.spliced_nil ?_)));exact Hq hu c g N λt s3 f b=>⟨_,H2,f,b,q2⟩
theorem Be(hu:X.A.units+1<cLine)(ho:PE X o l)(he:PE X e ty)(S:PE X f tx)(m:M2 X o "get" w e f aU):PE X (31,o,"get",[e,f],aU) (Hu l ty tx):=by
 intro Z s σ H Q I h;refine wpAny_Call_method m.base m.LL m.line PySem.F.plainAttrs_dict PySem.F.slot_dict_get PySem.F.type_dict_get (bK (ho Z s σ H _ I h) λu s1⟨x,H1,I1,L,a,ex,d,q1⟩=>?_);subst ex;obtain rfl:u=Value.ref a:=L;obtain⟨i,j,_⟩:=Bb I1 d;refine⟨i,j,?_⟩;rw[m.trees]
 refine Calls.callWith_builtin rfl (Calls.evalArgs_plain (Calls.spliced_cons (bK (he Z s1 σ H1 _ I1 q1) λv s2⟨y,H2,c,N,q2⟩=>
  Calls.spliced_cons (bK (S Z s2 σ H2 _ c q2) λB s3⟨z,A,q,n,p,g,k⟩=>Calls.spliced_nil ?_))))
 exact Hr hu q g N n λt s4 r b=>⟨_,A,r,b,k⟩
end
section
variable{X:Cx}{σ:St}{kvs:(5,Key,V)}{E:#[8]}
theorem Bf(I:#[6])(e:Rd H a (.dK kvs))(h:∀p s',(2,H p)->Inv X Z σ (upd H p (.dK kvs)) s'->Q (.ref p) s'):wpAny (model X.prog X.w) A (call (.type "dict") [.ref a]) Q E s:=by
 obtain⟨z,hd,vs,rel,dd⟩:=iU I.bH e;rw[0,kt_call_dict hd dd (26,rel.length,z) λh' i hs=>?_,h _ _ (I.bH.fresh (Nat.le_refl _)) (I.laid (a:=s.heap.objs.size) (o:=.dK kvs) (t':=s.toks) (λb q hq=>?_) (Nat.le_refl _) (wV z (beq_eq_false_iff_ne.mpr (Ne.symm (Nat.ne_of_lt I.big))) rel i))];exact(hs.2 b (Nat.ne_of_lt (Heap.lt_size hq))).trans (22,hq)
end
section
variable{X:Cx}{σ:St}{E:#[8]}
end
end L2
namespace TK
open PySem PySem.W PySem.Calls PyProof.Rows
variable{XP:(7,#[11],Heap)}
theorem ov{P:Params}{h:Heap}:∀(ns:List Int)(vs:#[5]),WellAll P h vs (ns.map WData.int)->IntsAre vs ns:=by
 intro ns
 induction ns with
 |nil=>
  intro vs w;rw[List.map_nil]at w;cases w;exact .nil
 |cons n ns ih=>
  intro vs w;rw[List.map_cons]at w
  cases w with
  |cons a b=>
   cases a;exact .cons _ _ (ih _ b)
theorem zv{l:OpenLaw}{n:Nat}(hn:(0,l.most,n)){P:Params}{h:Heap}{i:List WData}{j:#[5]}
(e:(4,l.row.toRowW.claim.pre i))(u:WellAll P h j i):
∃a vs ns,(3,j,[Value.ref a],i=[WData.list (ns.map WData.int)],(0,h.get? a,{cls:=.type "list",data:=.seq vs.toArray})/\IntsAre vs ns/\ns.length<=n):=by
 have f:(4,WShape.hasAll [] i [.list .int]):=(pre_splitW e).1;have hc:(4,l.pre.holds [] {args:=i}):=(pre_splitW e).2;obtain⟨d,r,rfl,h1,h2⟩:=hasAllW_cons f;obtain rfl:=hasAllW_nil h2;obtain⟨xs,rfl,J⟩:=hasW_list h1;obtain⟨ns,rfl⟩:=items_int J;have c:ns.length<=n:=by
  unfold OpenLaw.pre at hc;have h4:(4,(WTm.not (.lt (.lit (.int (n:Int))) (.len (.arg 0)))).holds [] {args:=[.list (ns.map .int)]}):=by
   have h4:=(holds_andW hc).1;rw[hn]at h4;exact h4
  have h5:=condW_of h4 (w_not (w_lt w_lit (w_len_list (w_arg rfl))));rw[List.length_map]at h5;refine Nat.le_of_not_lt λq=>?_
  have q':(n:Int)<((ns.length:Nat):Int):=#[3]
  first
   |(rw[decide_eq_true q']at h5;exact absurd h5 #[2])
   |(simp at h5;omega)
 cases u with
 |cons b C=>
  cases C
  cases b with
  |list ho W=>exact⟨_,_,ns,rfl,rfl,ho,ov ns _ W,c⟩
theorem zw(l:OpenLaw)(i:List WData):(4,l.row.toRowW.claim.post i (.bool true) i):=
 postW_of (r:=l.row.toRowW) (X:=(true==true))
  (show(4,WShape.has [] (.bool true) .bool)by first|rfl|decide|simp[WShape.has,WShape.arms,WShape.armsAll])
  (show(0,(WTm.eq .res (.lit (.bool true))).value [] {args:=i,res:=some (.bool true),after:=i},.bool (true==true))from w_eq_bool (w_res rfl) w_lit) rfl
theorem uP{l:OpenLaw}{n:Nat}{q:Program}{b:#[1]}{m:(7,World,Heap)}{d:DefRec}
(hn:(0,l.most,n))(g:d.params.defaults=[])
(call:∀(w:World)(ey c:Shared)(mg mb:#[11])(fa:Addr)(o:Obj)(pm cd p:Value)(a:Addr)(vs:#[5])(ns:List Int),
(11,Ground q b [] XP w ey mg mb c.heap,m w c.heap,(0,c.heap.get? fa,o),o.data=.func (docDef d.name d.params d.body d.scope pm cd p),(11,c.heap.CodeRec cd d.name,(0,mg d.name,.ref fa),(0,c.heap.get? a,{cls:=.type "list",data:=.seq vs.toArray}),IntsAre vs ns,ns.length<=n->c.gens= #[]->
codeAny (model l.prog w) callerA (.call (.ref fa) ⟨[.ref a],[]⟩) (λr s'=>(3,r,.ok (.ret (.bool true)),OldK c.heap s'.heap,s'.os=c.os/\AllBare s'.gens)) c))):
WalkO q b XP m l.row.toRowW d [] (λf vs=>PySem.call f vs):=by
 intro w ey c mg mb G Y fa o pm cd p dV kV ho hd W I k hg i j as e y x u v;obtain rfl:dV=.none:=Dflts.none I g;obtain rfl:kV=.none:=Dflts.noKw I;obtain⟨a,vs,ns,rfl,rfl,s,t,h⟩:=zv hn e u;refine enter_call (codeAny_mono (call w ey c mg mb fa o pm cd p a vs ns G Y ho (fd_plain hd) W k s t h hg) λr s' hq=>?_);obtain⟨rfl,h2,J,h4⟩:=hq;exact⟨.inl ⟨.bool true,.bool true,[],rfl,λ_=>rfl,.bool true,zw l _,λ_=>⟨List.Pairwise.nil,λ_ hm=>(nomatch hm)⟩⟩,h2,J,h4⟩
section
variable{prog:Program}{w:World}{A:Around}{E:#[8]}{s:Shared}{K:Frag}
def ledger(h:Heap)(L d:Addr):#[9]:=(List.range h.objs.size).filterMap λa=>if a=L\/a=d then none else(h.get? a).map λo=>(a,o)
end
end TK
namespace L2
open PySem PySem.Spec PyProof.Rows
variable{K:PySem.W.Frag}{XP:(7,#[11],Heap)}{fd:FuncData}
theorem gN:∀{vs:#[5]}{ns:List Int},IntsAre vs ns->Vals (ns.map V.int) vs
 |_,_,.nil=>.nil
 |_,_,.cons n t h=>.cons ⟨t,rfl⟩ (gN h)
def Hv(H:Hp):Prop:=∀b,(2,H b)\/ ∃o xs,(0,H b,.cR o (.lst xs))
theorem Bg{P:Program}{w:World}{mg mb:#[11]}{CX:Fl}{k:Nat}{fa a:Addr}{x:Str}{sp:Sp}{c:Shared}{vs:#[5]}{ns:List Int}
(D:K.In c.heap)(G:c.heap.Ns mainGlobals mg)(hb:c.heap.Ns builtinsNs mb)(W5:∀x:Str,x≠ "__name__"->mb x=bootBuiltins x)(g:c.heap.NoLimit)(hg:c.gens= #[])
(ha:(0,c.heap.get? a,{cls:=.type "list",data:=.seq vs.toArray}))(hi:IntsAre vs ns)(hl:(8,ns.length))(hr:bT k callerA)
(F:∀base:Heap,K.In base->base.Ns mainGlobals mg->aQ P w K mg base CX k fa fd [x] sp)(f:∀(s:Shared)(u:Value),BindsTo s fd ⟨[u],[]⟩ [(x,u)])
(lK:∀H:Hp,Hv H->c_ K H a (ns.map V.int)->sp [.ref a] H (λv _=>v=.bl true) λ_ _ _=>False)
(i:∀H e s',CX [] H c (λ_ _ _=>False) e s'->False):
codeAny (model P w) callerA (.call (.ref fa) ⟨[.ref a],[]⟩) (λr s'=>(3,r,.ok (.ret (.bool true)),OldK c.heap s'.heap,s'.os=c.os/\AllBare s'.gens)) c:=by
 have rv:=gN hi;have I:=hi.length;have E:∀H:Hp,(11,Hv H,c_ K H a (ns.map V.int),i6 P w H c.heap,∀b,H b≠none->b=a,(H a≠none->(2,K.lookup a))->
   codeAny (model P w) callerA (.call (.ref fa) ⟨[.ref a],[]⟩) (λr s'=>(3,r,.ok (.ret (.bool true)),OldK c.heap s'.heap,s'.os=c.os/\AllBare s'.gens)) c):=by
  intro H B C bH l L;have A:∀{b:Addr}{o:Obj},(0,c.heap.get? b,o)->(2,H b)->(0,(sM c.heap H).get? b,o):=λe n=>AI e n
  have p:∀{b:Addr}{o:Obj}{es:Array DictEntry}{ep:Nat},(0,c.heap.get? b,o)->o.data=.dict es ep->(2,H b):=λ{b o es ep}e d=>by
   cases q:H b with
   |none=>rfl
   |some u=>
    have M:b=a:=l b (by rw[q];simp);subst M;rw[6,ha];have d':Data.seq vs.toArray _=Data.dict es ep:=d;cases d'
  have t:∀{b:Addr}{m:#[11]},c.heap.Ns b m->(sM c.heap H).Ns b m:=λ{b m}⟨o,es,ep,e,d,r⟩=>⟨o,es,ep,A e (p e d),d,r⟩
  have y:K.In (sM c.heap H):=λb o e=>A (D b o e) (by
   cases q:H b with
   |none=>rfl
   |some u=>
    have M:b=a:=l b (by rw[q];simp);subst M
    rw[6,L (by rw[q];simp)])
  have N:Mod K mg (sM c.heap H):=⟨y,t G,⟨mb,t hb,W5⟩,let⟨R,h1,h2⟩:=g;⟨R,t h1,h2⟩⟩;have e0:m2 P w K mg (sM c.heap H) callerA [] c H:=⟨rfl,N,λb o e=>Du e,Nat.le_of_eq (zf _ _),trivial,λb hb=>absurd (show b∈([]:List Addr)from hb) (by simp),bH,.of_eq hg⟩;refine codeAny_mono ((F _ y (t G)).run callerA [] c H ⟨[.ref a],[]⟩ [.ref a] [.ref a] _ _ hr e0 (f c (.ref a)) (.cons rfl .nil) (lK H B C)) λr s' h=>?_
  cases r with
  |error e=>exact(i H e s' h).elim
  |ok fl=>
   cases fl with
   |next=>exact False.elim h
   |brk=>exact False.elim h
   |cont=>exact False.elim h
   |ret u=>
    obtain⟨v,H',os,bare,un,Q,r',q⟩:=h;have q':v=.bl true:=q;subst q';obtain rfl:u=Value.bool true:=r';refine⟨rfl,OldK.of_keep λb o e=>?_,os,bare⟩
    cases q:H b with
    |none=>exact un.keep b o e q (by intro z;exact absurd (show b∈([]:List Addr)from z) (by simp)) (by simp)
    |some u=>
     rcases B b with z|⟨ob,xs,z⟩
     ·rw[q]at z;cases z
     ·have j:=un.kL b ob _ z
      obtain⟨O,_⟩:=bH b _ z;obtain⟨W,_⟩:=Q b _ j;rw[e]at O;cases O;exact W
 cases hk:K.lookup a with
 |some o=>
  have e:=D a o hk;rw[6,ha];refine E (λ_=>none) (λ_=>.inl rfl) (.inr ⟨_,vs.toArray,_,hk,rfl,rfl,rfl,by rw[List.size_toArray,I];exact hl,by simpa using rv⟩) (λb u z=>by have J:(0,(none:Option HO),u):=z;cases J) (λb z=>absurd rfl z) λz=>absurd rfl z
 |none=>
  refine E (λb=>if b=a then some (.cR {cls:=.type "list",data:=.seq vs.toArray} (.lst (ns.map V.int)))else none) (λb=>?_) (.inl (.inr ⟨{cls:=.type "list",data:=.seq vs.toArray},if_pos rfl⟩)) (λb u z=>?_) (λb z=>?_) λ_=>hk
  ·by_cases hb:b=a
   ·exact .inr ⟨_,_,if_pos hb⟩
   ·exact .inl (if_neg hb)
  ·by_cases hb:b=a
   ·have J:=(if_pos hb).symm.trans z
    cases J;subst hb;exact⟨ha,(10,List.length_map,hl),vs,_,rv,ha⟩
   ·have J:=(if_neg hb).symm.trans z
    cases J
  ·by_cases hb:b=a
   ·exact hb
   ·exact absurd (if_neg hb) z
theorem DT{l:PySem.W.OpenLaw}{n k:Nat}{q:Program}{b:#[1]}{m:(7,World,Heap)}{d:DefRec}{K:Params->PySem.W.Frag}{CX:World->Fl}{sp:World->Sp}{x:Str}
(hn:(0,l.most,n))(t:(8,n))(g:d.params.defaults=[])(hr:bT k callerA)
(hY:∀(w:World)(h:Heap),m w h->(K w.params).In h)
(F:∀(w:World)(mg:#[11])(fa:Addr)(h:Heap),(K w.params).In h->h.Ns mainGlobals mg->(0,mg d.name,.ref fa)->
∃fd:FuncData,(∀(s:Shared)(u:Value),BindsTo s fd ⟨[u],[]⟩ [(x,u)])/\
∀base:Heap,(K w.params).In base->base.Ns mainGlobals mg->aQ l.prog w (K w.params) mg base (CX w) k fa fd [x] (sp w))
(lK:∀(w:World)(H:Hp)(a:Addr)(ns:List Int),ns.length<=n->Hv H->c_ (K w.params) H a (ns.map V.int)->sp w [.ref a] H (λv _=>v=.bl true) λ_ _ _=>False)
(i:∀(w:World)(H:Hp)(s:Shared)(e:Value)(s':Shared),CX w [] H s (λ_ _ _=>False) e s'->False):
PySem.W.WalkO q b XP m l.row.toRowW d [] (λf vs=>PySem.call f vs):=by
 refine TK.uP hn g λw ey c mg mb fa o pm cd p a vs ns G Y ho hd W y z A j hg=>?_
 have D:=hY w _ Y;obtain⟨fd,hb,r⟩:=F w mg fa _ D G.T.g y;exact Bg D G.T.g G.T.b G.T.builtins G.T.nolimit hg z A (Nat.le_trans j t) hr r hb (λH B C=>lK w H a ns j B C) λH e s'=>i w H c e s'
def inClass(s:Stmt)(j:Nat):Stmt:=match s with
 | .ClassDef _ _ _ body _ _ _ _ _ _ _=>body.getD j (.Pass ⟨0,0,0,0⟩)
 |_=>.Pass ⟨0,0,0,0⟩
def jY(s:Stmt):Arguments:=match s with
 | .FunctionDef _ a _ _ _ _ _ _ _ _=>a
 |_=>{posonlyargs:=[],args:=[],vararg:=none,kwonlyargs:=[],kw_defaults:=[],kwarg:=none,defaults:=[]}
def c1(s:Stmt):List Stmt:=match s with
 | .FunctionDef _ _ b _ _ _ _ _ _ _=>b
 |_=>[]
def az(s:Stmt):Scope:=match s with
 | .FunctionDef _ _ _ _ _ _ a _ _ _=>a
 |_=>{kind:=.function,names:=[],isGenerator:=false,isCoroutine:=false}
abbrev cy:Fl:=λ_ _ _ _ _ _=>False
abbrev E0:XK:=λ_ _ _=>False
structure b9(K:PySem.W.Frag)(x g:Str)(st:Stmt)(f:Addr)(fd:FuncData):Prop where
 ex:∃(oc:Value)(m:Option Addr)(kV p pm:Value)(an:Option Addr)(j ct:Value)(d:Array (Option Value)),
  (3,fd,PySem.W.fnOf x g (jY st) (c1 st) (az st) .none kV p pm an j ct,(0,K.lookup f,⟨oc,m,.func fd,d⟩),(4,codeIn K j g))
 kp:(4,keepIn K (.ref f))
section
variable{P:Program}{w:World}{mg:#[11]}{base:Heap}
theorem b9.ok{x g:Str}{st:Stmt}{f:Addr}{N ps:#[1]}{k:Nat}{sp:Sp}(F:(12,x,g,st))(S:aH N ps (az st))(len:∀vs H Q E,sp vs H Q E->vs.length=ps.length)
(c:∀(j:Value)(A:Around)(outer:List Env)(s:Shared)(H:Hp)(vs:List V)(Q:VK)(E:XK),bT k (A.deeper (envOfC g (az st) s.heap.objs.size f j))->sp vs H Q E->
∃t,qM (gk cy P w K mg base N g (az st) f j A outer s H E).Fc (c1 st) t/\t {nx:=λ_ H'=>Q .bu H',rt:=Q} (start N vs) H):aQ P w K mg base cy (k+1) f fd ps sp:=by
 obtain⟨oc,m,kV,p,pm,an,j,ct,d,rfl,lk,W⟩:=F.ex;refine Fm lk W S len λA outer s H vs Q E hr lK=>?_
 obtain⟨t,h,q⟩:=c j A outer s H vs Q E hr lK;rw[1,t,h.Fc,q]
theorem b9.binds{x g:Str}{st:Stmt}{f:Addr}{ps:#[1]}(F:(12,x,g,st))
(h:∀(kV p pm:Value)(an:Option Addr)(j ct:Value)(us:#[5]),us.length=ps.length->bindArgs (PySem.W.fnOf x g (jY st) (c1 st) (az st) .none kV p pm an j ct) ⟨us,[]⟩=pure (ps.zip us)):Binds K fd ps []:=by
 obtain⟨oc,m,kV,p,pm,an,j,ct,d,rfl,lk,W⟩:=F.ex;exact .all (h kV p pm an j ct)
theorem Bh{x g:Str}{st:Stmt}{f:Addr}{oc:Value}{m an:Option Addr}{d:Array (Option Value)}{kV p pm j ct:Value}(l:(0,K.lookup f,⟨oc,m,.func (PySem.W.fnOf x g (jY st) (c1 st) (az st) .none kV p pm an j ct),d⟩))
 (c:(4,codeIn K j g))(k:(4,keepIn K (.ref f))):b9 K x g st f (PySem.W.fnOf x g (jY st) (c1 st) (az st) .none kV p pm an j ct):=⟨⟨oc,m,kV,p,pm,an,j,ct,d,rfl,l,c⟩,k⟩
end
theorem c8{A:Around}{k:Nat}(hr:bT k A):A.units+1<cLine:=Nat.lt_of_le_of_lt (Nat.add_le_add_left (#[2]:1<=64) _) hr.units
theorem rJ{n:Nat}(h:n<=1000):n<sizeLine:=Nat.lt_of_le_of_lt h #[2]
section
variable{X:Cx}
end
def aO(H H':Hp):Prop:=∀b o,(0,H b,o)->(0,H' b,o)
theorem aO.refl(H:Hp):aO H H:=λ_ _ h=>h
theorem aO.trans{H H1 H2:Hp}(a:aO H H1)(b:aO H1 H2):aO H H2:=λc o h=>b c o (a c o h)
theorem aO.free{H H':Hp}(e:aO H H'){l:Addr}(h:H' l=Option.none):H l=Option.none:=by
 cases q:H l with
 |none=>rfl
 |some o=>
  rw[e l o q]at h;cases h
theorem aO.seq{H H':Hp}{a:Addr}{xs:List V}(e:aO H H')(h:c_ K H a xs):c_ K H' a xs:=by
 rcases h with(h|⟨o,h⟩)|h
 ·exact .inl (.inl (e _ _ h))
 ·exact .inl (.inr ⟨o,e _ _ h⟩)
 ·exact .inr h
end L2
set_option maxHeartbeats 4000000
namespace T
open PySem PyProof.Rows
structure Ord(prog:Program)(w:World)(A:Around)(s:Shared)(κ:SortKind)(S:(1,Keyed))(lt:Keyed->Keyed->Bool):Prop where
 run:∀x y,S x->S y-> ∀(E:#[8])(Q:(18,Bool)),Q (lt x y) s->(27,keyLt' κ x.1 y.1)
 W6:∀x y,S x->S y->(4,lt x y)->lt y x=false
 le:∀x y z,(11,S x,S y,S z,lt y x=false,lt z y=false->lt z x=false)
section
variable{prog:Program}{w:World}{A:Around}{E:#[8]}{s:Shared}{κ:SortKind}{S:(1,Keyed)}{lt:Keyed->Keyed->Bool}
def bs(W7:Nat->StateT SortSt Sem (Option Bool))(n a b:Nat):StateT SortSt Sem (Option Nat):=do
 let mut lo:=a
 let mut hi:=b
 for _ in[0:n]do
  if lo≥hi then break
  let m:=lo+(hi-lo)/2
  let some up<-W7 m|return none
  if up then lo:=m+1 else hi:=m
 return some hi
end
structure Mc(lt:Keyed->Keyed->Bool)(a b C:List Keyed)(ia ib:Nat):Prop where
 perm:(C++(a.drop ia++b.drop ib)).Perm (a++b)
 Hw:C.Pairwise λx y=>lt y x=false
 low:∀x∈C,∀y∈a.drop ia++b.drop ib,lt y x=false
structure Ends(lt:Keyed->Keyed->Bool)(a b r:List Keyed):Prop where
 perm:r.Perm (a++b)
 Hw:r.Pairwise λx y=>lt y x=false
section
variable{lt:Keyed->Keyed->Bool}{a b C:List Keyed}{ia ib:Nat}
end
structure M8(st g:SortSt):Prop where
 k:kindOf g=kindOf st
 a:arrOf g=arrOf st
 p:pendingOf g=pendingOf st
 f:failedOf g=failedOf st
section
variable{prog:Program}{w:World}{A:Around}{E:#[8]}{s:Shared}{κ:SortKind}{S:(1,Keyed)}{lt:Keyed->Keyed->Bool}
structure Mf(S:(1,Keyed))(lt:Keyed->Keyed->Bool)(a b:Array Keyed):Prop where
 Sa:∀i(h:i<a.size),S a[i]
 Sb:∀i(h:i<b.size),S b[i]
 sa:∀i j(hi:i<a.size)(g:j<a.size),i<=j->lt a[j] a[i]=false
 sb:∀i j(hi:i<b.size)(g:j<b.size),i<=j->lt b[j] b[i]=false
variable{a b C:Array Keyed}{ia ib:Nat}
end
section
variable{prog:Program}{w:World}{A:Around}{E:#[8]}{s:Shared}{κ:SortKind}{S:(1,Keyed)}{lt:Keyed->Keyed->Bool}
end
section
variable{prog:Program}{w:World}{A:Around}{E:#[8]}{s:Shared}{κ:SortKind}{S:(1,Keyed)}{lt:Keyed->Keyed->Bool}{a b C:Array Keyed}{x m:Nat}
end
section
variable{prog:Program}{w:World}{A:Around}{E:#[8]}{s:Shared}{κ:SortKind}{S:(1,Keyed)}{lt:Keyed->Keyed->Bool}
end
structure Bs(κ:SortKind)(S:(1,Keyed))(st:SortSt):Prop where
 k:kindOf st=κ
 f:(2,failedOf st)
 S:∀x∈(arrOf st).toList,S x
section
variable{prog:Program}{w:World}{A:Around}{E:#[8]}{s:Shared}{κ:SortKind}{S:(1,Keyed)}{lt:Keyed->Keyed->Bool}
end
section
variable{prog:Program}{w:World}{A:Around}{E:#[8]}{s:Shared}{κ:SortKind}{S:(1,Keyed)}{lt:Keyed->Keyed->Bool}
end
section
variable{prog:Program}{w:World}{A:Around}{E:#[8]}{s:Shared}{κ:SortKind}{S:(1,Keyed)}{lt:Keyed->Keyed->Bool}
end
inductive DU:Nat->(5,Nat,Nat×Nat)->(1,List (List Keyed))where
 |nil{o:Nat}:DU o [] []
 |cons{o p:Nat}{r:List Keyed}{ps:(5,Nat,Nat×Nat)}{f:List (List Keyed)}(h:DU (o+r.length) ps f):DU o ((o,r.length,p)::ps) (r::f)
section
variable{prog:Program}{w:World}{A:Around}{E:#[8]}{s:Shared}{κ:SortKind}{S:(1,Keyed)}{lt:Keyed->Keyed->Bool}
structure Rn(κ:SortKind)(S:(1,Keyed))(lt:Keyed->Keyed->Bool)(c:List Keyed)(st:SortSt)(a:List (List Keyed))(rest:List Keyed):Prop where
 b:Bs κ S st
 perm:(arrOf st).toList.Perm c
 arr:(arrOf st).toList=a.flatten++rest
 pend:DU 0 (pendingOf st).toList a
 Hw:∀r∈a,r.Pairwise (λx y=>lt y x=false)/\0<r.length
end
section
variable{prog:Program}{w:World}{A:Around}{E:#[8]}{s:Shared}{κ:SortKind}{S:(1,Keyed)}{lt:Keyed->Keyed->Bool}{c:List Keyed}{st:SortSt}{a:List (List Keyed)}{rest:List Keyed}
end
end T
namespace M
open PySem PySem.Spec PyProof.Rows L2
variable{A:Around}{C:(7,Int,Int)}{E Q:#[8]}{G G' G1 G2 H H' H0 H1:Hp}{K:PySem.W.Frag}{N ps:#[1]}{P prog:Program}{QD:(1,Hp)}{RR:Addr->Result->(1,Shared)}{X:Cx}{a p:Addr}{e:Expr}{env:Env}{ep i j n t':Nat}{es oH:Array DictEntry}{fd:FuncData}{g:Int->Int->V}{h:Heap}{its us:#[5]}{aZ:(5,Key,V)}{neg:Bool}{o:HO}{ob:Obj}{op:CmpOp}{Z:#[9]}{pos py hB:Pos}{r:R2}{s s':Shared}{U:Scope}{u:Value}{v:V}{vs ws:List V}{w:World}{y:Str}{α β κ:Type}{σ:L2.St}
def ExcAt(a C:Addr)(h:Heap):Prop:=∃o,(0,h.get? a,o)/\o.cls=.ref C
def M9(t:Addr):Data:=.fields #[.ref t,.none,.none,.none,.bool false,.none]
def Hx(a C T:Addr)(h:Heap):Prop:=∃t d,(0,h.get? a,⟨.ref C,some T,M9 t,d⟩)
def Fq(T:Addr)(fs:(5,Str,V))(h:Heap):Prop:=∃Y,h.Ns1 T Y/\(∀f,hh (fs.lookup f) (Y f))/\PySem.Within Y (fs.map (·.1))
def o9(H:Hp)(a C:Addr):(1,Option (5,Str,V))
 |none=>(0,H a,.ext (ExcAt a C))
 |some fs=>∃T,T≠a/\(0,H a,.ext (Hx a C T))/\(0,H T,.ext (Fq T fs))
theorem o9.to{C:Addr}{o:Option (5,Str,V)}(e:∀b j,(0,H b,.ext j)->(0,H' b,.ext j))(h:o9 H a C o):o9 H' a C o:=by
 cases o with
 |none=>exact e _ _ h
 |some fs=>obtain⟨T,n,h1,h2⟩:=h;exact⟨T,n,e _ _ h1,e _ _ h2⟩
inductive D where
 |bu|bl(b:Bool)|int(i:Int)|str(x:Str)|tup(xs:List D)|lst(xs:List D)
 |dK(kvs:(5,Key,D))|dT(kvs:(5,List Key,D))|adr(p:Addr)|exc(C:Addr)(o:Option (5,Str,V))|obj(C:Addr)(kvs:(5,Key,D))
variable{R:(1,List D)}{ds xs ys:List D}{g2:Int->Int->D}{kvs:(5,List Key,D)}{r2 AD:D->D->(1,(1,D))}
def zx:Key->Str
 | .inr x=>x
 | .inl _=> ""
def ko(q:Key×V):Str×V:=(zx q.1,q.2)
mutual
def Rep(K:PySem.W.Frag)(H:Hp):(7,D,V)
 | .bu,v=>v=.bu
 | .bl b,v=>v=.bl b
 | .int i,v=>v=.int i
 | .str x,v=>v=.str x
 | .adr p,v=>v=.ref p
 | .exc C o,v=>∃a,v=.ref a/\o9 H a C o
 | .obj C kvs,v=>∃a T aZ,(3,v,.ref a,(0,H a,.ins C T (aZ.map ko)),bc K H kvs aZ)
 | .tup xs,v=>∃a vs,(3,v,.ref a,(0,H a,.tup vs),aE K H xs vs)
 | .lst xs,v=>∃a vs,(3,v,.ref a,c_ K H a vs,aE K H xs vs)
 | .dK kvs,v=>∃a aZ,(3,v,.ref a,Rd H a (.dK aZ),bc K H kvs aZ)
 | .dT kvs,v=>∃a aZ,(3,v,.ref a,Rd H a (.dT aZ),bB K H kvs aZ)
def aE(K:PySem.W.Frag)(H:Hp):(7,List D,List V)
 |[],vs=>vs=[]
 |d::ds,vs=>∃v r,(3,vs,v::r,Rep K H d v,aE K H ds r)
def bc(K:PySem.W.Frag)(H:Hp):(7,(5,Key,D),(5,Key,V))
 |[],ws=>ws=[]
 |(k,d)::r,ws=>∃v q,(3,ws,(k,v)::q,Rep K H d v,bc K H r q)
def bB(K:PySem.W.Frag)(H:Hp):(7,(5,List Key,D),(5,List Key,V))
 |[],ws=>ws=[]
 |(k,d)::r,ws=>∃v q,(3,ws,(k,v)::q,Rep K H d v,bB K H r q)
end
theorem eU{u:HO}(e:aO H H')(h:Rd H a u):Rd H' a u:=h.elim (λz=>.inl (e _ _ z)) λ⟨o,z⟩=>.inr ⟨o,e _ _ z⟩
theorem qP{xs:List V}(e:aO H H')(h:dg K H a xs):dg K H' a xs:=by
 rcases h with(h|⟨o,h⟩)|h
 ·exact .inl (.inl (e _ _ h))
 ·exact .inl (.inr ⟨o,e _ _ h⟩)
 ·exact .inr h
def lP(H H':Hp):Prop:=∀b o,(∀c,o≠ .own c)->(0,H b,o)->(0,H' b,o)
theorem lP.of(e:aO H H'):lP H H':=λb o _ q=>e b o q
theorem lP.seq{xs:List V}(e:lP H H')(h:c_ K H a xs):c_ K H' a xs:=by
 rcases h with(h|⟨o,h⟩)|h
 ·exact .inl (.inl (e _ _ (λ_ z=>nomatch z) h))
 ·exact .inl (.inr ⟨o,e _ _ (λ_ z=>nomatch z) h⟩)
 ·exact .inr h
theorem lP.rd{u:HO}(e:lP H H')(n:∀c,u≠ .own c)(h:Rd H a u):Rd H' a u:=h.elim (λz=>.inl (e _ _ n z)) λ⟨o,z⟩=>.inr ⟨o,e _ _ (λ_ z=>nomatch z) z⟩
mutual
theorem Rep.near{K:PySem.W.Frag}{H H':Hp}(e:lP H H'):∀(d:D)(v:V),Rep K H d v->Rep K H' d v
 | .bu,v,h=>#[18]
 | .bl b,v,h=>#[18]
 | .int i,v,h=>#[18]
 | .str x,v,h=>#[18]
 | .adr x,v,h=>#[18]
 | .exc C o,v,h=>by
  simp only[Rep]at h⊢;obtain⟨a,h1,h2⟩:=h;rw[1,a,h1,h2.to λb j q=>e _ _ (λ_ z=>nomatch z) q]
 | .obj C kvs,v,h=>by
  simp only[Rep]at h⊢;obtain⟨a,T,vs,h1,h2,J⟩:=h;exact⟨a,T,vs,h1,e _ _ (λ_ z=>nomatch z) h2,bc.near e kvs vs J⟩
 | .tup xs,v,h=>by
  simp only[Rep]at h⊢;rw[14,e _ _ (λ_ z=>nomatch z) h2,aE.near e xs vs J]
 | .lst xs,v,h=>by
  simp only[Rep]at h⊢;rw[14,e.seq h2,aE.near e xs vs J]
 | .dK kvs,v,h=>by
  simp only[Rep]at h⊢;rw[14,e.rd (λ_ z=>nomatch z) h2,bc.near e kvs vs J]
 | .dT kvs,v,h=>by
  simp only[Rep]at h⊢;rw[14,e.rd (λ_ z=>nomatch z) h2,bB.near e kvs vs J]
theorem aE.near{K:PySem.W.Frag}{H H':Hp}(e:lP H H'):∀(ds:List D)(vs:List V),aE K H ds vs->aE K H' ds vs
 |[],vs,h=>by simpa only[aE]using h
 |d::ds,vs,h=>by
  simp only[aE]at h⊢;obtain⟨v,r,h1,h2,J⟩:=h;rw[4,v,r,h1,Rep.near e d v h2,aE.near e ds r J]
theorem bc.near{K:PySem.W.Frag}{H H':Hp}(e:lP H H'):∀(ds:(5,Key,D))(vs:(5,Key,V)),bc K H ds vs->bc K H' ds vs
 |[],vs,h=>by simpa only[bc]using h
 |(k,d)::ds,vs,h=>by
  simp only[bc]at h⊢;obtain⟨v,r,h1,h2,J⟩:=h;rw[4,v,r,h1,Rep.near e d v h2,bc.near e ds r J]
theorem bB.near{K:PySem.W.Frag}{H H':Hp}(e:lP H H'):∀(ds:(5,List Key,D))(vs:(5,List Key,V)),bB K H ds vs->bB K H' ds vs
 |[],vs,h=>by simpa only[bB]using h
 |(k,d)::ds,vs,h=>by
  simp only[bB]at h⊢;obtain⟨v,r,h1,h2,J⟩:=h;rw[4,v,r,h1,Rep.near e d v h2,bB.near e ds r J]
end
theorem Rep.mono(e:aO H H')(d:D)(v:V)(h:Rep K H d v):Rep K H' d v:=Rep.near (.of e) d v h
theorem aE.mono(e:aO H H')(ds:List D)(vs:List V)(h:aE K H ds vs):aE K H' ds vs:=aE.near (.of e) ds vs h
theorem bc.mono(e:aO H H')(ds:(5,Key,D))(vs:(5,Key,V))(h:bc K H ds vs):bc K H' ds vs:=bc.near (.of e) ds vs h
theorem bB.mono(e:aO H H')(ds:(5,List Key,D))(vs:(5,List Key,V))(h:bB K H ds vs):bB K H' ds vs:=bB.near (.of e) ds vs h
section
theorem aE.length:∀{ds:List D}{vs:List V},aE K H ds vs->ds.length=vs.length
 |[],vs,h=>by simp only[aE]at h;subst h;rfl
 |d::ds,vs,h=>by
  simp only[aE]at h;obtain⟨v,r,rfl,_,J⟩:=h;simp[aE.length J]
theorem aE.get:∀{ds:List D}{vs:List V}{i:Nat}{d:D},aE K H ds vs->(0,ds[i]?,d)-> ∃v,(0,vs[i]?,v)/\Rep K H d v
 |[],_,_,_,_,e=>by simp at e
 |d::ds,vs,0,d',h,e=>by
  simp only[aE]at h;obtain⟨v,r,rfl,h2,J⟩:=h;simp at e;subst e;rw[1,v,rfl,h2]
 |d::ds,vs,i+1,d',h,e=>by
  simp only[aE]at h;obtain⟨v,r,rfl,h2,J⟩:=h
  simpa using aE.get J (by simpa using e)
theorem aE.J8:∀{ds:List D}{vs:List V}{i:Nat}{v:V},aE K H ds vs->(0,vs[i]?,v)-> ∃d,(0,ds[i]?,d)/\Rep K H d v
 |[],vs,_,_,h,e=>by simp only[aE]at h;subst h;simp at e
 |d::ds,vs,0,d',h,e=>by
  simp only[aE]at h;obtain⟨v,r,rfl,h2,J⟩:=h;simp at e;subst e;rw[1,d,rfl,h2]
 |d::ds,vs,i+1,d',h,e=>by
  simp only[aE]at h;obtain⟨v,r,rfl,h2,J⟩:=h
  simpa using aE.J8 J (by simpa using e)
theorem aE.cons{d:D}(h:Rep K H d v)(t:aE K H ds vs):aE K H (d::ds) (v::vs):=by
 simp only[aE];rw[4,v,vs,rfl,h,t]
theorem aE.nil:aE K H [] []:=by simp only[aE]
theorem aE.append:∀{ds es:List D}{vs ws:List V},aE K H ds vs->aE K H es ws->aE K H (ds++es) (vs++ws)
 |[],es,vs,ws,h,k=>by simp only[aE]at h;subst h;exact k
 |d::ds,es,vs,ws,h,k=>by
  simp only[aE]at h;obtain⟨v,r,rfl,h2,J⟩:=h;exact aE.cons h2 (aE.append J k)
theorem aE.take:∀{ds:List D}{vs:List V}(n:Nat),aE K H ds vs->aE K H (ds.take n) (vs.take n)
 |_,_,0,_=>by simp[aE]
 |[],vs,n+1,h=>by simp only[aE]at h;subst h;simp[aE]
 |d::ds,vs,n+1,h=>by
  simp only[aE]at h;obtain⟨v,r,rfl,h2,J⟩:=h;exact aE.cons h2 (aE.take n J)
theorem aE.drop:∀{ds:List D}{vs:List V}(n:Nat),aE K H ds vs->aE K H (ds.drop n) (vs.drop n)
 |_,_,0,h=>h
 |[],vs,n+1,h=>by simp only[aE]at h;subst h;simp[aE]
 |d::ds,vs,n+1,h=>by
  simp only[aE]at h;obtain⟨v,r,rfl,h2,J⟩:=h;exact aE.drop n J
theorem aE.ints:∀(ns:List Int),aE K H (ns.map D.int) (ns.map V.int)
 |[]=>aE.nil
 |n::ns=>aE.cons (by simp only[Rep]) (aE.ints ns)
theorem aE.lQ:∀{ns:List Int}{vs:List V},aE K H (ns.map D.int) vs->vs=ns.map V.int
 |[],vs,h=>by simp only[List.map_nil,aE]at h;exact h
 |n::ns,vs,h=>by
  simp only[List.map_cons,aE,Rep]at h;obtain⟨v,r,rfl,h2,J⟩:=h;rw[h2,aE.lQ J];rfl
theorem bc.length:∀{ds:(5,Key,D)}{vs:(5,Key,V)},bc K H ds vs->ds.length=vs.length
 |[],vs,h=>by simp only[bc]at h;subst h;rfl
 |(k,d)::ds,vs,h=>by
  simp only[bc]at h;obtain⟨v,r,rfl,_,J⟩:=h;simp[bc.length J]
theorem bB.length:∀{ds:(5,List Key,D)}{vs:(5,List Key,V)},bB K H ds vs->ds.length=vs.length
 |[],vs,h=>by simp only[bB]at h;subst h;rfl
 |(k,d)::ds,vs,h=>by
  simp only[bB]at h;obtain⟨v,r,rfl,_,J⟩:=h;simp[bB.length J]
end
inductive Sl where
 |un|fr(d:D)|ow(d:D)|lk(p:Addr)(d:D)
variable{l:Sl}{Y:#[0]}
def Own(K:PySem.W.Frag)(G H:Hp)(p:Addr):(1,D)
 | .lst ds=>∃vs,(0,H p,.lst vs)/\aE K G ds vs
 | .dK kvs=>∃aZ,(0,H p,.dK aZ)/\bc K G kvs aZ
 | .dT kvs=>∃aZ,(0,H p,.dT aZ)/\bB K G kvs aZ
 | .obj C kvs=>∃T aZ,(0,H p,.ins C T (aZ.map ko))/\bc K G kvs aZ
 |_=>False
theorem Own.mono{d:D}(h:Own K G H p d)(e:aO G G')(k:H' p=H p):Own K G' H' p d:=by
 cases d with
 |lst ds=>rw[9];rw[1,vs,k.trans h1,aE.mono e _ _ h2]
 |dK ds=>rw[9];rw[1,vs,k.trans h1,bc.mono e _ _ h2]
 |dT ds=>rw[9];rw[1,vs,k.trans h1,bB.mono e _ _ h2]
 |obj C ds=>obtain⟨T,vs,h1,h2⟩:=h;exact⟨T,vs,k.trans h1,bc.mono e _ _ h2⟩
 |_=>exact h.elim
def DV:(1,HO)
 | .lst _=>True
 | .dK _=>True
 | .dT _=>True
 | .ins _ _ _=>True
 |_=>False
theorem Own.soft{d:D}(h:Own K G H p d):∃o,(0,H p,o)/\DV o:=by
 cases d with
 |lst ds=>rw[9];rw[1,_,h1,True.intro]
 |dK ds=>rw[9];rw[1,_,h1,True.intro]
 |dT ds=>rw[9];rw[1,_,h1,True.intro]
 |obj C ds=>obtain⟨T,vs,h1,h2⟩:=h;rw[1,_,h1,True.intro]
 |_=>exact h.elim
theorem Own.rep{d:D}(h:Own K G H p d)(e:aO G G')(k:G' p=H p):Rep K G' d (.ref p):=by
 cases d with
 |lst ds=>rw[9];simp only[Rep];rw[4,p,vs,rfl,c_.of (k.trans h1),aE.mono e _ _ h2]
 |dK ds=>rw[9];simp only[Rep];rw[4,p,vs,rfl,.inl (k.trans h1),bc.mono e _ _ h2]
 |dT ds=>rw[9];simp only[Rep];rw[4,p,vs,rfl,.inl (k.trans h1),bB.mono e _ _ h2]
 |obj C ds=>obtain⟨T,vs,h1,h2⟩:=h;simp only[Rep];exact⟨p,T,vs,rfl,k.trans h1,bc.mono e _ _ h2⟩
 |_=>exact h.elim
def Sl.fq:(1,Sl)
 | .ow _=>True
 | .lk _ _=>True
 |_=>False
def At(σ:L2.St)(Y:#[0])(i:Nat)(p:Addr):Prop:=∃l,(0,Y[i]?,l)/\l.fq/\(0,σ[i]?,some (.ref p))
structure Hs(K:PySem.W.Frag)(H0:Hp)(σ:L2.St)(Y:#[0])(G H:Hp):Prop where
 len:σ.length=Y.length
 base:aO H0 G
 ex:∀b,(G b=H b/\ ∀i,¬At σ Y i b)\/((2,G b)/\ ∃i,At σ Y i b)
 fr:∀(i:Nat)d,(0,Y[i]?,.fr d)-> ∃v,(0,σ[i]?,some v)/\Rep K G d v
 ow:∀(i:Nat)d,(0,Y[i]?,.ow d)-> ∃p,(0,σ[i]?,some (.ref p))/\Own K G H p d
 lk:∀(i:Nat)p d,(0,Y[i]?,.lk p d)->(0,σ[i]?,some (.ref p))/\Own K G H p d
 ne:∀i j p,At σ Y i p->At σ Y j p->i=j
section
theorem Hs.sub(h:#[12]):aO G H:=λb o e=>by
 rcases h.ex b with⟨q,_⟩|⟨q,_⟩
 ·rw[<-q];exact e
 ·rw[6,q]
theorem Hs.soft(h:#[12])(a:At σ Y i p):∃o,(0,H p,o)/\DV o:=by
 obtain⟨l,O,W,g⟩:=a
 cases l with
 |ow d=>
  obtain⟨q,b,o⟩:=h.ow i d O;rw[g]at b;cases b;exact o.soft
 |lk q d=>
  obtain⟨b,o⟩:=h.lk i q d O;rw[g]at b;cases b;exact o.soft
 |_=>exact W.elim
theorem Hs.qQ(h:#[12]){b:Addr}(e:(0,H b,o))(n:¬DV o):(0,G b,o)/\ ∀i,¬At σ Y i b:=by
 rcases h.ex b with⟨q,a⟩|⟨q,i,a⟩
 ·rw[3,q.trans e,a]
 ·obtain⟨o',M,s⟩:=h.soft a
  rw[e]at M;cases M;exact absurd s n
theorem Hs.start(h:aE K H0 ds vs)(n:Nat):Hs K H0 (vs.map some++List.replicate n none) (ds.map Sl.fr++List.replicate n .un) H0 H0:=by
 have x:∀i p,¬At (vs.map some++List.replicate n none) (ds.map Sl.fr++List.replicate n .un) i p:=by
  rintro i p⟨l,O,W,_⟩;have hm:=List.mem_of_getElem? O
  rcases List.mem_append.mp hm with hm|hm
  ·obtain⟨d,_,rfl⟩:=List.mem_map.mp hm
   exact W
  ·have:=List.eq_of_mem_replicate hm
   subst this;exact W
 have c:∀(i:Nat)l,(0,(ds.map Sl.fr++List.replicate n .un)[i]?,l)->l=.un\/ ∃d,l=.fr d/\(0,ds[i]?,d):=by
  intro i l e
  by_cases hi:i<ds.length
  ·rw[List.getElem?_append_left (by simpa using hi),List.getElem?_map]at e
   cases q:ds[i]? with
   |none=>rw[6,q]
   |some d=>rw[q]at e;exact .inr ⟨d,(Option.some.inj e).symm,rfl⟩
  ·rw[List.getElem?_append_right (by simpa using Nat.le_of_not_lt hi)]at e
   exact .inl (List.eq_of_mem_replicate (List.mem_of_getElem? e))
 refine⟨by simp[h.length],aO.refl _,λb=>.inl ⟨rfl,λi=>x i b⟩,λi d e=>?_,λi d e=>?_,λi p es e=>?_,λi j p a _=>absurd a (x i p)⟩
 ·rcases c i _ e with z|⟨d',z,q⟩
  ·cases z
  ·cases z
   obtain⟨v,O,r⟩:=h.get q;refine⟨v,?_,r⟩;have hi:i<vs.length:=(33,O).1;rw[List.getElem?_append_left (by simpa using hi),List.getElem?_map,O];rfl
 ·rcases c i _ e with z|⟨d',z,q⟩<;>cases z
 ·rcases c i _ e with z|⟨d',z,q⟩<;>cases z
end
section
theorem At.lt(a:At σ Y i p):i<Y.length:=by
 obtain⟨l,e,_⟩:=a;exact(33,e).1
theorem o_{v:Option V}(n:j≠i):At (σ.set i v) (Y.set i l) j p↔At σ Y j p:=by
 unfold At;rw[(34,n),(34,n)]
theorem cE(n:j≠i):At σ (Y.set i l) j p↔At σ Y j p:=by
 unfold At;rw[(34,n)]
theorem yi{v:Option V}(a:At (σ.set i v) (Y.set i l) i p):l.fq/\(0,v,.ref p):=by
 obtain⟨l',O,W,g⟩:=a;have h1:i<(Y.set i l).length:=(33,O).1;have h2:i<(σ.set i v).length:=(33,g).1;rw[List.length_set]at h1 h2;rw[List.getElem?_set_self h1]at O;rw[List.getElem?_set_self h2]at g;cases O;rw[3,W,Option.some.inj g]
theorem dP(a:At σ (Y.set i l) i p):l.fq:=by
 obtain⟨l',O,W,g⟩:=a;have h1:i<(Y.set i l).length:=(33,O).1;rw[List.length_set]at h1;rw[List.getElem?_set_self h1]at O;cases O;exact W
theorem Hs.freeze(h:#[12]){d:D}(e:(0,Y[i]?,.ow d)):∃G',Hs K H0 σ (Y.set i (.fr d)) G' H/\aO G G'/\ ∃p,(0,σ[i]?,some (.ref p))/\Rep K G' d (.ref p):=by
 obtain⟨p,O,o⟩:=h.ow i d e;have ai:At σ Y i p:=⟨_,e,True.intro,O⟩;have hi:i<Y.length:=ai.lt;obtain⟨ob,eo,_⟩:=o.soft;have gp:(2,G p):=by
  rcases h.ex p with⟨_,z⟩|⟨z,_⟩
  ·exact absurd ai (z i)
  ·exact z
 have s1:aO G (upd G p ob):=λb u q=>(10,aI (aK q gp),q)
 have r:Rep K (upd G p ob) d (.ref p):=o.rep s1 (by rw[aM,eo]);refine⟨upd G p ob,⟨(10,List.length_set,h.len),h.base.trans s1,λb=>?_,λj d' q=>?_,λj d' q=>?_,λj q' es q=>?_,λj k b a1 a2=>?_⟩,s1,p,O,r⟩
 ·by_cases hb:b=p
  ·subst hb
   refine .inl ⟨by rw[aM,eo],λj a=>?_⟩
   by_cases g:j=i
   ·subst g;exact dP a
   ·exact g (h.ne _ _ _ ((cE g).mp a) ai)
  ·rw[15]
   ·refine .inl ⟨(10,aI hb,c),λj a=>?_⟩
    by_cases g:j=i
    ·subst g;exact dP a
    ·exact B j ((cE g).mp a)
   ·have g:j≠i:=λz=>hb (by
     subst z;obtain⟨_,_,_,w⟩:=B
     rw[O]at w;cases w;rfl)
    exact .inr ⟨(10,aI hb,c),j,(cE g).mpr B⟩
 ·by_cases g:j=i
  ·rw[10];rw[1,_,O,r]
  ·rw[(34,g)]at q
   obtain⟨v,f,C⟩:=h.fr j d' q;rw[1,v,f,Rep.mono s1 _ _ C]
 ·by_cases g:j=i
  ·rw[10]
  ·rw[(34,g)]at q
   obtain⟨v,f,C⟩:=h.ow j d' q;rw[1,v,f,C.mono s1 rfl]
 ·by_cases g:j=i
  ·rw[10]
  ·rw[(34,g)]at q
   obtain⟨f,C⟩:=h.lk j q' es q;rw[3,f,C.mono s1 rfl]
 ·have g:j≠i:=λz=>by subst z;exact dP a1
  have hk:k≠i:=λz=>by subst z;exact dP a2
  exact h.ne j k b ((cE g).mp a1) ((cE hk).mp a2)
theorem Hs.DW(h:#[12]){d:D}(e:(0,Y[i]?,l))(nm:¬l.fq)(r:Rep K G d v):Hs K H0 (σ.set i (some v)) (Y.set i (.fr d)) G H:=by
 have hi:i<Y.length:=(33,e).1;have f:i<σ.length:=(10,h.len,hi)
 have x:∀p,¬At σ Y i p:=λp⟨l',O,W,_⟩=>by rw[e]at O;cases O;exact nm W
 have m:∀p,¬At (σ.set i (some v)) (Y.set i (.fr d)) i p:=λp a=>(yi a).1
 refine⟨by rw[List.length_set,List.length_set];exact h.len,h.base,λb=>?_,λj d' q=>?_,λj d' q=>?_,λj q' es q=>?_,λj k b a1 a2=>?_⟩
 ·rw[15]
  ·refine .inl ⟨c,λj a=>?_⟩
   by_cases g:j=i
   ·subst g;exact m b a
   ·exact B j ((o_ g).mp a)
  ·have g:j≠i:=λz=>by subst z;exact x b B
   exact .inr ⟨c,j,(o_ g).mpr B⟩
 ·by_cases g:j=i
  ·rw[10];rw[1,v,List.getElem?_set_self f,r]
  ·rw[(34,g)]at q⊢
   exact h.fr j d' q
 ·by_cases g:j=i
  ·rw[10]
  ·rw[(34,g)]at q⊢
   exact h.ow j d' q
 ·by_cases g:j=i
  ·rw[10]
  ·rw[(34,g)]at q⊢
   exact h.lk j q' es q
 ·have g:j≠i:=λz=>by subst z;exact m b a1
  have hk:k≠i:=λz=>by subst z;exact m b a2
  exact h.ne j k b ((o_ g).mp a1) ((o_ hk).mp a2)
def Sl.locked:Sl->Bool
 | .lk _ _=>true
 |_=>false
theorem Hs.put(h:#[12]){d:D}(e:(0,Y[i]?,l))(b:l.locked=false)(r:Rep K G d v):∃G',Hs K H0 (σ.set i (some v)) (Y.set i (.fr d)) G' H/\aO G G':=by
 cases l with
 |lk p d'=>cases b
 |un=>rw[1,G,h.DW e (λz=>z) r,aO.refl _]
 |fr d'=>rw[1,G,h.DW e (λz=>z) r,aO.refl _]
 |ow d'=>
  have hi:i<Y.length:=(33,e).1;obtain⟨G',h',s,_⟩:=h.freeze e;have:=h'.DW (i:=i) (d:=d) (v:=v) (List.getElem?_set_self hi) (λz=>z) (Rep.mono s _ _ r);rw[List.set_set]at this;rw[1,G',this,s]
theorem bV{v:Option V}:At (v::σ) (l::Y) (i+1) p↔At σ Y i p:=by
 unfold At;simp
theorem hD{v:Option V}:At (v::σ) (l::Y) 0 p↔l.fq/\(0,v,.ref p):=by
 unfold At;simp
theorem Hs.drop{v:Option V}(h:Hs K H0 (v::σ) (l::Y) G H)(nm:¬l.fq):#[12]:=by
 refine⟨by simpa using h.len,h.base,λb=>?_,λj d' q=>?_,λj d' q=>?_,λj q' es q=>?_,λj k b a1 a2=>?_⟩
 ·rw[15]
  ·exact .inl ⟨c,λj a=>B (j+1) (bV.mpr a)⟩
  ·cases j with
   |zero=>exact absurd (hD.mp B).1 nm
   |succ j=>exact .inr ⟨c,j,bV.mp B⟩
 ·simpa using h.fr (j+1) d' (by simpa using q)
 ·simpa using h.ow (j+1) d' (by simpa using q)
 ·simpa using h.lk (j+1) q' es (by simpa using q)
 ·have:=h.ne (j+1) (k+1) b (bV.mpr a1) (bV.mpr a2)
  omega
theorem Hs.settle{d:D}(h:Hs K H0 (some v::σ) (.ow d::Y) G H):∃G',Hs K H0 σ Y G' H/\aO G G'/\Rep K G' d v:=by
 obtain⟨G',h',s,p,e,r⟩:=h.freeze (i:=0) (d:=d) rfl;simp at e;subst e;exact⟨G',h'.drop (l:=.fr d) (λz=>z),s,r⟩
theorem Hs.Hy{d:D}(h:Hs K H0 (some v::σ) (.ow d::Y) G H)(e:(0,Y[i]?,l))(nm:¬l.fq):Hs K H0 (σ.set i (some v)) (Y.set i (.ow d)) G H:=by
 have hl:σ.length=Y.length:=by simpa using h.len
 have hi:i<Y.length:=(33,e).1;have f:i<σ.length:=#[3]
 obtain⟨p,O,o⟩:=h.ow 0 d rfl;simp at O;subst O;have ai:∀b,At (σ.set i (some (.ref p))) (Y.set i (.ow d)) i b↔b=p:=λb=>by
  constructor
  ·intro a
   have:=(yi a).2;cases this;rfl
  ·rintro rfl
   exact⟨_,List.getElem?_set_self hi,True.intro,List.getElem?_set_self f⟩
 have x:∀b,¬At σ Y i b:=λb⟨l',q1,q2,_⟩=>by rw[e]at q1;cases q1;exact nm q2
 have tr:∀b j,j≠i->(At (σ.set i (some (.ref p))) (Y.set i (.ow d)) j b↔At (some (.ref p)::σ) (.ow d::Y) (j+1) b):=λb j g=>by
  rw[o_ g,bV]
 have a0:At (some (.ref p)::σ) (.ow d::Y) 0 p:=hD.mpr ⟨True.intro,rfl⟩;refine⟨by rw[List.length_set,List.length_set];exact hl,h.base,λb=>?_,λj d' q=>?_,λj d' q=>?_,λj q' es q=>?_,λj k b a1 a2=>?_⟩
 ·rw[15]
  ·refine .inl ⟨c,λj a=>?_⟩
   by_cases g:j=i
   ·subst g
    exact B 0 (hD.mpr ⟨True.intro,by rw[(ai b).mp a]⟩)
   ·exact B (j+1) ((tr b j g).mp a)
  ·refine .inr ⟨c,?_⟩
   cases j with
   |zero=>
    have w:=(hD.mp B).2;cases w;rw[3,i,(ai p).mpr rfl]
   |succ j=>
    have g:j≠i:=λz=>by subst z;exact x b (bV.mp B)
    rw[3,j,(tr b j g).mpr B]
 ·by_cases g:j=i
  ·rw[10]
  ·rw[(34,g)]at q⊢
   simpa using h.fr (j+1) d' (by simpa using q)
 ·by_cases g:j=i
  ·rw[10];rw[1,p,List.getElem?_set_self f,o]
  ·rw[(34,g)]at q⊢
   simpa using h.ow (j+1) d' (by simpa using q)
 ·by_cases g:j=i
  ·rw[10]
  ·rw[(34,g)]at q⊢
   simpa using h.lk (j+1) q' es (by simpa using q)
 ·by_cases g:j=i
  ·subst g
   have w:=(ai b).mp a1;subst w
   by_cases hk:k=j
   ·exact hk.symm
   ·have:=h.ne _ _ _ ((tr b k hk).mp a2) a0
    omega
  ·by_cases hk:k=i
   ·subst hk
    have w:=(ai b).mp a2;subst w;have:=h.ne _ _ _ ((tr b j g).mp a1) a0;omega
   ·have:=h.ne _ _ _ ((tr b j g).mp a1) ((tr b k hk).mp a2)
    omega
theorem Hs.own{d:D}(h:Hs K H0 (some v::σ) (.ow d::Y) G H)(e:(0,Y[i]?,l))(b:l.locked=false):∃G',Hs K H0 (σ.set i (some v)) (Y.set i (.ow d)) G' H/\aO G G':=by
 cases l with
 |lk p d'=>cases b
 |un=>rw[1,G,h.Hy e (λz=>z),aO.refl _]
 |fr d'=>rw[1,G,h.Hy e (λz=>z),aO.refl _]
 |ow d'=>
  have hi:i<Y.length:=(33,e).1;obtain⟨G',h',s,_⟩:=h.freeze (i:=i+1) (d:=d') (by simpa using e);have a:Hs K H0 (some v::σ) (.ow d::Y.set i (.fr d')) G' H:=h';have:=a.Hy (i:=i) (List.getElem?_set_self hi) (λz=>z);rw[List.set_set]at this;rw[1,G',this,s]
theorem Hs.laid(h:#[12])(n:(2,H p)):Hs K H0 σ Y (upd G p o) (upd H p o)/\aO G (upd G p o):=by
 have d:∀i,¬At σ Y i p:=λi a=>by
  obtain⟨o',e,_⟩:=h.soft a;rw[6,n]
 have gp:(2,G p):=by
  rcases h.ex p with⟨z,_⟩|⟨z,_⟩
  ·exact z.trans n
  ·exact z
 have s1:aO G (upd G p o):=λb u q=>(10,aI (aK q gp),q)
 have lG:∀i b,At σ Y i b->b≠p:=λi b a z=>by subst z;exact d i a
 refine⟨⟨h.len,h.base.trans s1,λb=>?_,λj d' q=>?_,λj d' q=>?_,λj q' es q=>?_,h.ne⟩,s1⟩
 ·by_cases hb:b=p
  ·subst hb;exact .inl ⟨by rw[aM,aM],d⟩
  ·rw[aI hb,aI hb];exact h.ex b
 ·obtain⟨v,c,C⟩:=h.fr j d' q
  rw[1,v,c,Rep.mono s1 _ _ C]
 ·obtain⟨b,c,C⟩:=h.ow j d' q
  rw[1,b,c,C.mono s1 (aI (lG j b ⟨_,q,True.intro,c⟩))]
 ·obtain⟨c,C⟩:=h.lk j q' es q
  rw[3,c,C.mono s1 (aI (lG j q' ⟨_,q,True.intro,c⟩))]
theorem Hs.fresh(h:#[12]){d:D}(n:(2,H p))(w:Own K G (upd H p o) p d):Hs K H0 (some (.ref p)::σ) (.ow d::Y) G (upd H p o):=by
 have g:∀i,¬At σ Y i p:=λi a=>by
  obtain⟨o',e,_⟩:=h.soft a;rw[6,n]
 have gp:(2,G p):=by
  rcases h.ex p with⟨z,_⟩|⟨z,_⟩
  ·exact z.trans n
  ·exact z
 have lG:∀i b,At σ Y i b->b≠p:=λi b a z=>by subst z;exact g i a
 have a0:∀b,At (some (.ref p)::σ) (.ow d::Y) 0 b↔b=p:=λb=>by
  rw[hD]
  constructor
  ·rintro⟨_,z⟩;cases z;rfl
  ·rintro rfl;rw[3,True.intro,rfl]
 refine⟨by simp[h.len],h.base,λb=>?_,λj d' q=>?_,λj d' q=>?_,λj q' es q=>?_,λj k b a1 a2=>?_⟩
 ·by_cases hb:b=p
  ·subst hb;exact .inr ⟨gp,0,(a0 b).mpr rfl⟩
  ·rw[aI hb]
   rw[15]
   ·refine .inl ⟨c,λj a=>?_⟩
    cases j with
    |zero=>exact hb ((a0 b).mp a)
    |succ j=>exact B j (bV.mp a)
   ·exact .inr ⟨c,j+1,bV.mpr B⟩
 ·cases j with
  |zero=>simp at q
  |succ j=>simpa using h.fr j d' (by simpa using q)
 ·cases j with
  |zero=>
   simp at q;subst q;rw[1,p,rfl,w]
  |succ j=>
   obtain⟨b,f,C⟩:=h.ow j d' (by simpa using q);rw[1,b,by simpa using f,C.mono (aO.refl _) (aI (lG j b ⟨.ow d',by simpa using q,True.intro,f⟩))]
 ·cases j with
  |zero=>simp at q
  |succ j=>
   obtain⟨f,C⟩:=h.lk j q' es (by simpa using q);rw[3,by simpa using f,C.mono (aO.refl _) (aI (lG j q' ⟨.lk q' es,by simpa using q,True.intro,f⟩))]
 ·cases j with
  |zero=>
   cases k with
   |zero=>rfl
   |succ k=>exact absurd ((a0 b).mp a1) (lG k b (bV.mp a2))
  |succ j=>
   cases k with
   |zero=>exact absurd ((a0 b).mp a2) (lG j b (bV.mp a1))
   |succ k=>
    have:=h.ne j k b (bV.mp a1) (bV.mp a2);omega
theorem Hs.write(h:#[12]){d d':D}(e:(0,Y[i]?,.ow d))(O:(0,σ[i]?,some (.ref p)))(w:Own K G (upd H p o) p d'):Hs K H0 σ (Y.set i (.ow d')) G (upd H p o):=by
 have hi:i<Y.length:=(33,e).1;have ai:At σ Y i p:=⟨_,e,True.intro,O⟩;have gp:(2,G p):=by
  rcases h.ex p with⟨_,z⟩|⟨z,_⟩
  ·exact absurd ai (z i)
  ·exact z
 have m:∀b,At σ (Y.set i (.ow d')) i b↔b=p:=λb=>by
  constructor
  ·rintro⟨_,_,_,z⟩;rw[O]at z;cases z;rfl
  ·rintro rfl;exact⟨_,List.getElem?_set_self hi,True.intro,O⟩
 have n:∀j b,At σ (Y.set i (.ow d')) j b↔At σ Y j b:=λj b=>by
  by_cases g:j=i
  ·subst g
   rw[m]
   constructor
   ·rintro rfl;exact ai
   ·rintro⟨_,_,_,z⟩;rw[O]at z;cases z;rfl
  ·exact cE g
 have lG:∀j b,j≠i->At σ Y j b->b≠p:=λj b g a z=>by subst z;exact g (h.ne j i b a ai)
 refine⟨(10,List.length_set,h.len),h.base,λb=>?_,λj l q=>?_,λj l q=>?_,λj q' es q=>?_,λj k b a1 a2=>h.ne j k b ((n j b).mp a1) ((n k b).mp a2)⟩
 ·by_cases hb:b=p
  ·subst hb;exact .inr ⟨gp,i,(m b).mpr rfl⟩
  ·rw[aI hb]
   rw[15]
   ·exact .inl ⟨c,λj a=>B j ((n j b).mp a)⟩
   ·exact .inr ⟨c,j,(n j b).mpr B⟩
 ·by_cases g:j=i
  ·rw[10]
  ·rw[(34,g)]at q;exact h.fr j l q
 ·by_cases g:j=i
  ·rw[10]
   rw[1,p,O,w]
  ·rw[(34,g)]at q
   obtain⟨b,f,C⟩:=h.ow j l q;rw[1,b,f,C.mono (aO.refl _) (aI (lG j b g ⟨_,q,True.intro,f⟩))]
 ·by_cases g:j=i
  ·rw[10]
  ·rw[(34,g)]at q
   obtain⟨f,C⟩:=h.lk j q' es q;rw[3,f,C.mono (aO.refl _) (aI (lG j q' g ⟨_,q,True.intro,f⟩))]
theorem Hs.Bi(h:#[12]){d d':D}(e:(0,Y[i]?,.lk p d))(O:(0,σ[i]?,some (.ref p)))(w:Own K G (upd H p o) p d'):Hs K H0 σ (Y.set i (.lk p d')) G (upd H p o):=by
 have hi:i<Y.length:=(33,e).1;have ai:At σ Y i p:=⟨_,e,True.intro,O⟩;have gp:(2,G p):=by
  rcases h.ex p with⟨_,z⟩|⟨z,_⟩
  ·exact absurd ai (z i)
  ·exact z
 have m:∀b,At σ (Y.set i (.lk p d')) i b↔b=p:=λb=>by
  constructor
  ·rintro⟨_,_,_,z⟩;rw[O]at z;cases z;rfl
  ·rintro rfl;exact⟨_,List.getElem?_set_self hi,True.intro,O⟩
 have n:∀j b,At σ (Y.set i (.lk p d')) j b↔At σ Y j b:=λj b=>by
  by_cases g:j=i
  ·subst g
   rw[m]
   constructor
   ·rintro rfl;exact ai
   ·rintro⟨_,_,_,z⟩;rw[O]at z;cases z;rfl
  ·exact cE g
 have lG:∀j b,j≠i->At σ Y j b->b≠p:=λj b g a z=>by subst z;exact g (h.ne j i b a ai)
 refine⟨(10,List.length_set,h.len),h.base,λb=>?_,λj l q=>?_,λj l q=>?_,λj q' es q=>?_,λj k b a1 a2=>h.ne j k b ((n j b).mp a1) ((n k b).mp a2)⟩
 ·by_cases hb:b=p
  ·subst hb;exact .inr ⟨gp,i,(m b).mpr rfl⟩
  ·rw[aI hb]
   rw[15]
   ·exact .inl ⟨c,λj a=>B j ((n j b).mp a)⟩
   ·exact .inr ⟨c,j,(n j b).mpr B⟩
 ·by_cases g:j=i
  ·rw[10]
  ·rw[(34,g)]at q;exact h.fr j l q
 ·by_cases g:j=i
  ·rw[10]
  ·rw[(34,g)]at q
   obtain⟨b,f,C⟩:=h.ow j l q;rw[1,b,f,C.mono (aO.refl _) (aI (lG j b g ⟨_,q,True.intro,f⟩))]
 ·by_cases g:j=i
  ·rw[10]
   rw[3,O,w]
  ·rw[(34,g)]at q
   obtain⟨f,C⟩:=h.lk j q' es q;rw[3,f,C.mono (aO.refl _) (aI (lG j q' g ⟨_,q,True.intro,f⟩))]
inductive Fg:(7,#[0],#[0])where
 |nil:Fg [] []
 |same{l:Sl}{a b:#[0]}(h:Fg a b):Fg (l::a) (l::b)
 |un{d:D}{a b:#[0]}(h:Fg a b):Fg (.fr d::a) (.un::b)
theorem Fg.refl:∀a:#[0],Fg a a
 |[]=>.nil
 |_::a=>.same (Fg.refl a)
theorem Fg.get{a b:#[0]}(f:Fg a b):∀i:Nat,b[i]?=a[i]?\/((0,b[i]?,.un)/\ ∃d,(0,a[i]?,.fr d)):=by
 induction f with
 |nil=>exact λi=>.inl rfl
 |same h ih=>
  intro i
  cases i with
  |zero=>exact .inl rfl
  |succ i=>simpa using ih i
 | @un d a b h ih=>
  intro i
  cases i with
  |zero=>exact .inr ⟨rfl,d,rfl⟩
  |succ i=>simpa using ih i
theorem Fg.length{a b:#[0]}(f:Fg a b):a.length=b.length:=by
 induction f with
 |nil=>rfl
 |same _ ih=>simp[ih]
 |un _ ih=>simp[ih]
theorem Hs.forget{T:#[0]}(h:#[12])(f:Fg Y T):Hs K H0 σ T G H:=by
 have ae:∀i p,At σ T i p↔At σ Y i p:=λi p=>by
  unfold At
  rcases f.get i with e|⟨O,d,W⟩
  ·rw[e]
  ·rw[O,W]
   constructor
   ·rintro⟨l,z,m,_⟩;cases z;exact m.elim
   ·rintro⟨l,z,m,_⟩;cases z;exact m.elim
 refine⟨h.len.trans f.length,h.base,λb=>?_,λi d e=>?_,λi d e=>?_,λi p d e=>?_,λi j p a1 a2=>h.ne i j p ((ae i p).mp a1) ((ae j p).mp a2)⟩
 ·rcases h.ex b with⟨c,B⟩|⟨c,i,B⟩
  ·exact .inl ⟨c,λi a=>B i ((ae i b).mp a)⟩
  ·exact .inr ⟨c,i,(ae i b).mpr B⟩
 ·rcases f.get i with z|⟨z,_⟩
  ·exact h.fr i d (z▸e)
  ·rw[6,z]
 ·rcases f.get i with z|⟨z,_⟩
  ·exact h.ow i d (z▸e)
  ·rw[6,z]
 ·rcases f.get i with z|⟨z,_⟩
  ·exact h.lk i p d (z▸e)
  ·rw[6,z]
end
def ox(K:PySem.W.Frag)(G H:Hp):(7,D,V)
 | .bu,v=>v=.bu
 | .bl b,v=>v=.bl b
 | .int i,v=>v=.int i
 | .str x,v=>v=.str x
 | .adr p,v=>v=.ref p
 | .exc C o,v=>∃a,v=.ref a/\o9 G a C o
 | .obj C kvs,v=>∃a T aZ,(3,v,.ref a,(0,H a,.ins C T (aZ.map ko)),bc K G kvs aZ)
 | .tup xs,v=>∃a vs,(3,v,.ref a,(0,H a,.tup vs),aE K G xs vs)
 | .lst xs,v=>∃a vs,(3,v,.ref a,c_ K H a vs,aE K G xs vs)
 | .dK kvs,v=>∃a aZ,(3,v,.ref a,Rd H a (.dK aZ),bc K G kvs aZ)
 | .dT kvs,v=>∃a aZ,(3,v,.ref a,Rd H a (.dT aZ),bB K G kvs aZ)
section
variable{d:D}
theorem Rep.b(s:aO G H)(h:Rep K G d v):ox K G H d v:=by
 cases d with
 |tup xs=>simp only[Rep]at h;rw[14,s _ _ h2,J]
 |lst xs=>simp only[Rep]at h;rw[14,s.seq h2,J]
 |dK xs=>simp only[Rep]at h;rw[14,eU s h2,J]
 |dT xs=>simp only[Rep]at h;rw[14,eU s h2,J]
 |obj C xs=>simp only[Rep]at h;obtain⟨a,T,vs,h1,h2,J⟩:=h;exact⟨a,T,vs,h1,s _ _ h2,J⟩
 |_=>simp only[Rep]at h;exact h
theorem ox.mono(h:ox K G H d v)(g:aO G G')(s:aO H H'):ox K G' H' d v:=by
 cases d with
 |tup xs=>rw[14,s _ _ h2,aE.mono g _ _ J]
 |lst xs=>rw[14,s.seq h2,aE.mono g _ _ J]
 |dK xs=>rw[14,eU s h2,bc.mono g _ _ J]
 |dT xs=>rw[14,eU s h2,bB.mono g _ _ J]
 |obj C xs=>obtain⟨a,T,vs,h1,h2,J⟩:=h;exact⟨a,T,vs,h1,s _ _ h2,bc.mono g _ _ J⟩
 |exc C o=>obtain⟨a,h1,h2⟩:=h;rw[1,a,h1,h2.to λb j q=>g _ _ q]
 |_=>exact h
theorem Own.b(h:Own K G H p d):ox K G H d (.ref p):=by
 cases d with
 |lst ds=>rw[9];rw[4,p,vs,rfl,c_.of h1,h2]
 |dK ds=>rw[9];rw[4,p,vs,rfl,.inl h1,h2]
 |dT ds=>rw[9];rw[4,p,vs,rfl,.inl h1,h2]
 |obj C ds=>obtain⟨T,vs,h1,h2⟩:=h;exact⟨p,T,vs,rfl,h1,h2⟩
 |_=>exact h.elim
theorem ox.all(h:ox K G H d v)(s:aO G H):Rep K H d v:=by
 cases d with
 |tup xs=>obtain⟨a,vs,h1,h2,J⟩:=h;simp only[Rep];rw[4,a,vs,h1,h2,aE.mono s _ _ J]
 |lst xs=>obtain⟨a,vs,h1,h2,J⟩:=h;simp only[Rep];rw[4,a,vs,h1,h2,aE.mono s _ _ J]
 |dK xs=>obtain⟨a,vs,h1,h2,J⟩:=h;simp only[Rep];rw[4,a,vs,h1,h2,bc.mono s _ _ J]
 |dT xs=>obtain⟨a,vs,h1,h2,J⟩:=h;simp only[Rep];rw[4,a,vs,h1,h2,bB.mono s _ _ J]
 |obj C xs=>obtain⟨a,T,vs,h1,h2,J⟩:=h;simp only[Rep];exact⟨a,T,vs,h1,h2,bc.mono s _ _ J⟩
 |exc C o=>obtain⟨a,h1,h2⟩:=h;simp only[Rep];rw[1,a,h1,h2.to λb j q=>s _ _ q]
 |_=>simp only[Rep];exact h
end
structure Nx(K:PySem.W.Frag)(H0:Hp)(σ:L2.St)(Y:#[0])(G H G' H':Hp):Prop where
 hs:Hs K H0 σ Y G' H'
 g:aO G G'
 h:aO H H'
theorem Nx.refl(h:#[12]):Nx K H0 σ Y G H G H:=⟨h,aO.refl _,aO.refl _⟩
theorem Nx.trans{H2:Hp}(a:Nx K H0 σ Y G H G' H')(b:Nx K H0 σ Y G' H' G2 H2):Nx K H0 σ Y G H G2 H2:=⟨b.hs,a.g.trans b.g,a.h.trans b.h⟩
abbrev RE:=(7,#[0],(1,D))
abbrev RT:=(7,#[0],(1,Bool))
abbrev RA:=(7,#[0],(1,List D))
inductive bX(K:PySem.W.Frag)(H0:Hp)(t:RE)(σ:L2.St)(H:Hp)(Q:VK):Prop
 |mk(Y:_)(G:_)(Qd:_):#[12]->t Y Qd->(∀v H' G' d,Nx K H0 σ Y G H G' H'->Rep K G' d v->Qd d->Q v H')->bX K H0 t σ H Q
inductive f7(K:PySem.W.Frag)(H0:Hp)(t:RE)(σ:L2.St)(H:Hp)(Q:VK):Prop
 |mk(Y:_)(G:_)(Qd:_):#[12]->t Y Qd->(∀v H' G' d,Nx K H0 σ Y G H G' H'->ox K G' H' d v->Qd d->Q v H')->f7 K H0 t σ H Q
inductive yj(K:PySem.W.Frag)(H0:Hp)(t:RE)(σ:L2.St)(H:Hp)(Q:VK):Prop
 |mk(Y:_)(G:_)(Qd:_):#[12]->t Y Qd->(∀v H' G' d,(11,Hs K H0 (some v::σ) (.ow d::Y) G' H',aO G G',aO H H',Qd d,Q v H'))->yj K H0 t σ H Q
inductive liftT(K:PySem.W.Frag)(H0:Hp)(t:RT)(σ:L2.St)(H:Hp)(Q:(7,Bool,Hp)):Prop
 |mk(Y:_)(G:_)(Qd:_):#[12]->t Y Qd->(∀b H' G',Nx K H0 σ Y G H G' H'->Qd b->Q b H')->liftT K H0 t σ H Q
inductive iV(K:PySem.W.Frag)(H0:Hp)(t:RA)(σ:L2.St)(H:Hp)(Q:(7,List V,Hp)):Prop
 |mk(Y:_)(G:_)(Qd:_):#[12]->t Y Qd->(∀vs H' G' ds,Nx K H0 σ Y G H G' H'->aE K G' ds vs->Qd ds->Q vs H')->iV K H0 t σ H Q
def aS(X:Cx)(H0:Hp)(e:Expr)(t:RE):Prop:=PE X e (bX X.K H0 t)
def dJ(X:Cx)(H0:Hp)(e:Expr)(t:RE):Prop:=PE X e (f7 X.K H0 t)
def b'(X:Cx)(H0:Hp)(e:Expr)(t:RE):Prop:=PE X e (yj X.K H0 t)
def qR(X:Cx)(H0:Hp)(e:Expr)(t:RT):Prop:=PT X e (liftT X.K H0 t)
def oJ(X:Cx)(H0:Hp)(e:Expr)(t:RT):Prop:=PW X e (liftT X.K H0 t)
def pb(X:Cx)(H0:Hp)(es:#[4])(t:RA):Prop:=PA X es (iV X.K H0 t)
theorem PE.weak{t t':TE}(h:PE X e t)(k:∀σ H Q,t' σ H Q->t σ H Q):PE X e t':=λZ s σ H Q I hw=>h Z s σ H Q I (k σ H Q hw)
theorem PT.weak{t t':TT}(h:PT X e t)(k:∀σ H Q,t' σ H Q->t σ H Q):PT X e t':=λZ s σ H Q I hw=>h Z s σ H Q I (k σ H Q hw)
theorem PW.weak{t t':TT}(h:PW X e t)(k:∀σ H Q,t' σ H Q->t σ H Q):PW X e t':=λb Z s σ H Q I hw=>h b Z s σ H Q I (k σ H Q hw)
theorem PA.weak{e:#[4]}{t t':TA}(h:PA X e t)(k:∀σ H Q,t' σ H Q->t σ H Q):PA X e t':=λpos Z s σ H Q I hw=>h pos Z s σ H Q I (k σ H Q hw)
theorem PS.weak{e:Stmt}{t t':TS}(h:PS X e t)(k:∀D σ H,t' D σ H->t D σ H):PS X e t':=λZ s σ H Q I hw=>h Z s σ H Q I (k Q σ H hw)
theorem qM.weak{e:List Stmt}{t t':TS}(h:qM X e t)(k:∀D σ H,t' D σ H->t D σ H):qM X e t':=λZ s σ H Q I hw=>h Z s σ H Q I (k Q σ H hw)
section
variable{a b c:Expr}{t B F tc:RE}
theorem aS.bo(h:aS X H0 e t):dJ X H0 e t:=PE.weak h λσ H Q⟨Y,G,Qd,hs,M,k⟩=>⟨Y,G,Qd,hs,M,λv H' G' d n r q=>k v H' G' d n (Rep.b n.hs.sub r) q⟩
theorem b'.fx(h:b' X H0 e t):aS X H0 e t:=PE.weak h λσ H Q⟨Y,G,Qd,hs,M,k⟩=>⟨Y,G,Qd,hs,M,λv H' G' d n a b q=>by
 obtain⟨G2,P,s2,r2⟩:=n.settle
 exact k v H' G2 d ⟨P,a.trans s2,b⟩ r2 q⟩
theorem b'.bo(h:b' X H0 e t):dJ X H0 e t:=h.fx.bo
def rC(d:D)(_:#[0])(Q:(1,D)):Prop:=Q d
def Hz(i:Nat)(Y:#[0])(Q:(1,D)):Prop:=match Y[i]? with
 |some (.fr d)=>Q d
 |_=>False
def uQ(i:Nat)(Y:#[0])(Q:(1,D)):Prop:=match Y[i]? with
 |some (.fr d)=>Q d
 |some (.ow d)=>Q d
 |some (.lk _ d)=>Q d
 |_=>False
theorem ay (i:Nat) {x:Str} (hN:(0,X.N[i]?,x):=by rfl) (hv:qL X.env.scope x:=by first | exact Or.inl rfl | exact Or.inr (Or.inl rfl) | exact Or.inr (Or.inr rfl)) (hd:(23,x):=by decide)
 (W:#[21]:=by decide):aS X H0 (.Name x pos) (Hz i):=PE.weak (eD hN hv hd W) λσ H Q ⟨Y,G,Qd,hs,M,k⟩=>by
  unfold Hz at M
  split at M
  · rename_i d e
    obtain ⟨v,O,r⟩:=hs.fr i d e;rw[1,v,O,k v H G d (Nx.refl hs) r M]
  · exact M.elim
theorem aG (i:Nat) {x:Str} (hN:(0,X.N[i]?,x):=by rfl) (hv:qL X.env.scope x:=by first | exact Or.inl rfl | exact Or.inr (Or.inl rfl) | exact Or.inr (Or.inr rfl)) (hd:(23,x):=by decide)
 (W:#[21]:=by decide):dJ X H0 (.Name x pos) (uQ i):=PE.weak (eD hN hv hd W) λσ H Q ⟨Y,G,Qd,hs,M,k⟩=>by
  unfold uQ at M
  split at M
  · rename_i d e
    obtain ⟨v,O,r⟩:=hs.fr i d e;rw[1,v,O,k v H G d (Nx.refl hs) (Rep.b hs.sub r) M]
  · rename_i d e
    obtain ⟨p,O,o⟩:=hs.ow i d e;rw[1,_,O,k _ H G d (Nx.refl hs) o.b M]
  · rename_i p d e
    obtain ⟨O,o⟩:=hs.lk i p d e;rw[1,_,O,k _ H G d (Nx.refl hs) o.b M]
  · exact M.elim
theorem cst{d:D}(h:PE X e (tC v))(r:∀G,Rep X.K G d v):aS X H0 e (rC d):=PE.weak h λσ H Q⟨Y,G,Qd,hs,M,k⟩=>k v H G d (Nx.refl hs) (r G) M
theorem aX{i:Int}:aS X H0 (.Constant (.int i) j pos) (rC (.int i)):=cst Gy λ_=>by simp only[Rep]
theorem kN{b:Bool}:aS X H0 (.Constant (.bool b) j pos) (rC (.bl b)):=cst JJ λ_=>by simp only[Rep]
theorem e2:aS X H0 (.Constant .none j pos) (rC .bu):=cst Gz λ_=>by simp only[Rep]
theorem bb{x:Str}:aS X H0 (.Constant (.str x) j pos) (rC (.str x)):=cst GA λ_=>by simp only[Rep]
def i7(K:PySem.W.Frag)(r:R2)(r2:D->D->(1,(1,D))):Prop:=
 ∀(H0:Hp)(σ:L2.St)(Y:#[0])(G H:Hp)(x y:V)(T l:D)(Qd:(1,D))(Q:VK),(11,#[12],ox K G H T x,ox K G H l y,r2 T l Qd,(∀v H' G' d,Nx K H0 σ Y G H G' H'->Rep K G' d v->Qd d->Q v H')->r x y H Q)
def rK(r2:D->D->(1,(1,D)))(B F:RE)(Y:#[0])(Q:(1,D)):Prop:=B Y λx=>F Y λy=>r2 x y Q
theorem f9(h:i7 X.K r r2):∀σ H Q,bX X.K H0 (rK r2 B F) σ H Q->GO r (f7 X.K H0 B) (f7 X.K H0 F) σ H Q:=
 (41,k,λv H1 G1 a n1 r1 q1=>⟨Y,G1,_,n1.hs,q1,λv2 H2 G2 l P r2 q2=>
  h H0 σ Y G2 H2 v v2 a l Qd Q P.hs (r1.mono P.g P.h) r2 q2 λv3 A K b d i e=>k v3 A K b ((n1.trans P).trans d) i e⟩)
theorem uR{op:Operator}(ho:f5 X (binaryOp op) r)(h:i7 X.K r r2)(ha:dJ X H0 a B)(hb:dJ X H0 b F):aS X H0 (.BinOp a op b pos) (rK r2 B F):=
 PE.weak (AU ho ha hb) (f9 h)
theorem lR(ho:f5 X (compareOp op) r)(h:i7 X.K r r2)(ha:dJ X H0 a B)(hb:dJ X H0 b F)(hm:behindInMarks op b=false):aS X H0 (.Compare a [op] [b] pos) (rK r2 B F):=
 PE.weak (DA ho ha hb hm) (f9 h)
def lT(t:RE)(Y:#[0])(Q:(1,Bool)):Prop:=t Y λd=>match d with
 | .bl k=>Q k
 |_=>False
theorem eE{t':TE}(h:∀σ H Q,bX X.K H0 t σ H Q->t' σ H Q):∀σ H Q,liftT X.K H0 (lT t) σ H Q->AW t' σ H Q:=λσ H Q⟨Y,G,Qd,hs,M,k⟩=>h σ H _ ⟨Y,G,_,hs,M,λv H' G' d n r q=>by
 cases d with
 |bl x=>rw[1,x,by simpa only[Rep]using r,k x H' G' n q]
 |_=>exact q.elim⟩
theorem br(ho:f5 X (compareOp op) r)(h:i7 X.K r r2)(ha:dJ X H0 a B)(hb:dJ X H0 b F)(hm:behindInMarks op b=false):qR X H0 (.Compare a [op] [b] pos) (lT (rK r2 B F)):=
 PT.weak (yd ho ha hb hm) (eE (f9 h))
theorem wW{r':R2}(h:i7 X.K r r2)(e:i7 X.K r' AD):∀σ H Q,bX X.K H0 (λY Q=>B Y λx=>F Y λy=>r2 x y λz=>match z with
   | .bl k=>if(4,k)then tc Y λu=>AD y u Q else Q (.bl false)
   |_=>False) σ H Q->AX r r' (f7 X.K H0 B) (f7 X.K H0 F) (f7 X.K H0 tc) σ H Q:=
 (41,k,λv H1 G1 j n1 r1 q1=>⟨Y,G1,_,n1.hs,q1,λv2 H2 G2 l P r2 q2=>
  h H0 σ Y G2 H2 v v2 j l _ _ P.hs (r1.mono P.g P.h) r2 q2 λv3 A K b d i c=>by
   cases b with
   |bl z=>
    refine⟨z,by simpa only[Rep]using i,?_⟩
    cases z with
    |true=>
     rw[if_pos rfl];replace c:tc Y λu=>AD l u Qd:=c
     exact⟨Y,K,_,d.hs,c,λv4 a m d4 f p D=>e H0 σ Y m a v2 v4 l d4 Qd Q f.hs (r2.mono (d.g.trans f.g) (d.h.trans f.h)) p D λo w n d5 g r5 E=>k o w n d5 ((((n1.trans P).trans d).trans f).trans g) r5 E⟩
    |false=>
     rw[if_neg Bool.false_ne_true];replace c:Qd (.bl false):=c;exact k _ A K _ ((n1.trans P).trans d) (by simp only[Rep]) c
   |_=>exact c.elim⟩)
def Bj(r2 AD:D->D->(1,(1,D)))(B F tc:RE)(Y:#[0])(Q:(1,D)):Prop:=B Y λx=>F Y λy=>r2 x y λz=>match z with
      | .bl k=>if(4,k)then tc Y λu=>AD y u Q else Q (.bl false)
      |_=>False
theorem f_{g:CmpOp}{r':R2}(ho:f5 X (compareOp op) r)(f:f5 X (compareOp g) r')(h:i7 X.K r r2)(e:i7 X.K r' AD)(ha:dJ X H0 a B)(hb:dJ X H0 b F)(hc:dJ X H0 c tc)
 (hm:lastMarks [op,g] [b,c]=false:=by with_unfolding_all rfl):qR X H0 (.Compare a [op,g] [b,c] pos) (lT (Bj r2 AD B F tc)):=PT.weak (AY ho f ha hb hc hm) (eE (wW h e))
def dI(C:(7,Int,Int))(g:Int->Int->D)(x y:D)(Q:(1,D)):Prop:=match x,y with
 | .int i,.int j=>C i j/\Q (g i j)
 |_,_=>False
def yk(g:Int->Int->D)(x y:D)(Q:(1,D)):Prop:=match x,y with
 | .int i,.int j=>Q (g i j)
 |_,_=>False
theorem M_(hg:∀G i j,Rep K G (g2 i j) (g i j)):i7 K (rI C g) (dI C g2):=λH0 σ Y G H x y T l Qd Q hs L N h k=>by
 cases T<;>cases l<;>first|exact h.elim|skip
 rename_i i j;obtain rfl:x=.int i:=L;obtain rfl:y=.int j:=N;exact⟨i,j,rfl,rfl,h.1,k _ H G _ (Nx.refl hs) (hg G i j) h.2⟩
theorem Fs(hg:∀G i j,Rep K G (g2 i j) (g i j)):i7 K (wG g) (yk g2):=λH0 σ Y G H x y T l Qd Q hs L N h k=>by
 cases T<;>cases l<;>first|exact h.elim|skip
 rename_i i j;obtain rfl:x=.int i:=L;obtain rfl:y=.int j:=N;rw[4,i,j,rfl,rfl,k _ H G _ (Nx.refl hs) (hg G i j) h]
theorem sZ(g:Int->Int->Int):i7 K (rI C λi j=>.int (g i j)) (dI C λi j=>.int (g i j)):=M_ λ_ _ _=>by simp only[Rep]
theorem DX(g:Int->Int->Int):i7 K (wG λi j=>.int (g i j)) (yk λi j=>.int (g i j)):=Fs λ_ _ _=>by simp only[Rep]
theorem s_(g:Int->Int->Bool):i7 K (wG λi j=>.bl (g i j)) (yk λi j=>.bl (g i j)):=Fs λ_ _ _=>by simp only[Rep]
def M'(i j:Int):Prop:=0<j/\j<2^200
theorem Bk:f5 X (binaryOp .FloorDiv) (rI M' λi j=>.int (i/j)):=LI λi j _ _ _ _ _ hc q=>by
 have e:i.fdiv j=i/j:=Int.fdiv_eq_ediv_of_nonneg i (Int.le_of_lt hc.1);have hl:j.natAbs.log2<200:=by
  have M:j.natAbs≠0:=by have:=hc.1;omega
  refine(Nat.log2_lt M).mpr ?_;have:=hc.2;have h1:((j.natAbs:Nat):Int)=j:=by have:=hc.1;omega
  have h2:((j.natAbs:Nat):Int)<((2^200:Nat):Int):=(10,h1,this)
  exact Int.ofNat_lt.mp h2
 refine floordiv_int (Int.ne_of_gt hc.1) ?_ (.inl (PyProof.noPylong_of_log2 #[3]));rw[2,e,q]
theorem dQ(ha:dJ X H0 a B)(hb:dJ X H0 b F):aS X H0 (.BinOp a .Add b pos) (rK (yk λi j=>.int (i+j)) B F):=uR GR (DX _) ha hb
theorem rL(ha:dJ X H0 a B)(hb:dJ X H0 b F):aS X H0 (.BinOp a .Mult b pos) (rK (dI zl λi j=>.int (i*j)) B F):=uR GS (sZ _) ha hb
theorem Bl(ha:dJ X H0 a B)(hb:dJ X H0 b F):aS X H0 (.BinOp a .FloorDiv b pos) (rK (dI M' λi j=>.int (i/j)) B F):=uR Bk (sZ _) ha hb
theorem rM(ha:dJ X H0 a B)(hb:dJ X H0 b F):aS X H0 (.BinOp a .Mod b pos) (rK (dI (λ_ j=>0<j) λi j=>.int (i%j)) B F):=uR GU (sZ _) ha hb
theorem Ft(ha:dJ X H0 a B)(hb:dJ X H0 b F):aS X H0 (.BinOp a .Pow b pos) (rK (dI GQ λi j=>.int (i^j.toNat)) B F):=uR GV (sZ _) ha hb
abbrev W8:=yk λi j=>.bl (decide (i<j))
abbrev W9:=yk λi j=>.bl (decide (i<=j))
abbrev W_:=yk λi j=>.bl (decide (j<i))
abbrev W':=yk λi j=>.bl (decide (j<=i))
theorem ja:i7 K (wG λi j=>.bl (decide (i<j))) W8:=s_ _
theorem dG:i7 K (wG λi j=>.bl (decide (i<=j))) W9:=s_ _
theorem Fu:i7 K (wG λi j=>.bl (decide (j<i))) W_:=s_ _
theorem Fv:i7 K (wG λi j=>.bl (decide (j<=i))) W':=s_ _
def J9(neg:Bool)(x y:D)(Q:(1,D)):Prop:=match x,y with
 | .int i,.int j=>Q (.bl (neg !=decide (i=j)))
 | .bl i,.bl j=>Q (.bl (neg !=decide (i=j)))
 | .str i,.str j=>Q (.bl (neg !=decide (i=j)))
 |_,_=>False
theorem jZ [DecidableEq α] [DecidableEq β]{f:α->β}(S:∀a b,f a=f b->a=b)(a b:α):decide (f a=f b)=decide (a=b):=by
 by_cases h:a=b
 ·subst h;simp
 ·rw[decide_eq_false h,decide_eq_false λz=>h (S _ _ z)]
theorem c':i7 K TF (J9 false):=λH0 σ Y G H x y T l Qd Q hs L N h k=>by
 cases T<;>cases l<;>first|exact h.elim|skip
 ·rename_i i j
  rw[21,.bl i,.bl j,V.bl]
 ·rename_i i j
  rw[21,.int i,.int j,V.int]
 ·rename_i i j
  rw[21,.str i,.str j,V.str]
theorem ta:i7 K TH (J9 true):=λH0 σ Y G H x y T l Qd Q hs L N h k=>by
 cases T<;>cases l<;>first|exact h.elim|skip
 ·rename_i i j
  rw[21,.bl i,.bl j,V.bl]
 ·rename_i i j
  rw[21,.int i,.int j,V.int]
 ·rename_i i j
  rw[21,.str i,.str j,V.str]
end
structure cS(b:Bool)(A B:Prop):Prop where
 yes:(4,b)->A
 no:b=false->B
theorem cS.t{A B:Prop}(h:A):cS true A B:=⟨(λ_=>h),(λz=>by cases z)⟩
theorem cS.f{A B:Prop}(h:B):cS false A B:=⟨(λz=>by cases z),(λ_=>h)⟩
theorem cS.dec{p:Prop} [Decidable p]{A B:Prop}(h1:p->A)(h2:¬p->B):cS (decide p) A B:=⟨λz=>h1 (of_decide_eq_true z),λz=>h2 (of_decide_eq_false z)⟩
section
variable{a b c:Expr}{t B F tc:RE}{u f m:RT}{rest:#[4]}
def J_(t u:RT)(Y:#[0])(Q:(1,Bool)):Prop:=t Y λk=>cS k (u Y Q) (Q false)
def Na(t u:RT)(Y:#[0])(Q:(1,Bool)):Prop:=t Y λk=>cS k (Q true) (u Y Q)
def J'(t:RT)(Y:#[0])(Q:(1,Bool)):Prop:=t Y λk=>Q (!k)
theorem oJ.pt(h:oJ X H0 e u):qR X H0 e u:=PW.pt h
theorem wX(ha:qR X H0 a f):oJ X H0 (.BoolOp .And [a] pos) f:=Dw ha
theorem iW(ha:qR X H0 a f):oJ X H0 (.BoolOp .Or [a] pos) f:=GD ha
theorem Bm(ha:qR X H0 a f)(hb:oJ X H0 (.BoolOp .And (b::rest) pos) m):oJ X H0 (.BoolOp .And (a::b::rest) pos) (J_ f m):=
 PW.weak (GF ha hb) (41,k,λx H1 G1 n1 q1=>by
  cases x with
  |true=>replace q1:=q1.yes rfl;rw[2,if_pos rfl,⟨Y,G1,Qd,n1.hs,q1,λy H2 G2 P q2=>k y H2 G2 (n1.trans P) q2⟩]
  |false=>replace q1:=q1.no rfl;rw[2,if_neg Bool.false_ne_true,k false H1 G1 n1 q1])
theorem jb(ha:qR X H0 a f)(hb:oJ X H0 (.BoolOp .Or (b::rest) pos) m):oJ X H0 (.BoolOp .Or (a::b::rest) pos) (Na f m):=
 PW.weak (Fb ha hb) (41,k,λx H1 G1 n1 q1=>by
  cases x with
  |false=>replace q1:=q1.no rfl;rw[2,if_neg Bool.false_ne_true,⟨Y,G1,Qd,n1.hs,q1,λy H2 G2 P q2=>k y H2 G2 (n1.trans P) q2⟩]
  |true=>replace q1:=q1.yes rfl;rw[2,if_pos rfl,k true H1 G1 n1 q1])
theorem eA(ha:qR X H0 a f):qR X H0 (.UnaryOp .Not a pos) (J' f):=
 PT.weak (GG ha) (41,k,λx H1 G1 n1 q1=>k (!x) H1 G1 n1 q1)
theorem lU(h:aS X H0 e t)(he:∀b,isTrue e X.env b=(do let v<-b;standAt e.pos;holding [v] (truthy v)):=by intro _;rfl):qR X H0 e (lT t):=
 PT.weak (GC h he) (eE (t':=bX X.K H0 t) λ_ _ _ z=>z)
def DY(d:D)(Q:(1,Bool)):Prop:=match d with
 | .bl k=>Q k
 |_=>False
theorem Bn{d:D}{Q:(1,Bool)}(h:DY d Q)(r:Rep K G d v):∃k,(3,d,.bl k,v=.bl k,Q k):=by
 cases d with
 |bl k=>exact⟨k,rfl,by simpa only[Rep]using r,h⟩
 |_=>exact h.elim
def Bo(B F:RE)(Y:#[0])(Q:(1,D)):Prop:=B Y λx=>DY x λk=>cS k (F Y Q) (Q (.bl false))
def Ka(B F:RE)(Y:#[0])(Q:(1,D)):Prop:=B Y λx=>DY x λk=>cS k (Q (.bl true)) (F Y Q)
def Fw(B:RE)(Y:#[0])(Q:(1,D)):Prop:=B Y λx=>DY x λk=>Q (.bl (!k))
theorem ym{op:BoolOp}(ha:aS X H0 a B):aS X H0 (.BoolOp op [a] pos) B:=GH ha
theorem Kb(ha:aS X H0 a B)(hb:aS X H0 (.BoolOp .And (b::rest) pos) F):aS X H0 (.BoolOp .And (a::b::rest) pos) (Bo B F):=
 (50,GI ha hb,by
  obtain⟨x,rfl,rfl,q1⟩:=Bn q1 r1;refine⟨x,rfl,?_⟩
  cases x with
  |true=>replace q1:=q1.yes rfl;rw[2,if_pos rfl,⟨Y,G1,Qd,n1.hs,q1,λv2 H2 G2 l P r2 q2=>k v2 H2 G2 l (n1.trans P) r2 q2⟩]
  |false=>replace q1:=q1.no rfl;rw[2,if_neg Bool.false_ne_true,k _ H1 G1 _ n1 (by simp only[Rep]) q1])
theorem HA(ha:aS X H0 a B)(hb:aS X H0 (.BoolOp .Or (b::rest) pos) F):aS X H0 (.BoolOp .Or (a::b::rest) pos) (Ka B F):=
 (50,JM ha hb,by
  obtain⟨x,rfl,rfl,q1⟩:=Bn q1 r1;refine⟨x,rfl,?_⟩
  cases x with
  |false=>replace q1:=q1.no rfl;rw[2,if_neg Bool.false_ne_true,⟨Y,G1,Qd,n1.hs,q1,λv2 H2 G2 l P r2 q2=>k v2 H2 G2 l (n1.trans P) r2 q2⟩]
  |true=>replace q1:=q1.yes rfl;rw[2,if_pos rfl,k _ H1 G1 _ n1 (by simp only[Rep]) q1])
theorem Kc(ha:aS X H0 a B):aS X H0 (.UnaryOp .Not a pos) (Fw B):=
 (50,GJ ha,by
  obtain⟨x,rfl,rfl,q1⟩:=Bn q1 r1
  rw[1,x,rfl,k _ H1 G1 _ n1 (by simp only[Rep]) q1])
def Nb(c:RT)(B F:RE)(Y:#[0])(Q:(1,D)):Prop:=c Y λk=>cS k (B Y Q) (F Y Q)
theorem tb(hc:qR X H0 c u)(ha:aS X H0 a B)(hb:aS X H0 b F):aS X H0 (.IfExp c a b pos) (Nb u B F):=
 PE.weak (AK hc ha hb) (41,k,λx H1 G1 n1 q1=>by
  cases x with
  |true=>replace q1:=q1.yes rfl;rw[2,if_pos rfl,⟨Y,G1,Qd,n1.hs,q1,λv2 H2 G2 l P r2 q2=>k v2 H2 G2 l (n1.trans P) r2 q2⟩]
  |false=>replace q1:=q1.no rfl;rw[2,if_neg Bool.false_ne_true,⟨Y,G1,Qd,n1.hs,q1,λv2 H2 G2 l P r2 q2=>k v2 H2 G2 l (n1.trans P) r2 q2⟩])
def Xa(B:RE)(Y:#[0])(Q:(1,D)):Prop:=B Y λx=>match x with
 | .int i=>Q (.int (-i))
 |_=>False
variable{es:#[4]}{tr:RA}
def zy(_:#[0])(Q:(1,List D)):Prop:=Q []
def rN(t:RE)(r:RA)(Y:#[0])(Q:(1,List D)):Prop:=t Y λd=>r Y λds=>Q (d::ds)
theorem aC:pb X H0 [] zy:=PA.weak gj λσ H Q⟨Y,G,Qd,hs,M,k⟩=>k [] H G [] (Nx.refl hs) aE.nil M
theorem ax(ha:aS X H0 e t)(hr:pb X H0 es tr)(hs:#[13]:=by rfl):pb X H0 (e::es) (rN t tr):=
 PA.weak (cZ ha hr hs) (41,k,λv H1 G1 d n1 r1 q1=>⟨Y,G1,_,n1.hs,q1,λvs H2 G2 ds P r2 q2=>k (v::vs) H2 G2 (d::ds) (n1.trans P) (aE.cons (Rep.mono P.g _ _ r1) r2) q2⟩)
def Kd(r:RA)(Y:#[0])(Q:(1,D)):Prop:=r Y λds=>(8,ds.length)/\Q (.tup ds)
def Fx(r:RA)(Y:#[0])(Q:(1,D)):Prop:=r Y λds=>(8,ds.length)/\Q (.lst ds)
theorem bO(n:(2,H p)):aO H (upd H p o):=λb u q=>(10,aI (aK q n),q)
theorem bI{x1}(h:pb X H0 es tr):aS X H0 (.Tuple es x1 pos) (Kd tr):=
 PE.weak (GZ h) (41,k,λvs H1 G1 ds n1 r1 q1=>⟨(26,r1.length,q1.1),λp hp=>by
  obtain⟨h2,s2⟩:=n1.hs.laid (o:=.tup vs) hp
  exact k _ _ _ (.tup ds) ⟨h2,n1.g.trans s2,n1.h.trans (bO hp)⟩ (by simp only[Rep];rw[4,p,vs,rfl,aM,aE.mono s2 _ _ r1]) q1.2⟩)
theorem bE(h:pb X H0 es tr):b' X H0 (.List es pos) (Fx tr):=
 PE.weak (G3 h) (41,k,λvs H1 G1 ds n1 r1 q1=>⟨(26,r1.length,q1.1),λp hp=>
  k _ _ G1 (.lst ds) (n1.hs.fresh hp ⟨vs,aM,r1⟩) n1.g (n1.h.trans (bO hp)) q1.2⟩)
def HB(_:#[0])(Q:(1,D)):Prop:=Q (.dK [])
theorem HC:b' X H0 (.Dict [] [] pos) HB:=
 PE.weak Ba λσ H Q⟨Y,G,Qd,hs,M,k⟩p hp=>k _ _ G (.dK []) (hs.fresh hp ⟨[],aM,by simp only[bc]⟩) (aO.refl _) (bO hp) M
def TL(x y:D)(Q:(1,D)):Prop:=match x,y with
 | .lst ds,.int i=>∃d,(0,wU ds i,d)/\Q d
 | .tup ds,.int i=>∃d,(0,wU ds i,d)/\Q d
 |_,_=>False
theorem yn{i:Int}{d:D}(r:aE K G ds vs)(h:(0,wU ds i,d)):∃v,(0,wU vs i,v)/\Rep K G d v:=by
 unfold wU at h⊢;rw[<-r.length]
 cases q:G_ ds.length i with
 |none=>rw[q]at h;cases h
 |some j=>
  rw[q]at h;exact r.get h
theorem Ke:i7 K (TJ K) TL:=λH0 σ Y G H x y T l Qd Q hs L N h k=>by
 cases T<;>cases l<;>first|exact h.elim|skip
 ·rename_i ds i
  obtain⟨a,vs,rfl,h2,J⟩:=L;obtain rfl:y=.int i:=N;obtain⟨d,q,h'⟩:=h;obtain⟨v,O,r1⟩:=yn J q;exact .inr (.inl ⟨a,vs,i,v,rfl,rfl,dg.of h2,O,k _ H G _ (Nx.refl hs) r1 h'⟩)
 ·rename_i ds i
  obtain⟨a,vs,rfl,h2,J⟩:=L;obtain rfl:y=.int i:=N;obtain⟨d,q,h'⟩:=h;obtain⟨v,O,r1⟩:=yn J q;exact .inl ⟨a,vs,i,v,rfl,rfl,h2,O,k _ H G _ (Nx.refl hs) r1 h'⟩
theorem m5(ha:dJ X H0 a B)(hb:dJ X H0 b F)(hp:yf b:=by intro _ _;rfl):aS X H0 (.Subscript a b pos) (rK TL B F):=
 PE.weak (J3 Hg ha hb hp) (f9 Ke)
abbrev RO:=(7,#[0],(1,Option Int))
inductive Fy(K:PySem.W.Frag)(H0:Hp)(t:RO)(σ:L2.St)(H:Hp)(Q:(7,Option Int,Hp)):Prop
 |mk(Y:_)(G:_)(Qd:_):#[12]->t Y Qd->(∀o H' G',Nx K H0 σ Y G H G' H'->Qd o->Q o H')->Fy K H0 t σ H Q
def HD(X:Cx)(H0:Hp)(e:Option Expr)(t:RO):Prop:=PO X e (Fy X.K H0 t)
theorem PO.weak{e:Option Expr}{t t':TO}(h:PO X e t)(k:∀σ H Q,t' σ H Q->t σ H Q):PO X e t':=λZ s σ H Q I hw=>h Z s σ H Q I (k σ H Q hw)
theorem Bp:HD X H0 none (λ_ Q=>Q none):=PO.weak DF λσ H Q⟨Y,G,Qd,hs,M,k⟩=>k none H G (Nx.refl hs) M
def Kf(t:RE)(Y:#[0])(Q:(1,Option Int)):Prop:=t Y λd=>match d with
 | .int i=>Q (some i)
 |_=>False
theorem td(h:dJ X H0 e t):HD X H0 (some e) (Kf t):=PO.weak (DG h) (41,k,λv H1 G1 d n1 r1 q1=>by
 cases d with
 |int i=>rw[1,i,r1,k _ H1 G1 n1 q1]
 |_=>exact q1.elim)
def cutD(xs:List D)(lo hi:Option Int):List D:=(xs.drop (HT.ez xs.length 0 lo)).take (HT.ez xs.length xs.length hi-HT.ez xs.length 0 lo)
theorem yo(r:aE K G ds vs)(lo hi:Option Int):aE K G (cutD ds lo hi) (sS vs lo hi):=by
 unfold cutD sS;rw[<-r.length];exact(r.drop _).take _
variable{lo hi:Option Expr}{S c:RO}{p2:Pos}
def Kg(te:RE)(S c:RO)(Y:#[0])(Q:(1,D)):Prop:=te Y λd=>S Y λl=>c Y λu=>match d with
 | .lst ds=>Q (.lst (cutD ds l u))
 |_=>False
theorem Kh(he:dJ X H0 e t)(hl:HD X H0 lo S)(hu:HD X H0 hi c):b' X H0 (.Subscript e (.Slice lo hi none p2) pos) (Kg t S c):=
 (50,uM DM he hl hu,⟨Y,G1,_,n1.hs,q1,λl H2 G2 P q2=>⟨Y,G2,_,P.hs,q2,λu A K b i=>by
  cases d with
  |lst ds=>
   obtain⟨a,vs,rfl,h2,J⟩:=r1.mono (P.g.trans b.g) (P.h.trans b.h);refine⟨a,vs,rfl,h2,λp hp=>k _ _ K (.lst (cutD ds l u)) (b.hs.fresh hp ⟨_,aM,yo J l u⟩) ((n1.trans P).trans b).g (((n1.trans P).trans b).h.trans (bO hp)) i⟩
  |_=>exact i.elim⟩⟩)
end
section
variable{t:RE}{lo hi:Option Expr}{S c:RO}{p2:Pos}
def Ki(te:RE)(S c:RO)(Y:#[0])(Q:(1,D)):Prop:=te Y λd=>S Y λl=>c Y λu=>match d with
 | .tup ds=>¬(HT.ez ds.length 0 l=0/\HT.ez ds.length ds.length u=ds.length)/\Q (.tup (cutD ds l u))
 |_=>False
theorem Fz(he:dJ X H0 e t)(hl:HD X H0 lo S)(hu:HD X H0 hi c):aS X H0 (.Subscript e (.Slice lo hi none p2) pos) (Ki t S c):=
 (50,uM G9 he hl hu,⟨Y,G1,_,n1.hs,q1,λl H2 G2 P q2=>⟨Y,G2,_,P.hs,q2,λu A K b f=>by
  cases d with
  |tup ds=>
   obtain⟨a,vs,rfl,h2,J⟩:=r1.mono (P.g.trans b.g) (P.h.trans b.h);refine⟨a,vs,rfl,dg.of h2,(26,J.length,f.1),λp hp=>?_⟩;obtain⟨h4,s4⟩:=b.hs.laid (o:=.tup (sS vs l u)) hp;exact k _ _ _ (.tup (cutD ds l u)) ⟨h4,((n1.trans P).trans b).g.trans s4,((n1.trans P).trans b).h.trans (bO hp)⟩ (by simp only[Rep];rw[4,p,_,rfl,aM,aE.mono s4 _ _ (yo J l u)]) f.2
  |_=>exact f.elim⟩⟩)
end
inductive uD where
 |val(d:D)|new(d:D)|two(a b:D)|fo(a b:D)
variable{Qd:(1,uD)}
def cV(K:PySem.W.Frag)(H0 H':Hp)(v:V):(1,uD)
 | .val d=>aO H0 H'/\Rep K H' d v
 | .new d=>∃G p,(3,v,.ref p,aO H0 G,(3,G p,none,∀b,b≠p->G b=H' b,Own K G H' p d))
 | .two x y=>∃G a p q,(3,v,.ref a,aO H0 G,(0,G a,.tup [.ref p,.ref q])/\p≠q/\(3,G p,none,(2,G q),(∀b,b≠p->b≠q->G b=H' b)/\Own K G H' p x/\Own K G H' q y))
 | .fo x y=>∃G a vx q,(3,v,.ref a,aO H0 G,(0,G a,.tup [vx,.ref q])/\Rep K G x vx/\(3,G q,none,∀b,b≠q->G b=H' b,Own K G H' q y))
def rO(K:PySem.W.Frag)(H0 H':Hp)(v:V)(T:#[0]):(1,uD)
 | .val d=>∃L G',Hs K H0 L T G' H'/\Rep K G' d v
 | .new d=>cV K H0 H' v (.new d)
 | .two x y=>cV K H0 H' v (.two x y)
 | .fo x y=>cV K H0 H' v (.fo x y)
theorem rO.ok{T:#[0]}{r:uD}(h:rO K H0 H' v T r):cV K H0 H' v r:=by
 cases r with
 |val d=>obtain⟨L,G',hs,r⟩:=h;rw[3,hs.base.trans hs.sub,Rep.mono hs.sub _ _ r]
 |new d=>exact h
 |two x y=>exact h
 |fo x y=>exact h
structure bC where
 nx:(1,#[0])
 rt:(7,uD,#[0])
 bk:(1,#[0]):=λ_=>False
 ct:(1,#[0]):=λ_=>False
abbrev RS:=(7,bC,#[0])
structure Go(K:PySem.W.Frag)(H0 G:Hp)(E:bC)(D:Ends):Prop where
 nx:∀L H' T G',Hs K H0 L T G' H'->aO G G'->E.nx T->D.nx L H'
 rt:∀v H' r T,rO K H0 H' v T r->E.rt r T->D.rt v H'
 bk:∀L H' T G',Hs K H0 L T G' H'->aO G G'->E.bk T->D.bk L H'
 ct:∀L H' T G',Hs K H0 L T G' H'->aO G G'->E.ct T->D.ct L H'
theorem Go.mono{E:bC}{D:Ends}(g:Go K H0 G E D)(s:aO G G1):Go K H0 G1 E D:=
 ⟨λL H' T G' h s'=>g.nx L H' T G' h (s.trans s'),g.rt,λL H' T G' h s'=>g.bk L H' T G' h (s.trans s'),λL H' T G' h s'=>g.ct L H' T G' h (s.trans s')⟩
inductive yp(K:PySem.W.Frag)(H0:Hp)(t:RS)(D:Ends)(σ:L2.St)(H:Hp):Prop
 |mk(Y:_)(G:_)(E:_):#[12]->t E Y->Go K H0 G E D->yp K H0 t D σ H
def i8(X:Cx)(H0:Hp)(st:Stmt)(t:RS):Prop:=PS X st (yp X.K H0 t)
def e3(X:Cx)(H0:Hp)(st:List Stmt)(t:RS):Prop:=qM X st (yp X.K H0 t)
section
variable{tg:Expr}{te:RE}{st:Stmt}{rest b1 b2:List Stmt}{t u:RS}{c:Expr}{tc:RT}{R:Pos}{x:Str}
abbrev FA(E:bC)(Y:#[0]):Prop:=E.nx Y
abbrev ft(t u:RS)(E:bC)(Y:#[0]):Prop:=t {E with nx:=u E} Y
theorem bw:e3 X H0 [] FA:=qM.weak Dx λD σ H⟨Y,G,E,hs,M,g⟩=>g.nx σ H Y G hs (aO.refl _) M
theorem aB(h1:i8 X H0 st t)(h2:e3 X H0 rest u):e3 X H0 (st::rest) (ft t u):=
 qM.weak (AL h1 h2) λD σ H⟨Y,G,E,hs,M,g⟩=>⟨Y,G,{E with nx:=u E},hs,M,⟨λL H' T G' h' s' q=>⟨T,G',E,h',q,g.mono s'⟩,g.rt,g.bk,g.ct⟩⟩
theorem aJ(h1:i8 X H0 st t):e3 X H0 [st] t:=qM.weak (Dy h1) λD σ H z=>z
def oL(i:Nat)(t:RS)(E:bC)(Y:#[0]):Prop:=match Y[i]? with
 |some (.ow d)=>t E (Y.set i (.fr d))
 |_=>False
theorem pd(i:Nat)(h:e3 X H0 rest t):e3 X H0 rest (oL i t):=qM.weak h λD σ H⟨Y,G,E,hs,M,g⟩=>by
 unfold oL at M
 split at M
 ·rename_i d e
  obtain⟨G',h',s',_⟩:=hs.freeze e;exact⟨_,G',E,h',M,g.mono s'⟩
 ·exact M.elim
theorem dk:i8 X H0 st (λ_ _=>False):=λ_ _ _ _ _ _ h=>let⟨_,_,_,_,z,_⟩:=h;z.elim
theorem cb{Xb:List Stmt}:e3 X H0 Xb (λ_ _=>False):=λ_ _ _ _ _ _ h=>let⟨_,_,_,_,z,_⟩:=h;z.elim
def Kj(te:RE)(E:bC)(Y:#[0]):Prop:=te Y λ_=>E.nx Y
theorem eF(he:dJ X H0 e te)(hs:swapsWith e none pos.line X.env=pure false:=by rfl):i8 X H0 (.Expr e pos) (Kj te):=
 (46,x8 he hs,g,λv H1 G1 d n1 r1 q1=>g.nx σ H1 Y G1 n1.hs n1.g q1)
def HE(te:RE)(E:bC)(Y:#[0]):Prop:=te Y λd=>E.rt (.val d) Y
theorem bq(he:aS X H0 e te):i8 X H0 (.Return (some e) pos) (HE te):=
 (46,wz he,g,λv H1 G1 d n1 r1 q1=>g.rt v H1 (.val d) Y ⟨σ,G1,n1.hs,r1⟩ q1)
theorem yq{d:D}(hs:#[12])(e:(0,Y[i]?,.ow d))(O:(0,σ[i]?,some (.ref p))):cV K H0 H (.ref p) (.new d):=by
 obtain⟨w,W,o⟩:=hs.ow i d e;rw[O]at W;cases W;have gp:(2,G p):=by
  rcases hs.ex p with⟨_,z⟩|⟨z,_⟩
  ·exact absurd ⟨_,e,True.intro,O⟩ (z i)
  ·exact z
 have s1:aO G (λb=>if b=p then none else H b):=λb u q=>by
  have hb:b≠p:=aK q gp
  show(0,if b=p then none else H b,u)
  rw[2,if_neg hb,hs.sub b u q]
 exact⟨λb=>if b=p then none else H b,p,rfl,hs.base.trans s1,if_pos rfl,λb hb=>if_neg hb,o.mono s1 rfl⟩
def Kl(te:RE)(E:bC)(Y:#[0]):Prop:=te Y λd=>E.rt (.new d) Y
theorem bF(he:b' X H0 e te):i8 X H0 (.Return (some e) pos) (Kl te):=
 (46,wz he,g,λv H1 G1 d n1 a b q1=>by
  obtain⟨p,O,o⟩:=n1.ow 0 d rfl;simp at O;subst O
  exact g.rt _ H1 (.new d) Y (yq (i:=0) n1 rfl rfl) q1)
def FC(i:Nat)(E:bC)(Y:#[0]):Prop:=match Y[i]? with
 |some (.ow d)=>E.rt (.new d) Y
 |_=>False
theorem m6(i:Nat)(hN:(0,X.N[i]?,x):=by rfl)(hv:qL X.env.scope x:=by first|exact Or.inl rfl|exact Or.inr (Or.inl rfl)|exact Or.inr (Or.inr rfl))(hd:(23,x):=by decide)
(W:#[21]:=by decide):i8 X H0 (.Return (some (.Name x R)) pos) (FC i):=
 PS.weak (wz (eD hN hv hd W)) λD σ H⟨Y,G,E,hs,M,g⟩=>by
  unfold FC at M
  split at M
  ·rename_i d e
   obtain⟨p,O,o⟩:=hs.ow i d e;rw[1,_,O,g.rt _ H (.new d) Y (yq hs e O) M]
  ·exact M.elim
structure HF(c:RT)(t u:RS)(E:bC)(Y:#[0]):Prop where
 run:c Y λb=>cS b (t E Y) (u E Y)
theorem b8(hc:qR X H0 c tc)(ha:e3 X H0 b1 t)(hb:e3 X H0 b2 u):i8 X H0 (.If c b1 b2 pos) (HF tc t u):=
 PS.weak (Fd hc ha hb) λD σ H⟨Y,G,E,hs,M,g⟩=>⟨Y,G,_,hs,M.run,λk H1 G1 n1 q1=>by
  cases k with
  |true=>rw[2,if_pos rfl,⟨Y,G1,E,n1.hs,q1.yes rfl,g.mono n1.g⟩]
  |false=>rw[2,if_neg Bool.false_ne_true,⟨Y,G1,E,n1.hs,q1.no rfl,g.mono n1.g⟩]⟩
abbrev RG:=D-> #[0]->(1,(1,#[0]))
inductive Bq(K:PySem.W.Frag)(H0:Hp)(g:RG)(v:V)(σ:L2.St)(H:Hp)(Q:(7,L2.St,Hp)):Prop
 |mk(Y:_)(G:_)(d:_)(Qd:_):(11,#[12],Rep K G d v,g d Y Qd,∀L H' T G',Hs K H0 L T G' H'->aO G G'->Qd T->Q L H',Bq K H0 g v σ H Q)
def wq(X:Cx)(H0:Hp)(tg:Expr)(g:RG):Prop:=PG X tg (Bq X.K H0 g)
theorem PG.weak{t t':TG}(h:PG X e t)(k:∀v σ H Q,t' v σ H Q->t v σ H Q):PG X e t':=λZ s σ H v u Q I r hw=>h Z s σ H v u Q I r (k v σ H Q hw)
def pe(i:Nat)(d:D)(Y:#[0])(Q:(1,#[0])):Prop:=match Y[i]? with
 |some (.lk _ _)=>False
 |some _=>Q (Y.set i (.fr d))
 |none=>False
theorem hE{d:D}{Q:(1,#[0])}(h:pe i d Y Q):∃l,(0,Y[i]?,l)/\l.locked=false/\Q (Y.set i (.fr d)):=by
 unfold pe at h
 split at h
 ·exact h.elim
 ·rename_i l n e
  refine⟨l,e,?_,h⟩
  cases l with
  |lk p d'=>exact absurd rfl (n p d')
  |_=>rfl
 ·exact h.elim
theorem aP(i:Nat)(hN:X.N.Nodup)(hi:(0,X.N[i]?,x):=by rfl)(hx:Loc X.env.scope x:=by first|exact Or.inl rfl|exact Or.inr rfl)(S:#[20]:=by first|exact .inl rfl|exact .inr rfl|assumption):wq X H0 (.Name x pos) (pe i):=
 PG.weak (ht hN hi hx S) λv σ H Q⟨Y,G,d,Qd,hs,r,h,k⟩=>by
  obtain⟨l,e,b,q⟩:=hE h;obtain⟨G',h',s'⟩:=hs.put e b r;exact k _ H _ G' h' s' q
def HG(i:Nat)(te:RE)(E:bC)(Y:#[0]):Prop:=te Y λd=>pe i d Y E.nx
theorem bt(i:Nat)(hN:X.N.Nodup)(he:aS X H0 e te)(hi:(0,X.N[i]?,x):=by rfl)(hx:Loc X.env.scope x:=by first|exact Or.inl rfl|exact Or.inr rfl)(hs:swapsWith e (some (.Name x R)) pos.line X.env=pure false:=by rfl)
(S:#[20]:=by first|exact .inl rfl|exact .inr rfl|assumption):i8 X H0 (.Assign [.Name x R] e pos) (HG i te):=
 (46,wC hN hi hx he hs S,g,λv H1 G1 d n1 r1 q1=>by
  obtain⟨l,e,b,q⟩:=hE q1;obtain⟨G',h',s'⟩:=n1.hs.put e b r1
  exact g.nx _ H1 _ G' h' (n1.g.trans s') q)
def DZ(i:Nat)(d:D)(Y:#[0])(Q:(1,#[0])):Prop:=match Y[i]? with
 |some (.lk _ _)=>False
 |some _=>Q (Y.set i (.ow d))
 |none=>False
theorem yr{d:D}{Q:(1,#[0])}(h:DZ i d Y Q):∃l,(0,Y[i]?,l)/\l.locked=false/\Q (Y.set i (.ow d)):=by
 unfold DZ at h
 split at h
 ·exact h.elim
 ·rename_i l n e
  refine⟨l,e,?_,h⟩
  cases l with
  |lk p d'=>exact absurd rfl (n p d')
  |_=>rfl
 ·exact h.elim
def Km(i:Nat)(te:RE)(E:bC)(Y:#[0]):Prop:=te Y λd=>DZ i d Y E.nx
theorem e6(i:Nat)(hN:X.N.Nodup)(he:b' X H0 e te)(hi:(0,X.N[i]?,x):=by rfl)(hx:Loc X.env.scope x:=by first|exact Or.inl rfl|exact Or.inr rfl)(hs:swapsWith e (some (.Name x R)) pos.line X.env=pure false:=by rfl)
(S:#[20]:=by first|exact .inl rfl|exact .inr rfl|assumption):i8 X H0 (.Assign [.Name x R] e pos) (Km i te):=
 (46,wC hN hi hx he hs S,g,λv H1 G1 d n1 a c q1=>by
  obtain⟨l,e,b,q⟩:=yr q1;obtain⟨G',h',s'⟩:=n1.own e b
  exact g.nx _ H1 _ G' h' (a.trans s') q)
abbrev rP:=List D-> #[0]->(1,(1,#[0]))
inductive Br(K:PySem.W.Frag)(H0:Hp)(g:rP)(vs:List V)(σ:L2.St)(H:Hp)(Q:(7,L2.St,Hp)):Prop
 |mk(Y:_)(G:_)(ds:_)(Qd:_):(11,#[12],aE K G ds vs,g ds Y Qd,∀L H' T G',Hs K H0 L T G' H'->aO G G'->Qd T->Q L H',Br K H0 g vs σ H Q)
def qT(X:Cx)(H0:Hp)(ts:#[4])(g:rP):Prop:=wA X ts (Br X.K H0 g)
theorem wA.weak{e:#[4]}{t t':AB}(h:wA X e t)(k:∀v σ H Q,t' v σ H Q->t v σ H Q):wA X e t':=λZ s σ H v u Q I r hw=>h Z s σ H v u Q I r (k v σ H Q hw)
def FD(ds:List D)(Y:#[0])(Q:(1,#[0])):Prop:=match ds with
 |[]=>Q Y
 |_=>False
def tf(g:RG)(r:rP)(ds:List D)(Y:#[0])(Q:(1,#[0])):Prop:=match ds with
 |d::ds=>g d Y λa=>r ds a Q
 |[]=>False
theorem bZ:qT X H0 [] FD:=wA.weak x9 λvs σ H Q⟨Y,G,ds,Qd,hs,r,h,k⟩=>by
 cases ds with
 |nil=>simp only[aE]at r;rw[3,r,k σ H Y G hs (aO.refl _) h]
 |cons d ds=>exact h.elim
variable{es:#[4]}{g:RG}{gs:rP}
theorem aL(h1:wq X H0 e g)(h2:qT X H0 es gs)(hs:(assignEach (e::es) X.env).map (·.2)=assign e X.env::(assignEach es X.env).map (·.2):=by rfl):qT X H0 (e::es) (tf g gs):=
 wA.weak (uJ h1 h2 hs) λvs σ H Q⟨Y,G,ds,Qd,hs,r,h,k⟩=>by
  cases ds with
  |nil=>exact h.elim
  |cons d ds=>
   simp only[aE]at r;obtain⟨v,b,rfl,r1,r2⟩:=r;exact⟨v,b,rfl,Y,G,d,_,hs,r1,h,λσ1 H1 a G1 h1 s1 q1=>⟨a,G1,ds,Qd,h1,aE.mono s1 _ _ r2,q1,λf H2 l G2 h2 s2 q2=>k f H2 l G2 h2 (s1.trans s2) q2⟩⟩
def Bt(n:Nat)(gs:rP)(d:D)(Y:#[0])(Q:(1,#[0])):Prop:=match d with
 | .tup ds=>ds.length=n/\gs ds Y Q
 |_=>False
theorem c9{k:Nat}(hc:(4,X.calm))(h:qT X H0 es gs)(hn:(assignEach es X.env).length=n:=by rfl)(iT:(2,(assignEach es X.env).findIdx? (·.1)):=by rfl):wq X H0 (.Tuple es k pos) (Bt n gs):=
 PG.weak (wB (n:=n) hc h hn iT) λv σ H Q⟨Y,G,d,Qd,hs,r,h,k⟩=>by
  cases d with
  |tup ds=>
   simp only[Rep]at r;obtain⟨a,vs,rfl,h2,J⟩:=r;exact⟨a,vs,rfl,dg.of (hs.sub _ _ h2),(26,J.length,h.1),Y,G,ds,Qd,hs,J,h.2,k⟩
  |_=>exact h.elim
def Kn(te:RE)(g:RG)(E:bC)(Y:#[0]):Prop:=te Y λd=>g d Y E.nx
theorem dS(he:aS X H0 e te)(hg:wq X H0 tg g)(hs:swapsWithSole [tg] e pos.line X.env=pure false:=by rfl)(hw:swappedStores [tg] e X.env=pure none:=by rfl)
(h1:(assignEach [tg] X.env).map (·.2)=[assign tg X.env]:=by rfl):i8 X H0 (.Assign [tg] e pos) (Kn te g):=
 (46,AM he hg hs hw h1,g,λv H1 G1 d n1 r1 q1=>⟨Y,G1,d,E.nx,n1.hs,r1,q1,λL H' T G' h' s' q=>g.nx L H' T G' h' (n1.g.trans s') q⟩)
def loop(g:RG)(F:RS)(E:bC):(7,List D,#[0])
 |[],Y=>E.nx Y
 |d::ds,Y=>g d Y λa=>F {nx:=λl=>∃j,Fg l j/\loop g F E ds j,rt:=E.rt,bk:=E.nx,ct:=λl=>∃j,Fg l j/\loop g F E ds j} a
def Ko(te:RE)(g:RG)(F:RS)(E:bC)(Y:#[0]):Prop:=te Y λd=>match d with
 | .lst ds=>loop g F E ds Y
 |_=>False
def Kp(te:RE)(g:RG)(F:RS)(E:bC)(Y:#[0]):Prop:=te Y λd=>match d with
 | .tup ds=>loop g F E ds Y
 |_=>False
variable{iter:Expr}{body:List Stmt}{F:RS}
structure Src(K:PySem.W.Frag)(G1:Hp)(J:It)(xs:List D):Prop where
 item:∀{H0:Hp}{σ:L2.St}{Y:#[0]}{G H:Hp}(i:Nat)(d:D),#[12]->aO G1 G->(0,xs[i]?,d)->J.go i H/\ ∀x H',J.JA i H x H'-> ∃G',Nx K H0 σ Y G H G' H'/\Rep K G' d x
 stop:∀{H0:Hp}{σ:L2.St}{Y:#[0]}{G H:Hp},#[12]->aO G1 G->J.stop xs.length H
section
theorem Src.list(h2:c_ K G1 a ws)(J:aE K G1 xs ws):Src K G1 (ML K a) xs:=
 ⟨λi d h s e=>by
  obtain⟨v,b,r⟩:=J.get e;have sq:=h.sub.seq (s.seq h2)
  rw[3,⟨ws,v,sq,b⟩,λx H'⟨O,y⟩=>by
   subst O;cases(y ws sq).symm.trans b
   rw[1,_,Nx.refl h,Rep.mono s _ _ r]],λh s=>⟨ws,h.sub.seq (s.seq h2),Nat.le_of_eq J.length.symm⟩⟩
theorem Src.tup(h2:dg K G1 a ws)(J:aE K G1 xs ws):Src K G1 (MM K a) xs:=
 ⟨λi d h s e=>by
  obtain⟨v,b,r⟩:=J.get e;have sq:=qP h.sub (qP s h2)
  rw[3,⟨ws,v,sq,b⟩,λx H'⟨O,y⟩=>by
   subst O;cases(y ws sq).symm.trans b
   rw[1,_,Nx.refl h,Rep.mono s _ _ r]],λh s=>⟨ws,qP h.sub (qP s h2),Nat.le_of_eq J.length.symm⟩⟩
theorem Hs.pair{u:V}{du dv:D}(h:Hs K H0 σ Y G1 H)(fr:(2,H p))(ru:Rep K G1 du u)(rv:Rep K G1 dv v):∃G',Nx K H0 σ Y G1 H G' (upd H p (.tup [u,v]))/\Rep K G' (.tup [du,dv]) (.ref p):=
 let⟨h4,s4⟩:=h.laid (o:=.tup [u,v]) fr
 ⟨_,⟨h4,s4,bO fr⟩,by simp only[Rep];rw[4,p,_,rfl,aM,aE.cons (Rep.mono s4 _ _ ru) (aE.cons (Rep.mono s4 _ _ rv) aE.nil)]⟩
end
inductive Nc(K:PySem.W.Frag)(H0 G1:Hp)(C:(1,#[0]))(L:L2.St)(H':Hp):Prop
 |mk(T:#[0])(G':Hp):Hs K H0 L T G' H'->aO G1 G'->C T->Nc K H0 G1 C L H'
theorem fC{J:It}{k:Ends}{E:bC}(hs:Hs X.K H0 σ Y G1 H)(S:Src X.K G1 J xs)(gg:aO G G1)(go:Go X.K H0 G E k)(q:loop g F E xs Y):
(62,σ,H,k.nx σ H,Bq X.K H0 g x σ H' λf H2=>yp X.K H0 F {k with nx:=N,ct:=N,bk:=k.nx} f H2):=by
 refine⟨λi m L H'=>(3,m,xs.length-i,i<=xs.length,Nc X.K H0 G1 (loop g F E (xs.drop i)) L H'),⟨xs.length,by simp,Nat.zero_le _,Y,G1,hs,aO.refl _,q⟩,?_⟩;rintro i m L H'⟨o,hi,T,G',h',s',q'⟩
 by_cases eH:i<xs.length
 ·rw[List.drop_eq_getElem_cons eH]at q'
  obtain⟨p,n⟩:=S.item i _ h' s' (List.getElem?_eq_getElem eH);refine .inr ⟨p,Nc X.K H0 G1 (loop g F E (xs.drop (i+1))),λf H2 z=>⟨xs.length-(i+1),#[3],rfl,eH,z⟩,λx H2 y=>?_⟩;obtain⟨G2,P,r2⟩:=n x H2 y;have st:=s'.trans P.g;exact⟨T,G2,_,_,P.hs,r2,q',λf H2 l G2 c s2 q2=>⟨l,G2,_,c,q2,⟨λb A j K d s3⟨h,f4,a⟩=>⟨h,K,d.forget f4,(st.trans s2).trans s3,a⟩,go.rt,λb A j K d s3 a=>go.nx b A j K d ((gg.trans (st.trans s2)).trans s3) a,λb A j K d s3⟨h,f4,a⟩=>⟨h,K,d.forget f4,(st.trans s2).trans s3,a⟩⟩⟩⟩
 ·have e:i=xs.length:=#[3]
  rw[e]at q'⊢;rw[List.drop_length]at q';exact .inl ⟨S.stop h' s',go.nx L H' T G' h' (gg.trans s') q'⟩
theorem pf(hp:PassesOwn (model X.prog X.w) X.A X.env X.xe)(hc:(4,X.calm))(hi:aS X H0 iter te)(hg:wq X H0 tg g)(hb:e3 X H0 body F)(hs:(43,iter):=by intro _;rfl):
i8 X H0 (.For tg iter body [] pos) (Ko te g F):=
 (46,mY hp hc (f3 hi) hg hb hs,go,λv H1 G1 d n1 r1 q1=>by
  cases d with
  |lst ds=>
   simp only[Rep]at r1;obtain⟨a,vs,rfl,h2,J⟩:=r1;exact⟨a,rfl,⟨vs,n1.hs.sub.seq h2⟩,fC n1.hs (.list h2 J) n1.g go q1⟩
  |_=>exact q1.elim)
theorem HH(hp:PassesOwn (model X.prog X.w) X.A X.env X.xe)(hc:(4,X.calm))(hi:aS X H0 iter te)(hg:wq X H0 tg g)(hb:e3 X H0 body F)(hs:(43,iter):=by intro _;rfl):
i8 X H0 (.For tg iter body [] pos) (Kp te g F):=
 (46,mY hp hc (AQ hi) hg hb hs,go,λv H1 G1 d n1 r1 q1=>by
  cases d with
  |tup ds=>
   simp only[Rep]at r1;obtain⟨a,vs,rfl,h2,J⟩:=r1;exact⟨a,rfl,⟨vs,dg.of (n1.hs.sub _ _ h2)⟩,fC n1.hs (.tup (dg.of h2) J) n1.g go q1⟩
  |_=>exact q1.elim)
end
section
variable{tg:Expr}{te:RE}{st:Stmt}{R:Pos}{x:Str}{es:#[4]}{g:RG}{gs:rP}{iter:Expr}{body:List Stmt}{F:RS}
def Az(lo:Int)(n:Nat):List D:=(List.range n).map λk=>D.int (lo+(k:Nat))
theorem Src.Az{lo:Int}:Src K G1 (LH lo n) (Az lo n):=
 ⟨λi d h s e=>by
  obtain⟨hi,W⟩:=(33,e);have hn:i<n:=by simpa[M.Az]using hi
  refine⟨hn,λx H'⟨O,y⟩=>?_⟩;subst O y W
  rw[1,_,Nx.refl h,by simp[M.Az,Rep]],λh s=>by show n<=_;simp[M.Az]⟩
variable{tr:RA}{a1 a2:Expr}
def HI(ds:List D)(Q:(1,Int)):Prop:=match ds with
 |[.int j]=>Q j
 |_=>False
theorem D0{Q:(1,Int)}(h:HI ds Q):∃j,ds=[.int j]/\Q j:=by
 unfold HI at h
 split at h
 ·rw[1,_,rfl,h]
 ·exact h.elim
def D1(j:Int):Prop:=-(2^62)<=j/\j<2^62
end
abbrev cN:=(7,List D,(1,uD))
variable{sp:cN}
inductive aV(K:PySem.W.Frag)(sp:cN)(vs:List V)(H:Hp)(Q:VK)(E:XK):Prop
 |mk(ds:_)(Qd:_):aE K H ds vs->sp ds Qd->(∀v H' r,cV K H H' v r->Qd r->Q v H')->aV K sp vs H Q E
section
variable{mg:#[11]}{base:Heap}
def m7(N:#[1])(ds:List D):#[0]:=ds.map Sl.fr++List.replicate (N.length-ds.length) .un
theorem bf{x g:Str}{st:Stmt}{f:Addr}{k:Nat}(F:(12,x,g,st))(S:aH N ps (az st))(len:∀ds Qd,sp ds Qd->ds.length=ps.length)
(c:∀(j:Value)(A:Around)(outer:List Env)(s:Shared)(H:Hp)(E:XK),bT k (A.deeper (envOfC g (az st) s.heap.objs.size f j))-> ∀ds Qd,sp ds Qd->
∃t,e3 (gk cy P w K mg base N g (az st) f j A outer s H E).Fc H (c1 st) t/\t {nx:=λ_=>Qd (.val .bu),rt:=λr _=>Qd r} (m7 N ds)):aQ P w K mg base cy (k+1) f fd ps (aV K sp):=by
 refine F.ok S (λvs H Q E h=>?_) (λj A outer s H vs Q E hr h=>?_)
 ·obtain⟨ds,Qd,r,h1,_⟩:=h
  rw[<-r.length];exact len ds Qd h1
 ·obtain⟨ds,Qd,r,h1,h2⟩:=h
  obtain⟨t,M,q⟩:=c j A outer s H E hr ds Qd h1;refine⟨_,M,m7 N ds,H,_,?_,q,⟨λL H' T G' hs _ q=>h2 _ H' (.val .bu) ⟨hs.base.trans hs.sub,by simp only[Rep]⟩ q,λv H' r' T ok q=>h2 v H' r' ok.ok q,λ_ _ _ _ _ _ z=>z.elim,λ_ _ _ _ _ _ z=>z.elim⟩⟩;have e:=Hs.start r (N.length-ds.length)
  show Hs K H (vs.map some++List.replicate (N.length-vs.length) none) _ H H
  rw[<-r.length];exact e
end
theorem bJ.sub{H2:Hp}(tp:∀b xs,(0,H1 b,.tup xs)->(0,H2 b,.tup xs))(ow:∀b c,(0,H1 b,.own c)->(0,H2 b,.own c))(x:bJ P w H1 h a o):bJ P w H2 h a o:=
 x.km (λ_ _ _ q=>q) (λb q=>ow b a q) tp
theorem bJ.there(x:bJ P w H h a o):∃ob,(0,h.get? a,ob):=by
 cases q:h.get? a with
 |some ob=>rw[3,ob,rfl]
 |none=>
  exfalso
  induction o with
  |lst xs=>obtain⟨_,_,_,_,e⟩:=x;rw[6,q]
  |tup xs=>obtain⟨_,_,_,_,e,_⟩:=x;rw[6,q]
  |dK kvs=>obtain⟨_,_,_,_,_,_,_,e,_⟩:=x;rw[6,q]
  |dT kvs=>obtain⟨_,_,_,_,_,_,_,e,_⟩:=x;rw[6,q]
  |set S n=>obtain⟨_,_,_,_,e,_⟩:=x;rw[6,q]
  |ins C T fs=>obtain⟨_,_,_,e,_⟩:=x;rw[6,q]
  |own y=>obtain⟨_,e⟩:=x;rw[6,q]
  |xd fs=>obtain⟨_,⟨_,_,_,e,_⟩,_⟩:=x;rw[6,q]
  |Az lo hi=>obtain⟨_,_,_,e⟩:=x;rw[6,q]
  |cR ob u ih=>obtain⟨e,_⟩:=x;rw[6,q]
  |E9 ps=>have e:(0,h.get? a,_):=x;rw[6,q]
  |met f y=>have e:(0,h.get? a,_):=x;rw[6,q]
  |ext j=>obtain⟨_,⟨_,e⟩,_⟩:=x;rw[6,q]
section
variable{σ1:L2.St}
theorem Hs.nil_of(hs:Hs X.K H0 σ Y G H){b:Addr}(n:(2,H b)):(2,G b)/\ ∀i,¬At σ Y i b:=by
 rcases hs.ex b with⟨q,a⟩|⟨q,i,a⟩
 ·rw[3,q.trans n,a]
 ·obtain⟨o,e,_⟩:=hs.soft a
  rw[6,n]
def fB(G:Hp):Hp:=λb=>match G b with
 |some (.own c)=>(G c).bind λ_=>some (.own c)
 |o=>o
def i4(G G1:Hp):Hp:=λb=>(G1 b).or (G b)
theorem dU{b:Addr}(h:(2,G b)):(2,fB G b):=by unfold fB;rw[h]
theorem hG{b:Addr}(h:(0,G b,o))(n:∀c,o≠ .own c):(0,fB G b,o):=by
 unfold fB;rw[h]
 cases o<;>first|rfl|exact absurd rfl (n _)
theorem oM{b c:Addr}(h:(0,G b,.own c)):fB G b=(G c).bind λ_=>some (.own c):=by unfold fB;rw[h]
theorem th{b:Addr}(h:(0,fB G b,o)):(0,G b,o):=by
 cases e:G b with
 |none=>rw[dU e]at h;cases h
 |some u=>
  by_cases z:∃c,u=.own c
  ·obtain⟨c,rfl⟩:=z
   rw[oM e]at h
   cases q:G c with
   |none=>rw[q]at h;cases h
   |some w=>rw[q]at h;exact h
  ·rw[hG e λc y=>z ⟨c,y⟩]at h;exact h
theorem uS(G:Hp):lP G (fB G):=λb o n h=>hG h n
structure Hid(G G1:Hp):Prop where
 s:aO (fB G) G1
 n:∀b,G b≠none->(2,fB G b)->(2,G1 b)
theorem cY:aO G1 (i4 G G1):=λb o e=>by unfold i4;rw[e];rfl
theorem dh{b:Addr}(h:(2,G1 b)):i4 G G1 b=G b:=by unfold i4;rw[h];rfl
theorem Hid.same(h:Hid G G1):aO G (i4 G G1):=λb o e=>by
 cases q:fB G b with
 |some u=>have:=th q;rw[e]at this;cases this;exact cY b o (h.s b o q)
 |none=>rw[2,dh (h.n b (by rw[e];intro z;cases z) q),e]
theorem Own.near{d:D}(h:Own K G H p d)(e:lP G G')(k:H' p=H p):Own K G' H' p d:=by
 cases d with
 |lst ds=>rw[9];rw[1,vs,k.trans h1,aE.near e _ _ h2]
 |dK ds=>rw[9];rw[1,vs,k.trans h1,bc.near e _ _ h2]
 |dT ds=>rw[9];rw[1,vs,k.trans h1,bB.near e _ _ h2]
 |obj C ds=>obtain⟨T,vs,h1,h2⟩:=h;exact⟨T,vs,k.trans h1,bc.near e _ _ h2⟩
 |_=>exact h.elim
theorem Hs.wO(hs:Hs X.K H0 σ Y G H)(I:Inv X Z σ1 H s):m2 X.prog X.w X.K X.mg X.base X.A X.stack s (fB G):=by
 have e:=I.wO;refine⟨e.frames,e.mod,λb o q=>⟨(e.bs b o q).1,dU (hs.nil_of (e.bs b o q).2).1⟩,e.x6,e.i3,λb hb=>dU (hs.nil_of (e.AA b hb)).1,λa o q=>?_,e.bare⟩;have ga:=th q;exact(e.bH a o (hs.sub a o ga)).km (λ_ _ _ z=>z) (λb z=>by rw[oM (hs.qQ z (λy=>y)).1,ga];rfl) λb xs z=>hG (hs.qQ z (λy=>y)).1 λc y=>nomatch y
open Classical in
noncomputable def mix(σ:L2.St)(Y:#[0])(H G1:Hp):Hp:=λb=>if(∃i,At σ Y i b)then H b else G1 b
theorem dq{b:Addr}(a:At σ Y i b):mix σ Y H G1 b=H b:=by unfold mix;exact if_pos ⟨i,a⟩
theorem bW{b:Addr}(a:∀i,¬At σ Y i b):mix σ Y H G1 b=G1 b:=by unfold mix;exact if_neg λ⟨i,z⟩=>a i z
theorem Hs.gone(hs:Hs X.K H0 σ Y G H){b:Addr}(a:At σ Y i b):(2,G b):=by
 rcases hs.ex b with⟨_,z⟩|⟨z,_⟩
 ·exact absurd a (z i)
 ·exact z
theorem Hs.behind{Q:VK}(hs:Hs X.K H0 σ Y G H)(I:Inv X Z σ1 H s)(h:CE X.stack X.prog X.w (fB G) s Q u s')(M:∀v G1,Q v G1-> ∀b,(2,G1 b)->(2,fB G b)):
∃v G1,Inv X Z σ1 (mix σ Y H (i4 G G1)) s'/\RelV v u/\Q v G1/\(∀i b,At σ Y i b->(2,i4 G G1 b))/\ ∀b,G b≠none->(2,fB G b)->(2,G1 b):=by
 obtain⟨v,G1,os,bare,un,bH,r,q⟩:=h;have D:∀b o,(0,H b,o)-> ∃ob,(0,s.heap.get? b,ob):=λb o e=>bJ.there (I.bH b o e)
 have lV:∀b,G b≠none->(2,fB G b)->(2,G1 b):=λb m k=>by
  cases e:G b with
  |none=>exact absurd e m
  |some o=>obtain⟨ob,eo⟩:=D b o (hs.sub b o e);exact un.free b ob eo k (by simp)
 have A:∀i b,At σ Y i b->(2,G1 b):=λi b a=>by
  obtain⟨o,e,_⟩:=hs.soft a;obtain⟨ob,eo⟩:=D b o e;exact un.free b ob eo (dU (hs.gone a)) (by simp)
 have K:∀i b,At σ Y i b->(2,i4 G G1 b):=λi b a=>by rw[dh (A i b a)];exact hs.gone a
 have E:∀b o,(0,H b,o)->(2,fB G b)-> ∀ob,(0,s.heap.get? b,ob)->(0,s'.heap.get? b,ob):=λb o e j ob eo=>un.keep b ob eo j (λz=>by rw[6,I.oE b z]) (by simp)
 have qQ:∀{b o},(0,H b,o)-> ¬DV o->(∀c,o≠ .own c)->(∀i,¬At σ Y i b)/\(0,fB G b,o):=λ{b o}e n c=>⟨(hs.qQ e n).2,hG (hs.qQ e n).1 c⟩
 have tp:∀b xs,(0,H b,.tup xs)->(0,mix σ Y H (i4 G G1) b,.tup xs):=λb xs z=>by
  obtain⟨B,g⟩:=qQ z (λy=>y) (λc y=>nomatch y);rw[2,bW B,cY _ _ (un.mS b xs g)]
 refine⟨v,G1,?_,r,q,K,lV⟩;have F:Un (qK X.stack) [] H (mix σ Y H (i4 G G1)) s.heap s'.heap:=by
  refine⟨λb o e n hb hx=>un.keep b o e (dU (hs.nil_of n).1) hb hx,λb o e n hb hx=>un.slot b o e (dU (hs.nil_of n).1) hb hx,λb o e n hx=>?_,un.there,tp,λb o u' z=>?_,λb ps z=>?_⟩
  ·rw[bW (hs.nil_of n).2,dh (un.free b o e (dU (hs.nil_of n).1) hx)];exact(hs.nil_of n).1
  ·obtain⟨B,g⟩:=qQ z (λy=>y) (λc y=>nomatch y)
   rw[2,bW B,cY _ _ (un.kL b o u' g)]
  ·obtain⟨B,g⟩:=qQ z (λy=>y) (λc y=>nomatch y)
   obtain⟨f,w⟩:=un.mT b ps g;rw[3,f,(10,bW B,cY _ _ w)]
 have L:i6 X.prog X.w (mix σ Y H (i4 G G1)) s'.heap:=λa o e=>by
  by_cases ha:∃i,At σ Y i a
  ·obtain⟨i,ai⟩:=ha
   rw[dq ai]at e;have ga:=hs.gone ai;have J:=E a o e (dU ga);refine(I.bH a o e).km (λb u hb l=>?_) (λb z=>?_) tp
   ·rcases hb with rfl|z
    ·exact J u l
    ·exact E b _ z (by rw[oM (hs.qQ z (λy=>y)).1,ga];rfl) u l
   ·obtain⟨g,B⟩:=hs.qQ z (λy=>y)
    have k:(2,fB G b):=by rw[oM g,ga];rfl
    rw[bW B,dh (lV b (by rw[g];intro y;cases y) k)];exact g
  ·have x:∀i,¬At σ Y i a:=λi z=>ha ⟨i,z⟩
   rw[bW x]at e
   cases O:G1 a with
   |none=>
    rw[dh O]at e;have ha:=hs.sub a o e;have C:(2,fB G a):=M v G1 q a O;obtain⟨c,rfl⟩:∃c,o=.own c:=Classical.byContradiction λn=>by rw[hG e λc y=>n ⟨c,y⟩]at C;cases C
    obtain⟨ob,eo⟩:=D a _ ha;rw[3,ob,E a _ ha C ob eo]
   |some w=>
    have:=cY (G:=G) a w O;rw[e]at this;cases this;refine(bH a o O).km (λ_ _ _ z=>z) (λb z=>?_) (λb xs z=>?_)
    ·rw[2,(bW λi y=>by rw[A i b y]at z;cases z),cY _ _ z]
    ·rw[2,(bW λi y=>by rw[A i b y]at z;cases z),cY _ _ z]
 obtain⟨N,gg,d,t,p⟩:=s';obtain rfl:p=s.os:=os;exact I.call (h':=N) (g':=gg) (d':=d) (t':=t) (ch:=[]) F L bare (λb z=>absurd z (by simp))
theorem cV.same{r:uD}(h:cV K G G1 v r):aO G G1:=by
 cases r with
 |val d=>exact h.1
 |new d=>obtain⟨G2,p,_,s2,gp,eq,_⟩:=h;exact λb o e=>(26,eq b (aK (s2 b o e) gp),s2 b o e)
 |two x y=>obtain⟨G2,a,p,q,_,s2,_,_,gp,c,eq,_⟩:=h;exact λb o e=>(26,eq b (aK (s2 b o e) gp) (aK (s2 b o e) c),s2 b o e)
 |fo x y=>obtain⟨G2,a,w,q,_,s2,_,_,c,eq,_⟩:=h;exact λb o e=>(26,eq b (aK (s2 b o e) c),s2 b o e)
theorem Hid.at(h1:Hid G G1)(s2:aO (fB G) G2)(g2:(2,G2 p))(g1:(0,G1 p,o)):(2,i4 G G2 p)/\i4 G G1 p=G1 p:=by
 refine⟨?_,(10,g1,cY p o g1)⟩;rw[dh g2]
 cases e:G p with
 |none=>rfl
 |some u=>
  cases q:fB G p with
  |none=>rw[h1.n p (by rw[e];intro z;cases z) q]at g1;cases g1
  |some w=>rw[s2 p w q]at g2;cases g2
theorem cV.i4{r:uD}(h:cV K (fB G) G1 v r)(lV:Hid G G1):cV K G (i4 G G1) v r:=by
 cases r with
 |val d=>rw[3,lV.same,Rep.mono cY _ _ h.2]
 |new d=>
  obtain⟨G2,p,rfl,s2,gp,eq,o⟩:=h
  have h2:Hid G G2:=⟨s2,λb m k=>by
   by_cases hb:b=p
   ·rw[2,hb,gp]
   ·rw[2,eq b hb,lV.n b m k]⟩
  obtain⟨ob,eo,_⟩:=o.soft;obtain⟨e,B⟩:=lV.at s2 gp eo;exact⟨M.i4 G G2,p,rfl,h2.same,e,λb hb=>by unfold M.i4;rw[eq b hb],o.mono cY B⟩
 |two x y=>
  obtain⟨G2,a,p,q,rfl,s2,ga,ne,gp,g,eq,c,i⟩:=h
  have h2:Hid G G2:=⟨s2,λb m k=>by
   by_cases hb:b=p
   ·rw[2,hb,gp]
   ·by_cases hq:b=q
    ·rw[2,hq,g]
    ·rw[2,eq b hb hq,lV.n b m k]⟩
  obtain⟨ob,eo,_⟩:=c.soft;obtain⟨n,l,_⟩:=i.soft;obtain⟨e,B⟩:=lV.at s2 gp eo;obtain⟨f,j⟩:=lV.at s2 g l;exact⟨M.i4 G G2,a,p,q,rfl,h2.same,cY _ _ ga,ne,e,f,λb hb hq=>by unfold M.i4;rw[eq b hb hq],c.mono cY B,i.mono cY j⟩
 |fo x y=>
  obtain⟨G2,a,w,q,rfl,s2,ga,L,g,eq,i⟩:=h
  have h2:Hid G G2:=⟨s2,λb m k=>by
   by_cases hq:b=q
   ·rw[2,hq,g]
   ·rw[2,eq b hq,lV.n b m k]⟩
  obtain⟨n,l,_⟩:=i.soft;obtain⟨f,j⟩:=lV.at s2 g l;exact⟨M.i4 G G2,a,w,q,rfl,h2.same,cY _ _ ga,Rep.mono cY _ _ L,f,λb hq=>by unfold M.i4;rw[eq b hq],i.mono cY j⟩
theorem Hs.fI{d:D}(hs:Hs X.K H0 σ Y G H)(A:∀i b,At σ Y i b->(2,G1 b))(ok:cV X.K G G1 v (.val d)):Nx X.K H0 σ Y G H G1 (mix σ Y H G1)/\Rep X.K G1 d v:=by
 obtain⟨s1,r⟩:=ok;have ex:∀b,(G1 b=mix σ Y H G1 b/\ ∀i,¬At σ Y i b)\/((2,G1 b)/\ ∃i,At σ Y i b):=λb=>by
  by_cases ha:∃i,At σ Y i b
  ·obtain⟨i,ai⟩:=ha
   exact .inr ⟨A i b ai,i,ai⟩
  ·have x:∀i,¬At σ Y i b:=λi z=>ha ⟨i,z⟩
   exact .inl ⟨(bW x).symm,x⟩
 refine⟨⟨⟨hs.len,hs.base.trans s1,ex,λi d e=>?_,λi d e=>?_,λi p ds e=>?_,hs.ne⟩,s1,λb o e=>?_⟩,r⟩
 ·obtain⟨v,O,r1⟩:=hs.fr i d e
  rw[1,v,O,Rep.mono s1 _ _ r1]
 ·obtain⟨p,O,o⟩:=hs.ow i d e
  rw[1,p,O,o.mono s1 (dq ⟨_,e,True.intro,O⟩)]
 ·obtain⟨O,o⟩:=hs.lk i p ds e
  rw[3,O,o.mono s1 (dq ⟨_,e,True.intro,O⟩)]
 ·rcases hs.ex b with⟨q,a⟩|⟨q,i,a⟩
  ·rw[2,bW a,s1 b o (q.trans e)]
  ·rw[2,dq a,e]
theorem Hs.hH{d:D}(hs:Hs X.K H0 σ Y G H)(A:∀i b,At σ Y i b->(2,G1 b))(s2:aO G G2)(gp:(2,G2 p))(eq:∀b,b≠p->G2 b=G1 b)(o:Own X.K G2 G1 p d):
Hs X.K H0 (some (.ref p)::σ) (.ow d::Y) G2 (mix σ Y H G1)/\aO H (mix σ Y H G1):=by
 obtain⟨ob,eo,t⟩:=o.soft;have g:∀i,¬At σ Y i p:=λi a=>by rw[A i p a]at eo;cases eo
 have h:mix σ Y H G1 p=G1 p:=bW g;have sm:aO H (mix σ Y H G1):=λb u e=>by
  rcases hs.ex b with⟨q,a⟩|⟨q,i,a⟩
  ·rw[bW a]
   have W:=s2 b u (q.trans e);have hb:b≠p:=aK W gp;rw[<-eq b hb];exact W
  ·rw[2,dq a,e]
 have a0:∀b,At (some (.ref p)::σ) (.ow d::Y) 0 b↔b=p:=λb=>by
  rw[hD]
  constructor
  ·rintro⟨_,z⟩;cases z;rfl
  ·rintro rfl;rw[3,True.intro,rfl]
 refine⟨⟨by simp[hs.len],hs.base.trans s2,λb=>?_,λj d' q=>?_,λj d' q=>?_,λj q' es q=>?_,λj k b a1 a2=>?_⟩,sm⟩
 ·by_cases hb:b=p
  ·subst hb;exact .inr ⟨gp,0,(a0 b).mpr rfl⟩
  ·rcases hs.ex b with⟨c,B⟩|⟨c,j,B⟩
   ·refine .inl ⟨(10,bW B,eq b hb),λj a=>?_⟩
    cases j with
    |zero=>exact hb ((a0 b).mp a)
    |succ j=>exact B j (bV.mp a)
   ·exact .inr ⟨(10,eq b hb,A j b B),j+1,bV.mpr B⟩
 ·cases j with
  |zero=>simp at q
  |succ j=>
   obtain⟨v,O,r1⟩:=hs.fr j d' (by simpa using q);rw[1,v,by simpa using O,Rep.mono s2 _ _ r1]
 ·cases j with
  |zero=>
   simp at q;subst q;rw[1,p,rfl,o.mono (aO.refl _) h]
  |succ j=>
   have q':(0,Y[j]?,.ow d'):=by simpa using q
   obtain⟨b,f,C⟩:=hs.ow j d' q';rw[1,b,by simpa using f,C.mono s2 (dq ⟨_,q',True.intro,f⟩)]
 ·cases j with
  |zero=>simp at q
  |succ j=>
   have l:(0,Y[j]?,.lk q' es):=by simpa using q
   obtain⟨f,C⟩:=hs.lk j q' es l;rw[3,by simpa using f,C.mono s2 (dq ⟨_,l,True.intro,f⟩)]
 ·cases j with
  |zero=>
   cases k with
   |zero=>rfl
   |succ k=>
    have z:=(a0 b).mp a1;subst z;exact absurd (bV.mp a2) (g k)
  |succ j=>
   cases k with
   |zero=>
    have z:=(a0 b).mp a2;subst z;exact absurd (bV.mp a1) (g j)
   |succ k=>
    have:=hs.ne j k b (bV.mp a1) (bV.mp a2);omega
theorem Hs.fJ{d:D}(hs:Hs X.K H0 σ Y G H)(A:∀i b,At σ Y i b->(2,G1 b))(ok:cV X.K G G1 v (.new d)):
∃G2,Hs X.K H0 (some v::σ) (.ow d::Y) G2 (mix σ Y H G1)/\aO G G2/\aO H (mix σ Y H G1):=by
 obtain⟨G2,p,rfl,s2,gp,eq,o⟩:=ok;obtain⟨h1,h2⟩:=hs.hH A s2 gp eq o;exact⟨G2,h1,s2,h2⟩
theorem Hs.ph{x y:D}(hs:Hs X.K H0 σ Y G H)(A:∀i b,At σ Y i b->(2,G1 b))(ok:cV X.K G G1 v (.two x y)):
∃G2 a p q,(3,v,.ref a,(0,G2 a,.tup [.ref p,.ref q]),Hs X.K H0 (some (.ref p)::some (.ref q)::σ) (.ow x:: .ow y::Y) G2 (mix σ Y H G1)/\aO G G2/\aO H (mix σ Y H G1)):=by
 obtain⟨G2,a,p,q,rfl,s2,ga,ne,gp,f,eq,c,h⟩:=ok;obtain⟨j,O,_⟩:=c.soft;have g:∀i,¬At σ Y i p:=λi z=>by rw[A i p z]at O;cases O
 let K:Hp:=λb=>if b=p then none else G1 b
 have C:∀b,b≠p->K b=G1 b:=λb hb=>if_neg hb
 obtain⟨h1,h2⟩:=hs.hH (G1:=K) (G2:=G2) (d:=y) (p:=q) (λi b z=>by
   by_cases hb:b=p
   ·exact if_pos hb
   ·rw[2,C b hb,A i b z]) s2 f (λb hb=>by
   by_cases hp:b=p
   ·subst hp;rw[2,gp,(if_pos rfl).symm]
   ·rw[2,C b hp,eq b hp hb]) (h.mono (aO.refl _) (C q (λz=>ne z.symm)))
 have k:mix σ Y H G1=upd (mix σ Y H K) p j:=by
  funext b
  by_cases hb:b=p
  ·subst hb;rw[aM,bW g];exact O
  ·rw[aI hb]
   by_cases ha:∃i,At σ Y i b
   ·obtain⟨i,ai⟩:=ha;rw[dq ai,dq ai]
   ·rw[bW λi z=>ha ⟨i,z⟩,bW λi z=>ha ⟨i,z⟩,C b hb]
 have e:(2,mix σ Y H K p):=by rw[bW g];exact if_pos rfl
 refine⟨G2,a,p,q,rfl,ga,?_,s2,?_⟩
 ·rw[2,k,h1.fresh e (c.mono (aO.refl _) (by rw[aM,O]))]
 ·rw[k];exact h2.trans (bO e)
end
structure dM(P:Program)(w:World)(K:PySem.W.Frag)(mg:#[11])(base:Heap)(k:Nat)(x:Str)(sp:cN):Prop where
 ex:(56,aQ P w K mg base cy k f fd ps (aV K sp),(0,mg x,.ref f),(4,keepIn K (.ref f)))
section
variable{k:Nat}{x:Str}{es:#[4]}{tr:RA}{p:Pos}
theorem lW{f:Addr}
(F:aQ X.prog X.w X.K X.mg X.base cy k f fd ps (aV X.K sp))(hr:bT k X.A)(hb:Binds X.K fd ps [])(hs:Hs X.K H0 σ Y G H)(I:#[6])(r:Vals vs us)(rd:aE X.K G ds vs)(h:sp ds Qd)
(q:∀v G1 r u s',(11,Inv X Z σ (mix σ Y H G1) s',RelV v u,∀i b,At σ Y i b->(2,G1 b),cV X.K G G1 v r,Qd r->Q u s')):(30,call (.ref f) us,Q):=by
 have N:aV X.K sp vs (fB G) (λv G1=>∃r,cV X.K (fB G) G1 v r/\Qd r) E0:=⟨ds,Qd,aE.near (uS G) _ _ rd,h,λv H' r ok q=>⟨r,ok,q⟩⟩;have hl:us.length=ps.length:=(26,r.length,F.len _ _ _ _ N)
 have c:BindsTo s fd ⟨us,[]⟩ (ps.zip us):=by simpa using hb s us I.kM (by simpa using hl)
 refine wpAny_call (codeAny_mono (F.run X.A X.stack s (fB G) ⟨us,[]⟩ us vs _ E0 hr (hs.wO I) c r N) λr s' hq=>?_)
 cases r with
 |error e=>exact False.elim hq
 |ok fl=>
  cases fl with
  |ret u=>
   obtain⟨v,G1,I1,rv,⟨r,ok,q1⟩,A,lV⟩:=hs.behind I hq (λv G1⟨r,ok,_⟩b e=>ok.same.free e);exact q v (i4 G G1) r u s' I1 rv A (ok.i4 ⟨ok.same,lV⟩) q1
  |next=>exact False.elim hq
  |brk=>exact False.elim hq
  |cont=>exact False.elim hq
def lX(Qd:(1,D))(r:uD):Prop:=match r with
 | .val d=>Qd d
 | .new d=>Qd d
 | .two x y=>Qd (.tup [x,y])
 | .fo x y=>Qd (.tup [x,y])
def zF(Qd:(1,D))(r:uD):Prop:=match r with
 | .new d=>Qd d
 |_=>False
def Kq(sp:cN)(tr:RA)(Y:#[0])(Q:(1,D)):Prop:=tr Y λds=>sp ds (lX Q)
def HJ(sp:cN)(tr:RA)(Y:#[0])(Q:(1,D)):Prop:=tr Y λds=>sp ds (zF Q)
theorem bg(F:dM X.prog X.w X.K X.mg X.base k x sp)(hr:bT k X.A)(ha:pb X H0 (e::es) tr)(hg:Gl X x:=by rfl)(j:(23,x):=by decide)
(he:#[13]:=by rfl)(cU:(28,pos,es):=by rfl):aS X H0 (.Call (.Name x p) (e::es) [] pos) (Kq sp tr):=by
 obtain⟨f,fd,ps,F,hm,hk,hb⟩:=F.ex;intro Z s σ H Q I⟨Y,G,Qd,hs,M,kk⟩;refine wpAny_Call_Name_kw (cc I hg hm ?_ j);have g:iV X.K H0 tr σ H (λvs H'=>∃G' ds,Nx X.K H0 σ Y G H G' H'/\aE X.K G' ds vs/\sp ds (lX Qd)):=⟨Y,G,_,hs,M,λvs H' G' ds n r q=>⟨G',ds,n,r,q⟩⟩;rw[0,PySem.W.callWith_K (h₀:=X.base) I.ok.mod.g9 hk (bK (ha pos Z s σ H _ I g) λus s1⟨vs,H1,I1,r,G',ds,n,rd,q⟩=>⟨I1.kM,?_⟩) he cU,lW F hr hb n.hs I1 r rd q λv G1 r u s' h rv A ok q2=>?_]
 cases r with
 |val d=>
  obtain⟨P,r2⟩:=n.hs.fI A ok;rw[4,v,_,h,rv,kk v _ _ d (n.trans P) r2 q2]
 |new d=>
  obtain⟨G2,P,o,b⟩:=n.hs.fJ A ok;obtain⟨K,l,s3,i⟩:=P.settle;rw[4,v,_,h,rv,kk v _ _ d ⟨l,(n.g.trans o).trans s3,n.h.trans b⟩ i q2]
 |two x y=>
  obtain⟨G2,a,p,q,rfl,ga,P,o,b⟩:=n.hs.ph A ok;obtain⟨K,l,s3,i⟩:=P.settle;obtain⟨m,t,s4,w⟩:=l.settle;rw[4,_,_,h,rv,kk _ _ _ (.tup [x,y]) ⟨t,((n.g.trans o).trans s3).trans s4,n.h.trans b⟩ (by simp only[Rep];rw[4,a,_,rfl,s4 _ _ (s3 _ _ ga),aE.cons (Rep.mono s4 _ _ i) (aE.cons w aE.nil)]) q2]
 |fo x y=>
  obtain⟨G2,a,vx,q,rfl,s2,ga,L,c,eq,z⟩:=ok;obtain⟨P,b⟩:=n.hs.hH A s2 c eq z;obtain⟨K,l,s3,i⟩:=P.settle;rw[4,_,_,h,rv,kk _ _ _ (.tup [x,y]) ⟨l,(n.g.trans s2).trans s3,n.h.trans b⟩ (by simp only[Rep];rw[4,a,_,rfl,s3 _ _ ga,aE.cons (Rep.mono s3 _ _ L) (aE.cons i aE.nil)]) q2]
theorem gm(F:dM X.prog X.w X.K X.mg X.base k x sp)(hr:bT k X.A)(ha:pb X H0 (e::es) tr)(hg:Gl X x:=by rfl)(j:(23,x):=by decide)
(he:#[13]:=by rfl)(cU:(28,pos,es):=by rfl):b' X H0 (.Call (.Name x p) (e::es) [] pos) (HJ sp tr):=by
 obtain⟨f,fd,ps,F,hm,hk,hb⟩:=F.ex;intro Z s σ H Q I⟨Y,G,Qd,hs,M,kk⟩;refine wpAny_Call_Name_kw (cc I hg hm ?_ j);have g:iV X.K H0 tr σ H (λvs H'=>∃G' ds,Nx X.K H0 σ Y G H G' H'/\aE X.K G' ds vs/\sp ds (zF Qd)):=⟨Y,G,_,hs,M,λvs H' G' ds n r q=>⟨G',ds,n,r,q⟩⟩;rw[0,PySem.W.callWith_K (h₀:=X.base) I.ok.mod.g9 hk (bK (ha pos Z s σ H _ I g) λus s1⟨vs,H1,I1,r,G',ds,n,rd,q⟩=>⟨I1.kM,?_⟩) he cU,lW F hr hb n.hs I1 r rd q λv G1 r u s' a rv A ok q2=>?_]
 cases r with
 |val d=>exact q2.elim
 |two x y=>exact q2.elim
 |fo x y=>exact q2.elim
 |new d=>
  obtain⟨G2,P,c,b⟩:=n.hs.fJ A ok;rw[4,v,_,a,rv,kk v _ _ d P (n.g.trans c) (n.h.trans b) q2]
end
section
theorem rQ{it t:Addr}{items:Array Value}(lG:t≠it):∀(n i:Nat)(s:Shared)(Q:(18,#[5])),(11,s.heap.IsListIter it t i,s.heap.IsList t items,i+n<=items.size,∀h',h'.IsListIter it t (i+n)->Heap.SameBut it s.heap h'->Q ((items.toList.drop i).take n) {s with heap:=h'},(27,draw (.ref it) n))
  |0,i,s,Q,c,_,_,B=>by
    show wpAny _ _ (pure []) Q E s
    exact wpAny_pure (by simpa using B s.heap c (Heap.SameBut.refl ..))
  |n+1,i,s,Q,c,M,j,B=>by
    have eH:i<items.size:=#[3]
    show wpAny _ _ (pyNext (.ref it)>>=_) Q E s
    rw[0,(6,wpAny_pyNext_list_item c M (x:=items[i]) (by simp[eH]) λd f a=>?_),wpAny_bind (wpAny_holding (rQ lG n (i+1) _ _ f (M.at λo e=>(a.2 t lG).trans e) #[3] λb g h=>wpAny_pure ?_))];have hd:items.toList.drop i=items[i]::items.toList.drop (i+1):=by simp[List.drop_eq_getElem_cons,eH]
    have:=B b (10,show i+(n+1)=i+1+n by omega,g) (a.trans h);rw[hd,List.take_succ_cons]at this;exact this
theorem m8{t:Addr}{items:Array Value}{Q:(18,#[5])}(N:(2,A.handled))(M:s.heap.IsList t items)
(B:∀h',Heap.ExtBut s.heap.objs.size s.heap h'->Q items.toList {s with heap:=h'}):(27,unpackItems (.ref t) items.size none):=by
 have eH:t≠s.heap.objs.size:=by obtain⟨o,ho,_⟩:=M;exact Nat.ne_of_lt (Heap.lt_size ho)
 unfold unpackItems;refine(6,?_)
 ·unfold notIterableAtAll
  rw[0,(6,wpAny_specialOf M.typeIs PySem.slot_list_iter.lookup ?_),wpAny_pure ?_];simp only[Bool.false_eq_true,if_false];rw[0,wpAny_bind (wpAny_holding (wpAny_pyIter_list M ?_)),wpAny_bind (wpAny_holding (rQ eH items.size 0 _ _ ⟨_,#[15],rfl,rfl⟩ (M.at λo e=>(22,e)) #[3] λd f a=>?_))];have W:List.take items.size (List.drop 0 items.toList)=items.toList:=by
   rw[List.drop_zero];exact List.take_of_length_le (by simp)
  rw[W];rw[if_neg (by simp)];have g:d.IsList t items:=M.at λo e=>(a.2 t eH).trans (22,e)
  refine wpAny_bind (wpAny_holding (wpAny_pyNext_list_end N f g (by simp) λc h=>?_));simp only[Option.isSome_none,Bool.false_eq_true,if_false];refine wpAny_pure (B c λb o hb e=>h b o hb (a.extBut b o hb (22,e)))
theorem lY{a:#[4]}{x1}{t:Addr}{items:Array Value}{Q:(18,Unit)}(N:(2,A.handled))(M:s.heap.IsList t items)
(hn:(assignEach a env).length=items.size)(b:(2,(assignEach a env).findIdx? (·.1)))
(h:∀h',Heap.ExtBut s.heap.objs.size s.heap h'->wpAny (model prog w) A (assignInOrder ((assignEach a env).map (·.2)) items.toList) Q E {s with heap:=h'}):
(27,assign (.Tuple a x1 pos) env (.ref t)):=by
 rw[PyProof.Rows.assign_Tuple];refine wpAny_bind (wpAny_standAt ?_);unfold unpack;rw[hn,b];exact wpAny_bind (wpAny_holding (m8 N M h))
end
section
variable{es:#[4]}{gs:rP}
def Kr(K:PySem.W.Frag)(n:Nat)(t:AB):TG:=λv σ H Q=>∃a xs,(3,v,.ref a,c_ K H a xs,xs.length=n/\t xs σ H Q)
theorem HK{es:#[4]}{k:Nat}{t:AB}(hc:(4,X.calm))(h:wA X es t)
(hn:(assignEach es X.env).length=n:=by rfl)(iT:(2,(assignEach es X.env).findIdx? (·.1)):=by rfl):PG X (.Tuple es k pos) (Kr X.K n t):=by
 intro Z s σ H v u Q I r hw;obtain⟨a,xs,O,hq,hl,hw⟩:=hw;subst O;cases r;obtain⟨its,rv,M,hz⟩:=I.list hq;refine lY (I.ok.hd hc) M.isList (by simp[hn,<-hl,rv.length]) iT λh' hx=>?_
 have I1:(20,H,{s with heap:=h'}):=I.kept (t':=s.toks) λb o e=>hx b o (Nat.ne_of_lt (Heap.lt_size e)) e
 exact h Z _ σ H xs _ Q I1 (by simpa using rv) hw
def Ks(n:Nat)(gs:rP)(d:D)(Y:#[0])(Q:(1,#[0])):Prop:=match d with
 | .lst ds=>ds.length=n/\gs ds Y Q
 |_=>False
theorem FE{k:Nat}(hc:(4,X.calm))(h:qT X H0 es gs)(hn:(assignEach es X.env).length=n:=by rfl)(iT:(2,(assignEach es X.env).findIdx? (·.1)):=by rfl):wq X H0 (.Tuple es k pos) (Ks n gs):=
 PG.weak (HK (n:=n) hc h hn iT) λv σ H Q⟨Y,G,d,Qd,hs,r,h,k⟩=>by
  cases d with
  |lst ds=>
   simp only[Rep]at r;obtain⟨a,vs,rfl,h2,J⟩:=r;exact⟨a,vs,rfl,hs.sub.seq h2,(26,J.length,h.1),Y,G,ds,Qd,hs,J,h.2,k⟩
  |_=>exact h.elim
end
section
def Nd(K:PySem.W.Frag)(a:Addr):It:=
 ⟨λi H=>∃xs x,c_ K H a xs/\(0,xs[i]?,x),λi H x H'=>∃p y,(3,H p,none,x=.ref p,(∀xs,c_ K H a xs->(0,xs[i]?,y))/\H'=upd H p (.tup [.int i,y])),λi H=>∃xs,c_ K H a xs/\xs.length<=i⟩
theorem zG{ts:#[4]}{k:Nat}{tp:Pos}(a e it:Addr)(lG:e≠it):Turn P w K (.Tuple ts k tp) (Nd K a) [e,it] e (λi h=>(∃g,IsEnum h e it i g)/\h.IsListIter it a i)where
 mem:=by simp
 obj:=λi h st b hb=>by
  obtain⟨⟨g,h1⟩,o,h2,c,d⟩:=st
  rcases List.mem_cons.mp hb with z|z
  ·subst z;rw[1,_,h1,λv z=>by cases z]
  ·have z:b=it:=by simpa using z
   subst z;rw[1,o,h2,λv z=>by rw[d]at z;cases z]
 keep:=λi h h' st k=>by
  obtain⟨⟨g,h1⟩,h2⟩:=st;rw[3,⟨g,k e (by simp) _ h1⟩,h2.at λo q=>k it (by simp) o q]
 item:=by
  rw[13];obtain⟨xs,x,hq,hx⟩:=hg;obtain⟨its,rv,p,hz⟩:=I.list hq;obtain⟨u,hu,ru⟩:=rv.get hx;obtain⟨⟨g,h1⟩,h2⟩:=st;obtain⟨D,l,R,j,f4,N⟩:=S e (by simp);obtain⟨g0,g1,g2,C,g4,W⟩:=S it (by simp);have fr:(2,H s.heap.objs.size):=I.bH.fresh (Nat.le_refl _);refine wpAny_pyNext_enum_item h1 h2 p.isList (x:=u) (by simpa using hu) lG λh' ho T O hsz hk=>⟨_,rfl,?_⟩
  have t:e<s.heap.objs.size:=Heap.lt_size h1;have Xc:it<s.heap.objs.size:=by obtain⟨o,q,_⟩:=h2;exact Heap.lt_size q
  refine wpAny_letOwnedTupleGo_enum ho λJ Nf Q=>?_
  replace Q:Heap.SameBut e h' J:=Q;have kk:∀b o,b≠e->b≠it->(0,s.heap.get? b,o)->(0,J.get? b,o):=λb o hb G q=>(Q.2 b hb).trans (hk b o hb G q)
  have A:∀b u,(0,H b,u)->b≠e/\b≠it:=λb u q=>⟨(λz=>by rw[z,D]at q;cases q),(λz=>by rw[z,g0]at q;cases q)⟩
  have Ng:(0,J.get? s.heap.objs.size,{cls:=.type "tuple",data:=.seq #[.int i s.toks,u]}):=(Q.2 _ (Nat.ne_of_gt t)).trans O;refine⟨#[14],upd H s.heap.objs.size (.tup [.int i,x]),?_,rfl,⟨_,x,fr,rfl,λys hy=>(10,I.lI hy hq,hx),rfl⟩,⟨⟨u,by simpa using Nf⟩,T.at λo q=>(Q.2 it lG.symm).trans q⟩,λb hb=>?_⟩
  ·suffices h:L2.Inv X Z σ (upd H s.heap.objs.size (.tup [.int i,x])) {s with heap:=J,gens:=s.gens,drawn:=s.drawn,toks:=s.toks+1}from h
   refine I.step (g':=s.gens) (d':=s.drawn) (ch:=[e,it]) (h':=J) (t':=s.toks+1) (λb hb=>?_) (λb o _ _ hc M _=>?_) (λb o _ _ hc M _=>⟨o.slots,?_⟩) (λb o hc M n=>?_) (λb o hc M=>⟨o,?_⟩) (λb ys q=>?_) (λb o u' q=>?_) (λb ps q=>⟨#[],?_⟩) (λm hm=>?_) (λb o q=>?_) I.bare
   ·rcases List.mem_cons.mp hb with z|z
    ·subst z;exact⟨j,l,f4,N⟩
    ·have z:b=it:=by simpa using z
     subst z;exact⟨C,g1,g4,W⟩
   ·exact kk b o (λz=>hc (by simp[z])) (λz=>hc (by simp[z])) M
   ·exact kk b o (λz=>hc (by simp[z])) (λz=>hc (by simp[z])) M
   ·rw[2,aI (Nat.ne_of_lt (Heap.lt_size M)),n]
   ·exact kk b o (λz=>hc (by simp[z])) (λz=>hc (by simp[z])) M
   ·rw[2,aI (aK q fr),q]
   ·rw[2,aI (aK q fr),q]
   ·rw[aI (aK q fr),q];simp
   ·obtain⟨o,es,ep,f,r⟩:=hm
    rw[4,o,es,ep,kk _ o l.symm g1.symm f,r]
   ·by_cases hb:b=s.heap.objs.size
    ·subst hb
     rw[aM]at q;cases q;exact⟨(15,(8,2)),[.int i s.toks,u],.cons ⟨_,rfl⟩ (.cons ru .nil),⟨_,Ng,rfl,_,rfl⟩⟩
    ·rw[aI hb]at q
     refine(I.bH b o q).km (λc v hc z=>?_) (λc z=>?_) (λc ys z=>?_)
     ·rcases hc with y|y
      ·rw[y]at z⊢;exact kk b v (A b _ q).1 (A b _ q).2 z
      ·exact kk c v (A c _ y).1 (A c _ y).2 z
     ·rw[2,aI (aK z fr),z]
     ·rw[2,aI (aK z fr),z]
  ·have G:b≠s.heap.objs.size:=by
    rcases List.mem_cons.mp hb with z|z
    ·subst z;exact Nat.ne_of_lt t
    ·have z:b=it:=by simpa using z
     subst z;exact Nat.ne_of_lt Xc
   rw[2,aI G,(S b hb).1]
 done:=by
  rw[13];obtain⟨xs,hq,hx⟩:=hg;obtain⟨its,rv,p,hz⟩:=I.list hq;obtain⟨⟨g,h1⟩,h2⟩:=st;obtain⟨D,l,R,j,f4,N⟩:=S it (by simp);have hl:=rv.length;exact wpAny_pyNext_enum_end (I.ok.hd hc) h1 h2 p.isList (by simp;omega) λh' F=>⟨rfl,I.turned (t':=s.toks) (λb o hb e=>F b o hb e) D l j f4 N⟩
 self:=λ_ _ _ _ _ st h=>by
  obtain⟨⟨g,h1⟩,_⟩:=st;exact wpAny_pyIter_enum h1 h
def Kt(K:PySem.W.Frag)(B:TA):TI:=λσ H R=>B σ H λvs H1=>∃a,(3,vs,[.ref a],∃xs,c_ K H1 a xs,R (Nd K a) H1)
theorem yt{ts:#[4]}{k:Nat}{tp:Pos}{a:Expr}{B:TA}{p:Pos}(hg:Gl X "enumerate")(hm:(2,X.mg "enumerate"))(ha:PA X [a] B)(hs:starEach [a] X.env=[(false,eval a X.env)]:=by rfl):
PI X (.Tuple ts k tp) (.Call (.Name "enumerate" p) [a] [] pos) (Kt X.K B):=by
 intro Z s σ H R I h;rw[0,wpAny_Call_Name_kw (mU I hg hm (u:=.type "enumerate") rfl ?_),PyProof.Rows.callWith_type1 (bK (ha pos Z s σ H _ I h) λus s1⟨vs,H1,I1,r1,q1⟩=>?_) hs rfl];obtain⟨l,e,⟨xs,hq⟩,q⟩:=q1;subst e;obtain⟨u,rfl,ru⟩:=vals1 r1;cases ru;obtain⟨its,rv,pl,hz⟩:=I1.list hq;rw[0,call_enumerate_list pl.isList λh' he c hsz hk=>?_,wpAny_pyIter_enum he ?_]
 have d:(20,H1,{s1 with heap:=h'}):=I1.kept (t':=s1.toks) hk;refine⟨s1.heap.objs.size+1,[s1.heap.objs.size+1,s1.heap.objs.size],_,_,H1,rfl,d,zG l _ _ (Nat.succ_ne_self _),⟨⟨_,by simpa using he⟩,c⟩,λb hb=>?_,q⟩;have G:s1.heap.objs.size<=b:=by
  rcases List.mem_cons.mp hb with z|z
  ·rw[z];exact Nat.le_succ _
  ·have z:b=s1.heap.objs.size:=by simpa using z
   rw[z];exact Nat.le_refl _
 exact I1.uK G (I1.bH.fresh G)
def ku(n:Nat):List D->List D
 |[]=>[]
 |d::ds=>.tup [.int n,d]::ku (n+1) ds
theorem tj(n:Nat)(ds:List D):(ku n ds).length=ds.length:=by
 induction ds generalizing n with
 |nil=>rfl
 |cons d ds ih=>simp[ku,ih]
theorem rR:∀(n i:Nat)(ds:List D),(ku n ds)[i]?=ds[i]?.map λd=>.tup [.int (n+i:Nat),d]
 |_,_,[]=>rfl
 |_,0,_::_=>rfl
 |n,i+1,_::ds=>(rR (n+1) i ds).trans (by rw[Nat.add_right_comm];rfl)
theorem Src.enum(h2:c_ K G1 a ws)(J:aE K G1 xs ws):Src K G1 (Nd K a) (ku 0 xs):=
 ⟨λi d h s e=>by
  rw[rR]at e
  cases c:xs[i]? with
  |none=>rw[6,c]
  |some d'=>
   rw[6,c];obtain⟨v,b,r⟩:=J.get c;have sq:=h.sub.seq (s.seq h2);refine⟨⟨ws,v,sq,b⟩,λx H'⟨p,y,hp,ex,hy,f⟩=>?_⟩;cases(hy ws sq).symm.trans b;subst ex f
   exact h.pair hp (by simp only[Rep];rw[Nat.zero_add]) (Rep.mono s _ _ r),λh s=>⟨ws,h.sub.seq (s.seq h2),by rw[tj,J.length];exact Nat.le_refl _⟩⟩
def D2(ds:List D)(Q:(1,List D)):Prop:=match ds with
 |[.lst xs]=>Q xs
 |_=>False
theorem yu{Q:(1,List D)}(h:D2 ds Q):∃xs,ds=[.lst xs]/\Q xs:=by
 unfold D2 at h
 split at h
 ·rw[1,_,rfl,h]
 ·exact h.elim
def Ku(tr:RA)(g:RG)(F:RS)(E:bC)(Y:#[0]):Prop:=tr Y λds=>D2 ds λxs=>loop g F E (ku 0 xs) Y
variable{ts:#[4]}{k:Nat}{tp p c:Pos}{a:Expr}{tr:RA}{g:RG}{F:RS}{body:List Stmt}
theorem wY(hp:PassesOwn (model X.prog X.w) X.A X.env X.xe)(hc:(4,X.calm))(d:Gl X "enumerate")(hm:(2,X.mg "enumerate"))(ha:pb X H0 [a] tr)(hg:wq X H0 (.Tuple ts k tp) g)(hb:e3 X H0 body F)(iT:starEach [a] X.env=[(false,eval a X.env)]:=by rfl)
(hs:(43,.Call (.Name "enumerate" p) [a] [] c):=by intro _;rfl):i8 X H0 (.For (.Tuple ts k tp) (.Call (.Name "enumerate" p) [a] [] c) body [] pos) (Ku tr g F):=
 (46,mY hp hc (yt d hm ha iT) hg hb hs,go,λvs H1 G1 ds n1 r1 q1=>by
  obtain⟨xs,rfl,q2⟩:=yu q1;simp only[aE,Rep]at r1;obtain⟨v,r,rfl,⟨l,ws,rfl,h2,J⟩,rfl⟩:=r1
  exact⟨l,rfl,⟨ws,n1.hs.sub.seq h2⟩,fC n1.hs (.enum h2 J) n1.g go q2⟩)
end
def yv(K:PySem.W.Frag)(G H:Hp):(7,List D,List V)
 |[],vs=>vs=[]
 |d::ds,vs=>∃v r,(3,vs,v::r,ox K G H d v,yv K G H ds r)
inductive tl(K:PySem.W.Frag)(H0:Hp)(t:RA)(σ:L2.St)(H:Hp)(Q:(7,List V,Hp)):Prop
 |mk(Y:_)(G:_)(Qd:_):#[12]->t Y Qd->(∀vs H' G' ds,Nx K H0 σ Y G H G' H'->yv K G' H' ds vs->Qd ds->Q vs H')->tl K H0 t σ H Q
def jc(X:Cx)(H0:Hp)(es:#[4])(t:RA):Prop:=PA X es (tl X.K H0 t)
section
variable{t:RE}{p:Pos}{es:#[4]}{tr:RA}{x:Str}{id T:String}
theorem cG:jc X H0 [] zy:=PA.weak gj λσ H Q⟨Y,G,Qd,hs,M,k⟩=>k [] H G [] (Nx.refl hs) rfl M
theorem b_(ha:dJ X H0 e t)(hr:jc X H0 es tr)(hs:#[13]:=by rfl):jc X H0 (e::es) (rN t tr):=
 PA.weak (cZ ha hr hs) (41,k,λv H1 G1 d n1 r1 q1=>⟨Y,G1,_,n1.hs,q1,λvs H2 G2 ds P r2 q2=>k (v::vs) H2 G2 (d::ds) (n1.trans P) ⟨v,vs,rfl,r1.mono P.g P.h,r2⟩ q2⟩)
def Dr(K:PySem.W.Frag)(r:List V->Hp->(1,VK))(r2:(7,List D,(1,D))):Prop:=
 ∀(H0:Hp)(σ:L2.St)(Y:#[0])(G H:Hp)(vs:List V)(ds:List D)(Qd:(1,D))(Q:VK),(11,#[12],yv K G H ds vs,r2 ds Qd,∀v H' G' d,Nx K H0 σ Y G H G' H'->Rep K G' d v->Qd d->Q v H',r vs H Q)
def Kv(K:PySem.W.Frag)(r:List V->Hp->(1,VK))(r2:(7,List D,(1,D))):Prop:=
 ∀(H0:Hp)(σ:L2.St)(Y:#[0])(G H:Hp)(vs:List V)(ds:List D)(Qd:(1,D))(Q:VK),(11,#[12],yv K G H ds vs,r2 ds Qd,∀v H' G' d,(11,Hs K H0 (some v::σ) (.ow d::Y) G' H',aO G G',aO H H',Qd d,Q v H'),r vs H Q)
def uT(r2:(7,List D,(1,D)))(tr:RA)(Y:#[0])(Q:(1,D)):Prop:=tr Y λds=>r2 ds Q
variable{r:List V->Hp->(1,VK)}{r2:(7,List D,(1,D))}
theorem yw(h:Dr X.K r r2):∀σ H Q,bX X.K H0 (uT r2 tr) σ H Q->LJ r (tl X.K H0 tr) σ H Q:=λσ H Q⟨Y,G,Qd,hs,M,k⟩=>
 ⟨Y,G,_,hs,M,λvs H1 G1 ds n1 r1 q1=>h H0 σ Y G1 H1 vs ds Qd Q n1.hs r1 q1 λv H2 G2 d P a q2=>k v H2 G2 d (n1.trans P) a q2⟩
theorem uU(h:Kv X.K r r2):∀σ H Q,yj X.K H0 (uT r2 tr) σ H Q->LJ r (tl X.K H0 tr) σ H Q:=λσ H Q⟨Y,G,Qd,hs,M,k⟩=>
 ⟨Y,G,_,hs,M,λvs H1 G1 ds n1 r1 q1=>h H0 σ Y G1 H1 vs ds Qd Q n1.hs r1 q1 λv H2 G2 d P a b q2=>k v H2 G2 d P (n1.g.trans a) (n1.h.trans b) q2⟩
theorem oN(hc:eZ X (.builtin id) r)(h:Dr X.K r r2)(hm:(2,X.mg x))(hv:(0,bootBuiltins x,.builtin id))(ha:jc X H0 (e::es) tr)(hg:Gl X x:=by rfl)(hn:x≠ "__name__":=by decide)(j:(23,x):=by decide)
(he:#[13]:=by rfl)(cU:(28,pos,es):=by rfl):aS X H0 (.Call (.Name x p) (e::es) [] pos) (uT r2 tr):=
 PE.weak (o6 hc hg hm hv ha hn j he cU) (yw h)
theorem pj(hc:eZ X (.type T) r)(h:Dr X.K r r2)(hm:(2,X.mg x))(hv:(0,bootBuiltins x,.type T))(ha:jc X H0 (e::es) tr)(hg:Gl X x:=by rfl)(hn:x≠ "__name__":=by decide)(j:(23,x):=by decide)
(he:#[13]:=by rfl)(cU:(28,pos,es):=by rfl):aS X H0 (.Call (.Name x p) (e::es) [] pos) (uT r2 tr):=
 PE.weak (jX hc hg hm hv ha hn j he cU) (yw h)
theorem uV(hc:eZ X (.type T) r)(h:Kv X.K r r2)(hm:(2,X.mg x))(hv:(0,bootBuiltins x,.type T))(ha:jc X H0 (e::es) tr)(hg:Gl X x:=by rfl)(hn:x≠ "__name__":=by decide)(j:(23,x):=by decide)
(he:#[13]:=by rfl)(cU:(28,pos,es):=by rfl):b' X H0 (.Call (.Name x p) (e::es) [] pos) (uT r2 tr):=
 PE.weak (jX hc hg hm hv ha hn j he cU) (uU h)
def HL(ds:List D)(Q:(1,D)):Prop:=match ds with
 |[.lst xs]=>Q (.int xs.length)
 |[.tup xs]=>Q (.int xs.length)
 |_=>False
theorem HM:Dr K (λxs H Q=>∃p ys,(3,xs,[.ref p],c_ K H p ys\/dg K H p ys,Q (.int ys.length) H)) HL:=λH0 σ Y G H vs ds Qd Q hs r h k=>by
 unfold HL at h
 split at h
 ·rename_i xs
  rw[18];rw[4,a,ws,rfl,.inl h2,k _ H G _ (Nx.refl hs) (by simp only[Rep];rw[J.length]) h]
 ·rename_i xs
  rw[18];rw[4,a,ws,rfl,.inr (dg.of h2),k _ H G _ (Nx.refl hs) (by simp only[Rep];rw[J.length]) h]
 ·exact h.elim
theorem rS(hm:(2,X.mg "len"))(ha:jc X H0 (e::es) tr)(hg:Gl X "len":=by rfl)
(he:#[13]:=by rfl)(cU:(28,pos,es):=by rfl):aS X H0 (.Call (.Name "len" p) (e::es) [] pos) (uT HL tr):=
 oN lN HM hm PySem.boot_len ha hg #[2] #[2] he cU
def tm(ds:List D)(Q:(1,D)):Prop:=match ds with
 |[.lst xs]=>Q (.lst xs)
 |[.tup xs]=>Q (.lst xs)
 |_=>False
theorem D3:Kv K (λxs H Q=>∃p ys,(3,xs,[.ref p],c_ K H p ys\/dg K H p ys,∀l,(2,H l)->Q (.ref l) (upd H l (.lst ys)))) tm:=λH0 σ Y G H vs ds Qd Q hs r h k=>by
 unfold tm at h
 split at h
 ·rename_i xs
  rw[18];rw[4,a,ws,rfl,.inl h2,λl hl=>k _ _ G (.lst xs) (hs.fresh hl ⟨ws,aM,J⟩) (aO.refl _) (bO hl) h]
 ·rename_i xs
  rw[18];rw[4,a,ws,rfl,.inr (dg.of h2),λl hl=>k _ _ G (.lst xs) (hs.fresh hl ⟨ws,aM,J⟩) (aO.refl _) (bO hl) h]
 ·exact h.elim
theorem Bu(hm:(2,X.mg "list"))(ha:jc X H0 (e::es) tr)(hg:Gl X "list":=by rfl)
(he:#[13]:=by rfl)(cU:(28,pos,es):=by rfl):b' X H0 (.Call (.Name "list" p) (e::es) [] pos) (uT tm tr):=
 uV sY D3 hm rfl ha hg #[2] #[2] he cU
end
section
variable{t:RE}{aU w p:Pos}{x:Str}
def Kw(i:Nat)(te:RE)(E:bC)(Y:#[0]):Prop:=match Y[i]? with
 |some (.ow (.lst ds))=>te Y λd=>ds.length<sizeLine/\E.nx (Y.set i (.ow (.lst (ds++[d]))))
 |_=>False
theorem pq(i:Nat)(he:aS X H0 e t)(hN:(0,X.N[i]?,x):=by rfl)(hv:qL X.env.scope x:=by first|exact Or.inl rfl|exact Or.inr (Or.inl rfl)|exact Or.inr (Or.inr rfl))(hd:(23,x):=by decide)
(W:#[21]:=by decide)
(l:attributeBase (.Name x p) "append" X.env (eval (.Name x p) X.env)=eval (.Name x p) X.env:=by rfl)
(f:(60,[e],[e]):=by rfl)
(c:(4,w.endLine==aU.line):=by rfl)(hs:(51,[e],e,[]):=by rfl)(b:(28,aU,[]):=by rfl)
(k:swapsWith (31,.Name x p,"append",[e],aU) none pos.line X.env=pure false:=by rfl):
i8 X H0 (.Expr (31,.Name x p,"append",[e],aU) pos) (Kw i t):=
 PS.weak (x8 (A7 PySem.F.plainAttrs_list PySem.F.slot_list_append PySem.F.type_list_append rG (eD hN hv hd W) (cZ he gj hs) l f c hs b) k) λD σ H⟨Y,G,E,hs,M,go⟩=>by
  unfold Kw at M
  split at M
  ·rename_i ds e0
   obtain⟨q,O,vs,h1,h2⟩:=hs.ow i _ e0;refine⟨.ref q,O,.inl ⟨rfl,vs,c_.of h1⟩,Y,G,_,hs,M,λv H1 G1 d n1 r1 q1=>?_⟩;obtain⟨q',j,g,h,a⟩:=n1.hs.ow i _ e0;rw[O]at j;cases j;refine⟨q,g,v,rfl,rfl,h,(26,a.length,q1.1),?_⟩;exact go.nx _ _ _ G1 (n1.hs.write (d':=.lst (ds++[d])) e0 O ⟨_,aM,aE.append a (aE.cons r1 aE.nil)⟩) n1.g q1.2
  ·exact M.elim
end
theorem uW{g:RG}{F:RS}{E:bC}(I:(7,List D,#[0]))(fin:∀Y,I [] Y->E.nx Y)
 (step:∀d r Y(L:(1,#[0])),(∀l j,I r j->Fg l j->L l)->I (d::r) Y->g d Y λa=>F {nx:=L,rt:=E.rt,bk:=E.nx,ct:=L} a):∀ds Y,I ds Y->loop g F E ds Y
  |[],Y,h=>fin Y h
  |d::r,Y,h=>step d r Y (λl=>∃j,Fg l j/\loop g F E r j) (λl j h' f=>⟨j,f,uW I fin step r j h'⟩) h
theorem ba{d:D}{Q:(1,#[0])}(e:(0,Y[i]?,l))(b:l.locked=false)(q:Q (Y.set i (.fr d))):pe i d Y Q:=by
 unfold pe;rw[e]
 cases l with
 |lk p d=>cases b
 |_=>exact q
theorem uX{i j:Int}(h1: -(2^64)<j:=by decide)(h2:j<2^64:=by decide):zl i j:=.inr ⟨h1,h2⟩
theorem Kx{i j:Int}(h1: -(2^64)<i:=by decide)(h2:i<2^64:=by decide):zl i j:=.inl ⟨h1,h2⟩
theorem Ky{i j:Int}(h1:0<=j:=by decide)(h2:j<=1000000:=by decide)(J:i.natAbs<2^64:=by decide):GQ i j:=⟨h1,h2,J⟩
theorem D4{ns:List Int}(h:n<ns.length):(0,wU (ns.map D.int) (n:Int),.int (ns.getD n 0)):=DJ (by simp[h])
section
variable{c:RT}{t u:RS}{E:bC}
end
def fV(t:RT)(Y:#[0])(b:Bool):Prop:=∀Q:(1,Bool),Q b->t Y Q
def lH(t:RE)(Y:#[0])(d:D):Prop:=∀Q:(1,D),Q d->t Y Q
section
variable{u v:RT}{B F:RE}{b1 b2:Bool}
theorem rT(h1:fV u Y b1)(h2:b1=false->fV v Y b2):fV (Na u v) Y (b1||b2):=λQ q=>h1 _ ⟨(λe=>by subst e;exact q),(λe=>by subst e;exact h2 rfl Q q)⟩
theorem HN(h1:fV u Y b1)(h2:(4,b1)->fV v Y b2):fV (J_ u v) Y (b1&&b2):=λQ q=>h1 _ ⟨(λe=>by subst e;exact h2 rfl Q q),(λe=>by subst e;exact q)⟩
theorem b7(h1:fV u Y b1):fV (J' u) Y (!b1):=λQ q=>h1 _ q
theorem HP(h1:lH B Y (.bl b1))(h2:b1=false->lH F Y (.bl b2)):lH (Ka B F) Y (.bl (b1||b2)):=λQ q=>h1 _ ⟨(λe=>by subst e;exact q),(λe=>by subst e;exact h2 rfl Q q)⟩
theorem D5(h1:lH B Y (.bl b1))(h2:(4,b1)->lH F Y (.bl b2)):lH (Bo B F) Y (.bl (b1&&b2)):=λQ q=>h1 _ ⟨(λe=>by subst e;exact h2 rfl Q q),(λe=>by subst e;exact q)⟩
theorem D6(h1:lH B Y (.bl b1)):lH (Fw B) Y (.bl (!b1)):=λQ q=>h1 _ q
theorem fV.eq(h:fV u Y b1)(e:b1=b2):fV u Y b2:=e▸h
theorem lH.eq{d d':D}(h:lH B Y d)(e:d=d'):lH B Y d':=e▸h
theorem jd(h1:fV u Y false)(h2:fV v Y false):fV (Na u v) Y false:=rT h1 λ_=>h2
theorem D7(h1:lH B Y (.bl true))(h2:lH F Y (.bl true)):lH (Bo B F) Y (.bl true):=D5 h1 λ_=>h2
end
section
variable{c:RT}{t u:RS}{E:bC}{te:RE}
theorem fW(h:fV c Y true)(k:t E Y):HF c t u E Y:=⟨h _ (cS.t k)⟩
theorem cx(h:fV c Y false)(k:u E Y):HF c t u E Y:=⟨h _ (cS.f k)⟩
theorem yx{b:Bool}(h:fV c Y b)(k1:(4,b)->t E Y)(k2:b=false->u E Y):HF c t u E Y:=⟨h _ ⟨k1,k2⟩⟩
theorem Kz{p:Prop} [Decidable p](h:fV c Y (decide p))(k1:p->t E Y)(k2:¬p->u E Y):HF c t u E Y:=⟨h _ (cS.dec k1 k2)⟩
theorem FG{p:Prop} [Decidable p](h:fV c Y (false !=decide p))(k1:p->t E Y)(k2:¬p->u E Y):HF c t u E Y:=Kz (h.eq (by cases decide p<;>rfl)) k1 k2
theorem tn{d:D}(h:lH te Y d)(q:E.rt (.val d) Y):HE te E Y:=h _ q
end
inductive Drawn:(7,List Int,List Int)where
 |nil:Drawn [] []
 |cons{d s:Int}{ds i:List Int}(M:0<=d)(h1:d<s)(h:Drawn ds i):Drawn (d::ds) (s::i)
theorem Drawn.one{s1:Int}{P:(1,List Int)}(h:∀a:Int,0<=a->a<s1->P [a]):∀C,Drawn C [s1]->P C:=λC w=>by
 cases w with|cons a0 a1 w=>cases w with|nil=>exact h _ a0 a1
theorem Drawn.four{s1 s2 s3 s4:Int}{P:(1,List Int)}(h:∀a b c d:Int,(11,0<=a,a<s1,0<=b,b<s2,(11,0<=c,c<s3,0<=d,d<s4,P [a,b,c,d]))):∀C,Drawn C [s1,s2,s3,s4]->P C:=λC w=>by
 cases w with|cons a0 a1 w=>cases w with|cons i b1 w=>cases w with|cons j e w=>cases w with|cons g f w=>cases w with|nil=>exact h _ _ _ _ a0 a1 i b1 j e g f
theorem Drawn.snoc{C i:List Int}{d s:Int}(h:Drawn C i)(M:0<=d)(h1:d<s):Drawn (C++[d]) (i++[s]):=by
 induction h with
 |nil=>exact .cons M h1 .nil
 |cons a b _ ih=>exact .cons a b ih
theorem aU{n:Int}(h:0<n:=by decide):0<n:=h
theorem pv:(8,1):=#[2]
theorem kn:(8,2):=#[2]
theorem LM:(8,3):=#[2]
theorem D8:(8,4):=#[2]
theorem LN:(8,5):=#[2]
theorem LO:(8,6):=#[2]
theorem LP:(8,8):=#[2]
mutual
def eV:D->D->Bool
 | .bu,y=>match y with
  | .bu=>true
  |_=>false
 | .bl a,y=>match y with
  | .bl b=>a==b
  | .int b=>(if a then 1 else 0)==b
  |_=>false
 | .int a,y=>match y with
  | .bl b=>a==(if b then 1 else 0)
  | .int b=>a==b
  |_=>false
 | .str a,y=>match y with
  | .str b=>a==b
  |_=>false
 | .tup xs,y=>match y with
  | .tup ys=>e7 xs ys
  |_=>false
 | .lst xs,y=>match y with
  | .lst ys=>e7 xs ys
  |_=>false
 | .dK _,_=>false
 | .dT _,_=>false
 | .adr _,_=>false
 | .exc _ _,_=>false
 | .obj _ _,_=>false
def e7:List D->List D->Bool
 |[],ys=>match ys with
  |[]=>true
  |_=>false
 |x::xs,ys=>match ys with
  |y::ys=>eV x y&&e7 xs ys
  |_=>false
end
def aN:Nat->D->Bool
 |_,.bu=>true
 |_,.bl _=>true
 |_,.int _=>true
 |_,.str _=>true
 |n+1,.tup xs=>xs.all (aN n)
 |n+1,.lst xs=>xs.all (aN n)
 |_,_=>false
theorem pw:∀{xs ys:List D},(4,e7 xs ys)->xs.length=ys.length
 |[],[],_=>rfl
 |[],_::_,h=>by simp[e7]at h
 |_::_,[],h=>by simp[e7]at h
 |x::xs,y::ys,h=>by
  simp only[e7,Bool.and_eq_true]at h;simp[pw h.2]
theorem kO:∀(xs ys:List D),xs.length=ys.length->(List.range xs.length).all (λj=>eV (xs.getD j .bu) (ys.getD j .bu))=e7 xs ys
 |[],[],_=>rfl
 |[],_::_,h=>by simp at h
 |_::_,[],h=>by simp at h
 |x::xs,y::ys,h=>by
  have ih:=kO xs ys (by simpa using h);rw[List.length_cons,List.range_succ_eq_map,List.all_cons,List.all_map,e7];rw[<-ih];rfl
mutual
theorem uY:∀(n:Nat)(d:D),(4,aN n d)->(4,eV d d)
 |_,.bu,_=>by simp[eV]
 |_,.bl _,_=>by simp[eV]
 |_,.int _,_=>by simp[eV]
 |_,.str _,_=>by simp[eV]
 |0,.tup _,h=>by simp[aN]at h
 |0,.lst _,h=>by simp[aN]at h
 |n+1,.tup xs,h=>by simp only[aN]at h;simp only[eV];exact m9 n xs h
 |n+1,.lst xs,h=>by simp only[aN]at h;simp only[eV];exact m9 n xs h
 |n,.dK _,h=>by cases n<;>simp[aN]at h
 |n,.dT _,h=>by cases n<;>simp[aN]at h
 |n,.adr _,h=>by cases n<;>simp[aN]at h
 |n,.exc _ _,h=>by cases n<;>simp[aN]at h
 |n,.obj _ _,h=>by cases n<;>simp[aN]at h
theorem m9:∀(n:Nat)(xs:List D),(4,xs.all (aN n))->(4,e7 xs xs)
 |_,[],_=>by simp[e7]
 |n,x::xs,h=>by
  rw[List.all_cons,Bool.and_eq_true]at h;simp only[e7,Bool.and_eq_true];rw[3,uY n x h.1,m9 n xs h.2]
end
section
open SeqAt
theorem kv{K:PySem.W.Frag}{xs ys:List V}(I:(20,H,s))(h1:c_ X.K H a xs)(h2:dg X.K H a ys):False:=by
 obtain⟨its,r,pl,_⟩:=I.list h1;obtain⟨its',r',pt,_⟩:=I.tuple h2;exact ne_of_list_tuple pl.isList pt rfl
def Xe:V->Option D
 | .bu=>some .bu
 | .bl b=>some (.bl b)
 | .int i=>some (.int i)
 | .str x=>some (.str x)
 |_=>none
theorem px{d:D}(p:(4,aN n d))(r:Rep K H d v):(0,Xe v,d)\/ ∃a xs m vs,(3,v,.ref a,n=m+1,(3,xs.all (aN m),true,aE K H xs vs,(d=.tup xs/\(0,H a,.tup vs))\/(d=.lst xs/\c_ K H a vs))):=by
 cases d with
 |bu=>simp only[Rep]at r;subst r;exact .inl rfl
 |bl b=>simp only[Rep]at r;subst r;exact .inl rfl
 |int b=>simp only[Rep]at r;subst r;exact .inl rfl
 |str b=>simp only[Rep]at r;subst r;exact .inl rfl
 |tup xs=>
  simp only[Rep]at r;obtain⟨a,vs,e,h1,h2⟩:=r
  cases n with
  |zero=>exact nomatch p
  |succ n=>exact .inr ⟨a,xs,n,vs,e,rfl,p,h2,.inl ⟨rfl,h1⟩⟩
 |lst xs=>
  simp only[Rep]at r;obtain⟨a,vs,e,h1,h2⟩:=r
  cases n with
  |zero=>exact nomatch p
  |succ n=>exact .inr ⟨a,xs,n,vs,e,rfl,p,h2,.inr ⟨rfl,h1⟩⟩
 |_=>cases n<;>exact nomatch p
theorem m_{K:PySem.W.Frag}{n:Nat}(ih:∀(d d':D)(v:V),(11,(4,aN n d),(4,aN n d'),Rep K H d v,Rep K H d' v,d=d')):∀(xs ys:List D)(vs:List V),(11,(4,xs.all (aN n)),(4,ys.all (aN n)),aE K H xs vs,aE K H ys vs,xs=ys)
 |[],[],_,_,_,_,_=>rfl
 |[],y::ys,vs,_,_,h1,h2=>by have a:=h1.length;have b:=h2.length;rw[<-a]at b;exact nomatch b
 |x::xs,[],vs,_,_,h1,h2=>by have a:=h1.length;have b:=h2.length;rw[<-a]at b;exact nomatch b
 |x::xs,y::ys,vs,p,w,h1,h2=>by
  simp only[aE]at h1 h2;obtain⟨v,r,rfl,J,h4⟩:=h1;obtain⟨l,r',e,h5,h6⟩:=h2;cases e;rw[List.all_cons,Bool.and_eq_true]at p w;rw[ih x y v p.1 w.1 J h5,m_ ih xs ys r p.2 w.2 h4 h6]
theorem yy(I:(20,H,s))(n:Nat):∀(d d':D)(v:V),(11,(4,aN n d),(4,aN n d'),Rep X.K H d v,Rep X.K H d' v,d=d'):=by
 induction n with
 |zero=>
  intro d d' v p w r r'
  rcases px p r with e|⟨a,xs,m,vs,_,z,_⟩
  ·rcases px w r' with M|⟨b,c,Q,g,_,z,_⟩
   ·exact Option.some.inj (e.symm.trans M)
   ·exact nomatch z
  ·exact nomatch z
 |succ n ih=>
  intro d d' v p w r r'
  rcases px p r with e|⟨a,xs,m,vs,rfl,z,q,h,k⟩
  ·rcases px w r' with M|⟨b,c,Q,g,rfl,_⟩
   ·exact Option.some.inj (e.symm.trans M)
   ·exact nomatch e
  ·cases z
   rcases px w r' with M|⟨b,c,Q,g,e,z,q',h',i⟩
   ·exact nomatch M
   ·cases z;cases e
    rcases k with⟨rfl,k⟩|⟨rfl,k⟩<;>rcases i with⟨rfl,i⟩|⟨rfl,i⟩
    ·obtain rfl:=I.mV (dg.of k) (dg.of i)
     rw[m_ ih xs c vs q q' h h']
    ·exact(kv (K:=X.K) I i (dg.of k)).elim
    ·exact(kv (K:=X.K) I k (dg.of i)).elim
    ·obtain rfl:=I.lI k i
     rw[m_ ih xs c vs q q' h h']
theorem Bv(I:(20,H,s))(n:Nat)(d d':D)(v:V)(p:(4,aN n d))(w:(4,aN n d'))(r:Rep X.K H d v)(r':Rep X.K H d' v):(4,eV d d'):=yy I n d d' v p w r r'▸uY n d p
end
section
open SeqAt
theorem uZ{m:#[5]}(hx:aE X.K H xs vs)(hy:aE X.K H ys ws)(L:Vals vs its)(N:Vals ws m)(g:(4,xs.all (aN n)))(py:(4,ys.all (aN n)))
(ih:(61,A)):
∀j(h1:j<its.toArray.size)(h2:j<m.toArray.size),EqAt A s its.toArray[j] m.toArray[j] (eV (xs.getD j .bu) (ys.getD j .bu)):=by
 intro j h1 h2;have l1:its.length=xs.length:=by rw[<-L.length,hx.length]
 have l2:m.length=ys.length:=by rw[<-N.length,hy.length]
 have h:j<xs.length:=by simpa[l1]using h1
 have c:j<ys.length:=by simpa[l2]using h2
 obtain⟨v,b,rv⟩:=hx.get (i:=j) (d:=xs[j]) (by simp[h]);obtain⟨l,o,k⟩:=hy.get (i:=j) (d:=ys[j]) (by simp[c]);obtain⟨u,e,ru⟩:=L.get b;obtain⟨u',f,a⟩:=N.get o;have O:its.toArray[j]=u:=by
  have:(0,its[j]?,its[j]):=by simp[l1,h]
  rw[this]at e;simpa using e
 have W:m.toArray[j]=u':=by
  have:(0,m[j]?,m[j]):=by simp[l2,c]
  rw[this]at f;simpa using f
 have g1:xs.getD j .bu=xs[j]:=by simp[List.getD,h]
 have g2:ys.getD j .bu=ys[j]:=by simp[List.getD,c]
 rw[O,W,g1,g2];exact ih _ _ v l u u' (List.all_eq_true.mp g _ (List.getElem_mem h)) (List.all_eq_true.mp py _ (List.getElem_mem c)) rv k ru a
theorem Bw{b:Addr}(I:(20,H,s))(ha:c_ X.K H a vs)(hb:c_ X.K H b ws)(hx:aE X.K H xs vs)(hy:aE X.K H ys ws)(g:(4,xs.all (aN n)))(py:(4,ys.all (aN n)))(hu:A.units<cLine)
(ih:(61,A.in1)):RcAt A s (.ref a) (.ref b) (e7 xs ys)/\RcNeAt A s (.ref a) (.ref b) (!e7 xs ys):=by
 obtain⟨its,L,pl,_⟩:=I.list ha;obtain⟨m,N,c,_⟩:=I.list hb;have l1:its.length=xs.length:=by rw[<-L.length,hx.length]
 have l2:m.length=ys.length:=by rw[<-N.length,hy.length]
 by_cases hl:xs.length=ys.length
 ·have e:=kO xs ys hl
  have it:=uZ hx hy L N g py ih;rw[<-e,<-l1];rw[3,RcAt.lists pl.isList c.isList (by simp[l1,l2,hl]) hu it,RcNeAt.lists pl.isList c.isList (by simp[l1,l2,hl]) hu it]
 ·have e:e7 xs ys=false:=by
   cases q:e7 xs ys with
   |false=>rfl
   |true=>exact absurd (pw q) hl
  rw[2,e,⟨RcAt.lists_lengths pl.isList c.isList (by simp[l1,l2,hl]) hu,RcNeAt.lists_lengths pl.isList c.isList (by simp[l1,l2,hl]) hu⟩]
theorem zH{b:Addr}(I:(20,H,s))(ha:dg X.K H a vs)(hb:dg X.K H b ws)(hx:aE X.K H xs vs)(hy:aE X.K H ys ws)(g:(4,xs.all (aN n)))(py:(4,ys.all (aN n)))(hu:A.units<cLine)
(ih:(61,A.in1)):RcAt A s (.ref a) (.ref b) (e7 xs ys)/\RcNeAt A s (.ref a) (.ref b) (!e7 xs ys):=by
 obtain⟨its,L,pl,_⟩:=I.tuple ha;obtain⟨m,N,c,_⟩:=I.tuple hb;have l1:its.length=xs.length:=by rw[<-L.length,hx.length]
 have l2:m.length=ys.length:=by rw[<-N.length,hy.length]
 have it:=uZ hx hy L N g py ih;have e:((List.range (min its.toArray.size m.toArray.size)).all (λj=>eV (xs.getD j .bu) (ys.getD j .bu))&&its.toArray.size==m.toArray.size)=e7 xs ys:=by
  simp only[List.size_toArray,l1,l2]
  by_cases hl:xs.length=ys.length
  ·rw[<-kO xs ys hl,<-hl,Nat.min_self];simp
  ·have e:e7 xs ys=false:=by
    cases q:e7 xs ys with
    |false=>rfl
    |true=>exact absurd (pw q) hl
   rw[e,beq_false_of_ne hl,Bool.and_false]
 have r1:=RcAt.tuples pl c hu it;have r2:=RcNeAt.tuples pl c hu it;rw[e]at r1;refine⟨r1,?_⟩
 first|(rw[e]at r2;exact r2)|(rw[<-e];exact r2)
theorem tu(I:(20,H,s)):∀(n:Nat)(A:Around)(d d':D)(v l:V)(u u':Value),(11,A.units+n<cLine,(4,aN n d),(4,aN n d'),Rep X.K H d v,Rep X.K H d' l->L2.RelV v u->L2.RelV l u'->
(RcAt A s u u' (eV d d')/\RcNeAt A s u u' (!eV d d'))/\EqAt A s u u' (eV d d')):=by
 intro n
 induction n with
 |zero=>
  intro A d d' v l u u' hu p w r r' ru j
  cases d<;>(try simp[aN]at p)<;>cases d'<;>(try simp[aN]at w)
  all_goals
   simp only[Rep]at r r';subst r r';simp only[L2.RelV]at ru j
   first|(subst ru)|(obtain⟨t,rfl⟩:=ru)
   first|(subst j)|(obtain⟨t',rfl⟩:=j)
   simp only[eV]
  ·rw[3,⟨.none_none,.none_none⟩,.same _]
  ·rw[3,⟨.none_bool _,.none_bool _⟩,.none_bool _]
  ·rw[3,⟨.none_int _ _,.none_int _ _⟩,.none_int _ _]
  ·rw[3,⟨.none_str _ _,.none_str _ _⟩,.none_str _ _]
  ·rw[3,⟨.bool_none _,.bool_none _⟩,.bool_none _]
  ·rw[3,⟨.bool_bool _ _,.bool_bool _ _⟩,.bool_bool _ _]
  ·rw[3,⟨.bool_int _ _ _,.bool_int _ _ _⟩,.bool_int _ _ _]
  ·rw[3,⟨.bool_str _ _ _,.bool_str _ _ _⟩,.bool_str _ _ _]
  ·rw[3,⟨.int_none _ _,.int_none _ _⟩,.int_none _ _]
  ·rw[3,⟨.int_bool _ _ _,.int_bool _ _ _⟩,.int_bool _ _ _]
  ·rw[3,⟨.int_int _ _ _ _,.int_int _ _ _ _⟩,.int_int _ _ _ _]
  ·rw[3,⟨.int_str _ _ _ _,.int_str _ _ _ _⟩,.int_str _ _ _ _]
  ·rw[3,⟨.str_none _ _,.str_none _ _⟩,.str_none _ _]
  ·rw[3,⟨.str_bool _ _ _,.str_bool _ _ _⟩,.str_bool _ _ _]
  ·rw[3,⟨.str_int _ _ _ _,.str_int _ _ _ _⟩,.str_int _ _ _ _]
  ·rw[3,⟨.str_str _ _ _ _,.str_str _ _ _ _⟩,.str_str _ _ _ _]
 |succ n ih=>
  intro A d d' v l u u' hu p w r r' ru j;have i:A.units<cLine:=#[3]
  have B:(61,A.in1):=λd d' v l u u' a b c e f g=>(ih A.in1 d d' v l u u' (by show A.units+1+n<cLine;omega) a b c e f g).2
  have C:∀{a b:Addr}{k:Bool},RcAt A s (.ref a) (.ref b) k->(a=b->(4,k))->EqAt A s (.ref a) (.ref b) k:=λ{a b k}h e=>by
   by_cases o:a=b
   ·subst o;rw[e rfl];exact .same _
   ·exact .of_refs o h
  cases d with
  |dK _=>simp[aN]at p
  |dT _=>simp[aN]at p
  |adr _=>simp[aN]at p
  |exc _ _=>simp[aN]at p
  |obj _ _=>simp[aN]at p
  |tup xs=>
   have r0:=r;simp only[Rep]at r;obtain⟨a,vs,rfl,h1,h2⟩:=r;simp only[L2.RelV]at ru;subst ru;obtain⟨its,L,pt,_⟩:=I.tuple (dg.of h1);simp only[aN]at p
   cases d' with
   |dK _=>simp[aN]at w
   |dT _=>simp[aN]at w
   |adr _=>simp[aN]at w
   |exc _ _=>simp[aN]at w
   |obj _ _=>simp[aN]at w
   |tup ys=>
    have z:=r';have y:=w;simp only[Rep]at r';obtain⟨b,ws,rfl,J,h4⟩:=r';simp only[L2.RelV]at j;subst j;simp only[aN]at w;have t:=zH I (dg.of h1) (dg.of J) h2 h4 p w i B;simp only[eV];refine⟨t,C t.1 λe=>?_⟩;subst e;have:=Bv I (n+1) (.tup xs) (.tup ys) _ (by simpa only[aN]using p) y r0 z
    simpa only[eV]using this
   |lst ys=>
    simp only[Rep]at r';obtain⟨b,ws,rfl,J,h4⟩:=r';simp only[L2.RelV]at j;subst j;obtain⟨m,N,pl,_⟩:=I.list J;simp only[eV];rw[3,⟨.tuple_list pt pl.isList i,.tuple_list pt pl.isList i⟩,.tuple_list pt pl.isList i]
   |bu=>simp only[Rep]at r';subst r';simp only[L2.RelV]at j;subst j;simp only[eV];rw[3,⟨.tuple_none pt i,.tuple_none pt i⟩,.tuple_none pt i]
   |bl b=>simp only[Rep]at r';subst r';simp only[L2.RelV]at j;subst j;simp only[eV];rw[3,⟨.tuple_bool _ pt i,.tuple_bool _ pt i⟩,.tuple_bool _ pt i]
   |int b=>simp only[Rep]at r';subst r';simp only[L2.RelV]at j;obtain⟨t',rfl⟩:=j;simp only[eV];rw[3,⟨.tuple_int _ _ pt i,.tuple_int _ _ pt i⟩,.tuple_int _ _ pt i]
   |str b=>simp only[Rep]at r';subst r';simp only[L2.RelV]at j;obtain⟨t',rfl⟩:=j;simp only[eV];rw[3,⟨.tuple_str _ _ pt i,.tuple_str _ _ pt i⟩,.tuple_str _ _ pt i]
  |lst xs=>
   have r0:=r;simp only[Rep]at r;obtain⟨a,vs,rfl,h1,h2⟩:=r;simp only[L2.RelV]at ru;subst ru;obtain⟨its,L,pl,_⟩:=I.list h1;have pt:=pl.isList;simp only[aN]at p
   cases d' with
   |dK _=>simp[aN]at w
   |dT _=>simp[aN]at w
   |adr _=>simp[aN]at w
   |exc _ _=>simp[aN]at w
   |obj _ _=>simp[aN]at w
   |lst ys=>
    have z:=r';have y:=w;simp only[Rep]at r';obtain⟨b,ws,rfl,J,h4⟩:=r';simp only[L2.RelV]at j;subst j;simp only[aN]at w;have t:=Bw I h1 J h2 h4 p w i B;simp only[eV];refine⟨t,C t.1 λe=>?_⟩;subst e;have:=Bv I (n+1) (.lst xs) (.lst ys) _ (by simpa only[aN]using p) y r0 z
    simpa only[eV]using this
   |tup ys=>
    simp only[Rep]at r';obtain⟨b,ws,rfl,J,h4⟩:=r';simp only[L2.RelV]at j;subst j;obtain⟨m,N,q,_⟩:=I.tuple (dg.of J);simp only[eV];rw[3,⟨.list_tuple pt q i,.list_tuple pt q i⟩,.list_tuple pt q i]
   |bu=>simp only[Rep]at r';subst r';simp only[L2.RelV]at j;subst j;simp only[eV];rw[3,⟨.list_none pt i,.list_none pt i⟩,.list_none pt i]
   |bl b=>simp only[Rep]at r';subst r';simp only[L2.RelV]at j;subst j;simp only[eV];rw[3,⟨.list_bool _ pt i,.list_bool _ pt i⟩,.list_bool _ pt i]
   |int b=>simp only[Rep]at r';subst r';simp only[L2.RelV]at j;obtain⟨t',rfl⟩:=j;simp only[eV];rw[3,⟨.list_int _ _ pt i,.list_int _ _ pt i⟩,.list_int _ _ pt i]
   |str b=>simp only[Rep]at r';subst r';simp only[L2.RelV]at j;obtain⟨t',rfl⟩:=j;simp only[eV];rw[3,⟨.list_str _ _ pt i,.list_str _ _ pt i⟩,.list_str _ _ pt i]
  |bu=>
   cases d' with
   |tup ys=>
    rw[19];subst ru j;obtain⟨_,_,pt,_⟩:=I.tuple (dg.of J);simp only[eV];rw[3,⟨.none_tuple pt i,.none_tuple pt i⟩,.none_tuple pt i]
   |lst ys=>
    rw[19];subst ru j;obtain⟨_,_,pl,_⟩:=I.list J;simp only[eV];rw[3,⟨.none_list pl.isList i,.none_list pl.isList i⟩,.none_list pl.isList i]
   |dK _=>simp[aN]at w
   |dT _=>simp[aN]at w
   |adr _=>simp[aN]at w
   |exc _ _=>simp[aN]at w
   |obj _ _=>simp[aN]at w
   |_=>exact ih A _ _ v l u u' #[3] (by cases n<;>rfl) (by cases n<;>rfl) r r' ru j
  |bl x=>
   cases d' with
   |tup ys=>
    rw[19];subst ru j;obtain⟨_,_,pt,_⟩:=I.tuple (dg.of J);simp only[eV];rw[3,⟨.bool_tuple _ pt i,.bool_tuple _ pt i⟩,.bool_tuple _ pt i]
   |lst ys=>
    rw[19];subst ru j;obtain⟨_,_,pl,_⟩:=I.list J;simp only[eV];rw[3,⟨.bool_list _ pl.isList i,.bool_list _ pl.isList i⟩,.bool_list _ pl.isList i]
   |dK _=>simp[aN]at w
   |dT _=>simp[aN]at w
   |adr _=>simp[aN]at w
   |exc _ _=>simp[aN]at w
   |obj _ _=>simp[aN]at w
   |_=>exact ih A _ _ v l u u' #[3] (by cases n<;>rfl) (by cases n<;>rfl) r r' ru j
  |int x=>
   cases d' with
   |tup ys=>
    rw[19];obtain⟨t,rfl⟩:=ru;subst j;obtain⟨_,_,pt,_⟩:=I.tuple (dg.of J);simp only[eV];rw[3,⟨.int_tuple _ _ pt i,.int_tuple _ _ pt i⟩,.int_tuple _ _ pt i]
   |lst ys=>
    rw[19];obtain⟨t,rfl⟩:=ru;subst j;obtain⟨_,_,pl,_⟩:=I.list J;simp only[eV];rw[3,⟨.int_list _ _ pl.isList i,.int_list _ _ pl.isList i⟩,.int_list _ _ pl.isList i]
   |dK _=>simp[aN]at w
   |dT _=>simp[aN]at w
   |adr _=>simp[aN]at w
   |exc _ _=>simp[aN]at w
   |obj _ _=>simp[aN]at w
   |_=>exact ih A _ _ v l u u' #[3] (by cases n<;>rfl) (by cases n<;>rfl) r r' ru j
  |str x=>
   cases d' with
   |tup ys=>
    rw[19];obtain⟨t,rfl⟩:=ru;subst j;obtain⟨_,_,pt,_⟩:=I.tuple (dg.of J);simp only[eV];rw[3,⟨.str_tuple _ _ pt i,.str_tuple _ _ pt i⟩,.str_tuple _ _ pt i]
   |lst ys=>
    rw[19];obtain⟨t,rfl⟩:=ru;subst j;obtain⟨_,_,pl,_⟩:=I.list J;simp only[eV];rw[3,⟨.str_list _ _ pl.isList i,.str_list _ _ pl.isList i⟩,.str_list _ _ pl.isList i]
   |dK _=>simp[aN]at w
   |dT _=>simp[aN]at w
   |adr _=>simp[aN]at w
   |exc _ _=>simp[aN]at w
   |obj _ _=>simp[aN]at w
   |_=>exact ih A _ _ v l u u' #[3] (by cases n<;>rfl) (by cases n<;>rfl) r r' ru j
end
section
def HQ(K:PySem.W.Frag)(neg:Bool):R2:=λx y H Q=>∃d d',(3,aN 60 d,true,(4,aN 60 d'),Rep K H d x/\Rep K H d' y/\Q (.bl (neg !=eV d d')) H)
theorem pz(hu:X.A.units+64<cLine):f5 X (compareOp .Eq) (HQ X.K false):=by
 intro Z s σ H x y v u Q I L N h;obtain⟨d,d',p,w,r,r',q⟩:=h;exact(tu I 60 X.A d d' x y v u #[3] p w r r' L N).1.1 X.prog X.w X.xe _ ⟨.bl _,H,I,rfl,by simpa using q⟩
theorem da(hu:X.A.units+64<cLine):f5 X (compareOp .NotEq) (HQ X.K true):=by
 intro Z s σ H x y v u Q I L N h;obtain⟨d,d',p,w,r,r',q⟩:=h;exact(tu I 60 X.A d d' x y v u #[3] p w r r' L N).1.2 X.prog X.w X.xe _ ⟨.bl _,H,I,rfl,by simpa using q⟩
def Nh(neg:Bool)(x y:D)(Q:(1,D)):Prop:=(3,aN 60 x,true,(4,aN 60 y),Q (.bl (neg !=eV x y)))
theorem cz:i7 K (HQ K neg) (Nh neg):=λH0 σ Y G H x y T l Qd Q hs L N h k=>
 ⟨T,l,h.1,h.2.1,L.all hs.sub,N.all hs.sub,(52,h.2.2)⟩
end
def HR(k T:String):Bool:=k==T||(k== "bool"&&T== "int")
structure Ni(K:PySem.W.Frag)(T:String):Prop where
 h:∀k∈["NoneType", "bool", "int", "str", "tuple", "list", "dict"],PySem.W.kitOne K (.type k) (.type T)=some (HR k T)
section
variable{t:RE}{p p2:Pos}{T:String}{x:Str}
end
theorem gN:∀{ns:List Int}{us:#[5]},Vals (ns.map V.int) us-> ∃xs:List (Int×Tok),us=xs.map (λp=>.int p.1 p.2)/\xs.map (·.1)=ns
 |[],us,r=>by cases r;rw[1,[],rfl,rfl]
 |n::ns,us,r=>by
  cases r with
  |cons r1 r2=>
   obtain⟨t,rfl⟩:=(show∃t,_=Value.int n t from r1);obtain⟨xs,rfl,h⟩:=gN r2;rw[1,(n,t)::xs,rfl,by simp[h]]
theorem og(xs:(5,Int,Tok)):∀k,preSum (numAt xs.toArray) k=((xs.take k).map (·.1)).sum
 |0=>rfl
 |k+1=>by
  rw[preSum,og xs k]
  by_cases h:k<xs.length
  ·have e:xs.take (k+1)=xs.take k++[xs[k]]:=by rw[List.take_succ];simp[h]
   rw[e,List.map_append,List.sum_append];simp[numAt,h]
  ·rw[List.take_of_length_le #[3],List.take_of_length_le #[3]]
   simp[numAt,Nat.le_of_not_lt h]
section
variable{es:#[4]}{tr:RA}{p:Pos}
def FH(K:PySem.W.Frag):List V->Hp->(1,VK):=λxs H Q=>∃a ns,(3,xs,[.ref a],c_ K H a (List.map V.int ns),Q (.int ns.sum) H)
theorem Bx(hc:(4,X.calm)):eZ X (.builtin "sum") (FH X.K):=by
 intro Z s σ H xs us Q I r h;obtain⟨a,ns,rfl,hq,q⟩:=h
 cases r with
 |cons r1 r=>
  cases r;cases(show _=Value.ref a from r1);obtain⟨its,rv,pl,_⟩:=I.list hq;obtain⟨ps,rfl,hp⟩:=gN rv;refine sum_intListG (xs:=ps.toArray) (I.ok.hd hc) (by simpa[intItems]using pl.isList) λh' tk t' hk=>⟨.int ns.sum,H,?_,⟨t',?_⟩,q⟩
  ·exact I.kept (t':=tk) hk
  ·rw[og,List.take_of_length_le (by simp),hp]
def KA(ds:List D)(Q:(1,D)):Prop:=∃ns:List Int,ds=[.lst (ns.map D.int)]/\Q (.int ns.sum)
theorem HS:Dr K (FH K) KA:=λH0 σ Y G H vs ds Qd Q hs r h k=>by
 obtain⟨ns,rfl,q⟩:=h;rw[18];rw[aE.lQ J]at h2;rw[4,a,ns,rfl,h2,(52,q)]
theorem KC(hc:(4,X.calm))(hm:(2,X.mg "sum"))(ha:jc X H0 (e::es) tr)(hg:Gl X "sum":=by rfl)
(he:#[13]:=by rfl)(cU:(28,pos,es):=by rfl):aS X H0 (.Call (.Name "sum" p) (e::es) [] pos) (uT KA tr):=
 oN (Bx hc) HS hm rfl ha hg #[2] #[2] he cU
end
section
variable{te:RE}{R:Pos}{x:Str}
def D9(f:Int->Int->Int)(i:Nat)(te:RE)(E:bC)(Y:#[0]):Prop:=match Y[i]? with
 |some (9,a)=>te Y λd=>match d with
  | .int b=>E.nx (Y.set i (9,f a b))
  |_=>False
 |_=>False
theorem FI{op:Operator}{f:Int->Int->Int}(ho:JQ X op (MJ f))(i:Nat)(hN:X.N.Nodup)(he:aS X H0 e te)(hi:(0,X.N[i]?,x):=by rfl)(hx:Loc X.env.scope x:=by first|exact Or.inl rfl|exact Or.inr rfl)
(S:#[20]:=by first|exact .inl rfl|exact .inr rfl|assumption):i8 X H0 (.AugAssign (.Name x R) op e pos) (D9 f i te):=
 PS.weak (AN hN hi hx he ho S) λD σ H⟨Y,G,E,hs,M,g⟩=>by
  unfold D9 at M
  split at M
  ·rename_i a ea
   obtain⟨v,O,r⟩:=hs.fr i _ ea;obtain rfl:v=.int a:=by simpa only[Rep]using r
   refine⟨_,O,Y,G,_,hs,M,λv H1 G1 d n1 r1 q1=>?_⟩
   cases d with
   |int b=>
    obtain rfl:v=.int b:=by simpa only[Rep]using r1
    obtain⟨G',h',s'⟩:=n1.hs.put (d:=.int (f a b)) (v:=.int (f a b)) ea rfl (by simp only[Rep]);rw[4,a,b,rfl,rfl,g.nx _ H1 _ G' h' (n1.g.trans s') q1]
   |_=>exact q1.elim
  ·exact M.elim
theorem By(i:Nat)(hN:X.N.Nodup)(he:aS X H0 e te)(hi:(0,X.N[i]?,x):=by rfl)(hx:Loc X.env.scope x:=by first|exact Or.inl rfl|exact Or.inr rfl)
 (S:#[20]:=by first|exact .inl rfl|exact .inr rfl|assumption):i8 X H0 (.AugAssign (.Name x R) .Add e pos) (D9 (λi j=>i+j) i te):=FI GK i hN he hi hx S
theorem Bz(i:Nat)(hN:X.N.Nodup)(he:aS X H0 e te)(hi:(0,X.N[i]?,x):=by rfl)(hx:Loc X.env.scope x:=by first|exact Or.inl rfl|exact Or.inr rfl)
 (S:#[20]:=by first|exact .inl rfl|exact .inr rfl|assumption):i8 X H0 (.AugAssign (.Name x R) .Sub e pos) (D9 (λi j=>i-j) i te):=FI GL i hN he hi hx S
end
section
variable [DecidableEq κ]
def cH(kvs:(5,κ,D))(k:κ):Option D:=(kvs.find? λg=>decide (g.1=k)).map (·.2)
def putD(kvs:(5,κ,D))(k:κ)(d:D):(5,κ,D):=
 (29,kvs.any λg=>decide (g.1=k),kvs.map (λg=>if g.1=k then(g.1,d)else g),kvs++[(k,d)])
theorem pA{p:κ×D}{r:(5,κ,D)}{k:κ}(e:p.1=k):(0,cH (p::r) k,p.2):=by simp[cH,List.find?_cons,e]
theorem pB{p:κ×D}{r:(5,κ,D)}{k:κ}(e:¬p.1=k):cH (p::r) k=cH r k:=by simp[cH,List.find?_cons,e]
theorem pC(k:κ):∀kvs:(5,κ,D),(kvs.any λg=>decide (g.1=k))=(cH kvs k).isSome
 |[]=>rfl
 |p::r=>by
  rw[List.any_cons]
  by_cases e:p.1=k
  ·rw[pA e];simp[e]
  ·rw[pB e];simp[e,pC k r]
end
section
theorem bc.val:∀{kvs:(5,Key,D)}{aZ:(5,Key,V)},bc K H kvs aZ-> ∀k,match cH kvs k with
  |some d=>∃v,(0,e1 aZ k,v)/\Rep K H d v
  |none=>e1 aZ k=none
 |[],aZ,h,k=>by simp only[bc]at h;subst h;rfl
 |(k0,d)::r,aZ,h,k=>by
  simp only[bc]at h;obtain⟨v,q,rfl,h1,h2⟩:=h
  by_cases e:k0=k
  ·rw[2,pA (p:=(k0,d)) e,⟨v,gK (p:=(k0,v)) e,h1⟩]
  ·rw[pB (p:=(k0,d)) e,gL (p:=(k0,v)) e]
   exact bc.val h2 k
theorem bc.qU{kvs:(5,Key,D)}(h:bc K H kvs aZ){k:Key}{d:D}(e:(0,cH kvs k,d)):∃v,(0,e1 aZ k,v)/\Rep K H d v:=by
 have:=h.val k;rw[e]at this;exact this
theorem bc.valN{kvs:(5,Key,D)}(h:bc K H kvs aZ){k:Key}(e:(2,cH kvs k)):(2,e1 aZ k):=by
 have:=h.val k;rw[e]at this;exact this
theorem bc.isSome{kvs:(5,Key,D)}(h:bc K H kvs aZ)(k:Key):(e1 aZ k).isSome=(cH kvs k).isSome:=by
 cases e:cH kvs k with
 |none=>rw[h.valN e];rfl
 |some d=>obtain⟨v,M,_⟩:=h.qU e;rw[M];rfl
theorem bc.map{k:Key}{d:D}{v:V}(r:Rep K H d v):∀{kvs:(5,Key,D)}{aZ:(5,Key,V)},bc K H kvs aZ->bc K H (kvs.map λg=>if g.1=k then(g.1,d)else g) (aZ.map λg=>if g.1=k then(g.1,v)else g)
 |[],aZ,h=>by simp only[bc]at h;subst h;simp[bc]
 |(k0,a)::r0,aZ,h=>by
  simp only[bc]at h;obtain⟨v0,q,rfl,h1,h2⟩:=h;rw[List.map_cons,List.map_cons]
  by_cases e:k0=k
  ·rw[if_pos e,if_pos e];simp only[bc];rw[4,v,_,rfl,r,bc.map r h2]
  ·rw[if_neg e,if_neg e];simp only[bc];rw[4,v0,_,rfl,h1,bc.map r h2]
theorem bc.append:∀{kvs es:(5,Key,D)}{aZ fs:(5,Key,V)},bc K H kvs aZ->bc K H es fs->bc K H (kvs++es) (aZ++fs)
 |[],es,aZ,fs,h,g=>by simp only[bc]at h;subst h;exact g
 |(k0,a)::r0,es,aZ,fs,h,g=>by
  simp only[bc]at h;obtain⟨v0,q,rfl,h1,h2⟩:=h;rw[List.cons_append,List.cons_append];simp only[bc];rw[4,v0,_,rfl,h1,bc.append h2 g]
theorem bc.put{kvs:(5,Key,D)}{k:Key}{d:D}(h:bc K H kvs aZ)(r:Rep K H d v):bc K H (putD kvs k d) (putK aZ k v):=by
 unfold putD putK;rw[pC,lO,h.isSome]
 split
 ·exact h.map r
 ·exact h.append (by simp only[bc];rw[4,v,[],rfl,r,rfl])
end
section
theorem bB.val:∀{kvs:(5,List Key,D)}{aZ:(5,List Key,V)},bB K H kvs aZ-> ∀k,match cH kvs k with
  |some d=>∃v,(0,e1 aZ k,v)/\Rep K H d v
  |none=>e1 aZ k=none
 |[],aZ,h,k=>by simp only[bB]at h;subst h;rfl
 |(k0,d)::r,aZ,h,k=>by
  simp only[bB]at h;obtain⟨v,q,rfl,h1,h2⟩:=h
  by_cases e:k0=k
  ·rw[2,pA (p:=(k0,d)) e,⟨v,gK (p:=(k0,v)) e,h1⟩]
  ·rw[pB (p:=(k0,d)) e,gL (p:=(k0,v)) e]
   exact bB.val h2 k
theorem bB.qU{aZ:(5,List Key,V)}(h:bB K H kvs aZ){k:List Key}{d:D}(e:(0,cH kvs k,d)):∃v,(0,e1 aZ k,v)/\Rep K H d v:=by
 have:=h.val k;rw[e]at this;exact this
theorem bB.valN{aZ:(5,List Key,V)}(h:bB K H kvs aZ){k:List Key}(e:(2,cH kvs k)):(2,e1 aZ k):=by
 have:=h.val k;rw[e]at this;exact this
theorem bB.isSome{aZ:(5,List Key,V)}(h:bB K H kvs aZ)(k:List Key):(e1 aZ k).isSome=(cH kvs k).isSome:=by
 cases e:cH kvs k with
 |none=>rw[h.valN e];rfl
 |some d=>obtain⟨v,M,_⟩:=h.qU e;rw[M];rfl
theorem bB.map{k:List Key}{d:D}{v:V}(r:Rep K H d v):∀{kvs:(5,List Key,D)}{aZ:(5,List Key,V)},bB K H kvs aZ->bB K H (kvs.map λg=>if g.1=k then(g.1,d)else g) (aZ.map λg=>if g.1=k then(g.1,v)else g)
 |[],aZ,h=>by simp only[bB]at h;subst h;simp[bB]
 |(k0,a)::r0,aZ,h=>by
  simp only[bB]at h;obtain⟨v0,q,rfl,h1,h2⟩:=h;rw[List.map_cons,List.map_cons]
  by_cases e:k0=k
  ·rw[if_pos e,if_pos e];simp only[bB];rw[4,v,_,rfl,r,bB.map r h2]
  ·rw[if_neg e,if_neg e];simp only[bB];rw[4,v0,_,rfl,h1,bB.map r h2]
theorem bB.append:∀{kvs es:(5,List Key,D)}{aZ fs:(5,List Key,V)},bB K H kvs aZ->bB K H es fs->bB K H (kvs++es) (aZ++fs)
 |[],es,aZ,fs,h,g=>by simp only[bB]at h;subst h;exact g
 |(k0,a)::r0,es,aZ,fs,h,g=>by
  simp only[bB]at h;obtain⟨v0,q,rfl,h1,h2⟩:=h;rw[List.cons_append,List.cons_append];simp only[bB];rw[4,v0,_,rfl,h1,bB.append h2 g]
theorem bB.put{aZ:(5,List Key,V)}{k:List Key}{d:D}(h:bB K H kvs aZ)(r:Rep K H d v):bB K H (putD kvs k d) (putK aZ k v):=by
 unfold putD putK;rw[pC,lO,h.isSome]
 split
 ·exact h.map r
 ·exact h.append (by simp only[bB];rw[4,v,[],rfl,r,rfl])
end
theorem e4.kr{kvs:(5,Key,V)}{k:Key}(e:Rd H a (.dK kvs)):e4 H a (kV k) (e1 kvs k):=.inl ⟨kvs,k,e,rfl,rfl⟩
theorem e4.tr{b:Addr}{kvs:(5,List Key,V)}{k:List Key}(e:Rd H a (.dT kvs))(F:(0,H b,.tup (k.map kV))):e4 H a (.ref b) (e1 kvs k):=.inr ⟨kvs,k,b,e,rfl,F,rfl⟩
def kD:Key->D
 | .inl i=>.int i
 | .inr x=>.str x
def qV(y:D)(Q:(1,Key)):Prop:=match y with
 | .int i=>Q (.inl i)
 | .str x=>Q (.inr x)
 |_=>False
def tw(y:D)(Q:(1,List Key)):Prop:=match y with
 | .tup ds=>∃ks:List Key,ds=ks.map kD/\Q ks
 |_=>False
theorem hI{y:D}{Q:(1,Key)}(h:qV y Q)(r:Rep K G y v):∃k,v=kV k/\Q k:=by
 cases y with
 |int i=>simp only[Rep]at r;rw[1,.inl i,r,h]
 |str x=>simp only[Rep]at r;rw[1,.inr x,r,h]
 |_=>exact h.elim
theorem aE.u_{K:PySem.W.Frag}{H:Hp}:∀{ks:List Key}{vs:List V},aE K H (ks.map kD) vs->vs=ks.map kV
 |[],vs,h=>by simp only[List.map_nil,aE]at h;exact h
 |k::ks,vs,h=>by
  simp only[List.map_cons,aE]at h;obtain⟨v,r,rfl,h2,J⟩:=h;rw[aE.u_ J]
  cases k with
  |inl i=>rw[show v=.int i by simpa only[kD,Rep]using h2];rfl
  |inr x=>rw[show v=.str x by simpa only[kD,Rep]using h2];rfl
theorem j1{y:D}{Q:(1,List Key)}(h:tw y Q)(r:Rep K G y v):∃ks b,(3,v,.ref b,(0,G b,.tup (ks.map kV)),Q ks):=by
 cases y with
 |tup ds=>
  obtain⟨ks,rfl,q⟩:=h;simp only[Rep]at r;obtain⟨b,vs,rfl,h1,h2⟩:=r;rw[aE.u_ h2]at h1;rw[4,ks,b,rfl,h1,q]
 |_=>exact h.elim
def BA:R2:=λx y H Q=>∃a v,(3,x,.ref a,e4 H a y (some v),Q v H)
def FJ(x y:D)(Q:(1,D)):Prop:=match x with
 | .dK kvs=>qV y λk=>∃d,(0,cH kvs k,d)/\Q d
 | .dT kvs=>tw y λk=>∃d,(0,cH kvs k,d)/\Q d
 |_=>False
theorem D_:i7 K BA FJ:=λH0 σ Y G H x y T l Qd Q hs L N h k=>by
 cases T with
 |dK kvs=>
  obtain⟨a,aZ,rfl,h1,h2⟩:=L;replace h:qV l (λk=>∃d,(0,cH kvs k,d)/\Qd d):=h;obtain⟨key,rfl,d,e,q⟩:=hI h (N.all hs.sub);obtain⟨v,M,r'⟩:=h2.qU e;refine⟨a,v,rfl,?_,k v H G d (Nx.refl hs) r' q⟩;rw[<-M];exact e4.kr h1
 |dT kvs=>
  obtain⟨a,aZ,rfl,h1,h2⟩:=L;replace h:tw l (λk=>∃d,(0,cH kvs k,d)/\Qd d):=h;obtain⟨key,b,rfl,hb,d,e,q⟩:=j1 h (N.all hs.sub);obtain⟨v,M,r'⟩:=h2.qU e;refine⟨a,v,rfl,?_,k v H G d (Nx.refl hs) r' q⟩;rw[<-M];exact e4.tr h1 hb
 |_=>exact h.elim
def BB(neg:Bool):R2:=λy x H Q=>∃a o,(3,x,.ref a,e4 H a y o,Q (.bl (neg !=o.isSome)) H)
def D'(neg:Bool)(y x:D)(Q:(1,D)):Prop:=match x with
 | .dK kvs=>qV y λk=>Q (.bl (neg !=(cH kvs k).isSome))
 | .dT kvs=>tw y λk=>Q (.bl (neg !=(cH kvs k).isSome))
 |_=>False
theorem wZ:i7 K (BB neg) (D' neg):=λH0 σ Y G H y x l T Qd Q hs N L h k=>by
 cases T with
 |dK kvs=>
  obtain⟨a,aZ,rfl,h1,h2⟩:=L;replace h:qV l (λk=>Qd (.bl (neg !=(cH kvs k).isSome))):=h;obtain⟨key,rfl,q⟩:=hI h (N.all hs.sub);rw[4,a,_,rfl,e4.kr h1,k _ H G _ (Nx.refl hs) (by simp only[Rep];rw[h2.isSome]) q]
 |dT kvs=>
  obtain⟨a,aZ,rfl,h1,h2⟩:=L;replace h:tw l (λk=>Qd (.bl (neg !=(cH kvs k).isSome))):=h;obtain⟨key,b,rfl,hb,q⟩:=j1 h (N.all hs.sub);rw[4,a,_,rfl,e4.tr h1 hb,k _ H G _ (Nx.refl hs) (by simp only[Rep];rw[h2.isSome]) q]
 |_=>exact h.elim
section
variable{a b f value o:Expr}{B F te c:RE}{R w aU p:Pos}{x:Str}
theorem tE(hu:X.A.units+1<cLine)(ha:dJ X H0 a B)(hb:dJ X H0 b F)(hs:DP b:=by intro _ _;rfl):aS X H0 (.Subscript a b pos) (rK FJ B F):=
 PE.weak (DR hu ha hb hs) (f9 (r:=BA) D_)
theorem hJ{t:RE}{Q Q':VK}(k:∀v H,Q v H->Q' v H)(h:f7 K H0 t σ H Q):f7 K H0 t σ H Q':=by
 obtain⟨Y,G,Qd,hs,M,kk⟩:=h;exact⟨Y,G,Qd,hs,M,λv H' G' d n r q=>k _ _ (kk v H' G' d n r q)⟩
theorem HU(hu:X.A.units+1<cLine)(ha:dJ X H0 a B)(hb:dJ X H0 b F):PC X .In a b (GO (BB false) (f7 X.K H0 B) (f7 X.K H0 F)):=λZ s σ H Q I h=>
 Hn hu ha hb Z s σ H Q I (hJ (λy H1 h1=>hJ (λz H2⟨a,o,e,g,q⟩=>⟨a,o,e,g,by simpa using q⟩) h1) h)
theorem rU(hu:X.A.units+1<cLine)(ha:dJ X H0 a B)(hb:dJ X H0 b F):PC X .NotIn a b (GO (BB true) (f7 X.K H0 B) (f7 X.K H0 F)):=λZ s σ H Q I h=>
 zu hu ha hb Z s σ H Q I (hJ (λy H1 h1=>hJ (λz H2⟨a,o,e,g,q⟩=>⟨a,o,e,g,by simpa using q⟩) h1) h)
theorem FK(hu:X.A.units+1<cLine)(ha:dJ X H0 a B)(hb:dJ X H0 b F)(h1:behindInMarks .In b=false:=by rfl):qR X H0 (.Compare a [.In] [b] pos) (lT (rK (D' false) B F)):=
 PT.weak (sO (HU hu ha hb) h1) (eE (f9 wZ))
theorem BC(hu:X.A.units+1<cLine)(ha:dJ X H0 a B)(hb:dJ X H0 b F)(h1:behindInMarks .NotIn b=false:=by rfl):aS X H0 (.Compare a [.NotIn] [b] pos) (rK (D' true) B F):=
 PE.weak (GB (rU hu ha hb) h1) (f9 wZ)
theorem BD(hu:X.A.units+1<cLine)(ha:dJ X H0 a B)(hb:dJ X H0 b F)(h1:behindInMarks .NotIn b=false:=by rfl):qR X H0 (.Compare a [.NotIn] [b] pos) (lT (rK (D' true) B F)):=
 PT.weak (sO (rU hu ha hb) h1) (eE (f9 wZ))
theorem lZ [DecidableEq κ]{kvs:(5,κ,D)}{aZ:(5,κ,V)}{k:κ}{z:D}{vz:V}(C:∀{d:D},(0,cH kvs k,d)-> ∃v,(0,e1 aZ k,v)/\Rep K G d v)(hN:(2,cH kvs k)->(2,e1 aZ k))(n:Rep K G z vz):Rep K G ((cH kvs k).getD z) ((e1 aZ k).getD vz):=by
 cases e:cH kvs k with
 |none=>rw[2,hN e,n]
 |some d=>obtain⟨v,M,r⟩:=C e;rw[2,M,r]
def HV(B F tc:RE)(Y:#[0])(Q:(1,D)):Prop:=B Y λx=>match x with
 | .dK kvs=>F Y λy=>tc Y λz=>qV y λk=>Q ((cH kvs k).getD z)
 | .dT kvs=>F Y λy=>tc Y λz=>tw y λk=>Q ((cH kvs k).getD z)
 |_=>False
theorem Ea(hu:X.A.units+1<cLine)(ho:dJ X H0 o B)(he:aS X H0 e te)(S:aS X H0 f c)(m:M2 X o "get" w e f aU:=by exact⟨rfl,rfl,rfl,rfl⟩):aS X H0 (31,o,"get",[e,f],aU) (HV B te c):=
 PE.weak (Be hu ho he S m) (41,kk,λv H1 G1 d n1 r1 q1=>by
  cases d with
  |dK kvs=>
   obtain⟨a,aZ,rfl,h1,h2⟩:=r1;refine⟨a,rfl,.inl ⟨_,h1⟩,Y,G1,_,n1.hs,q1,λp H2 G2 l P r2 q2=>⟨Y,G2,_,P.hs,q2,λvz A K n g i h=>?_⟩⟩;obtain⟨k,rfl,q⟩:=hI h (Rep.mono g.g _ _ r2);have j:=bc.mono (P.g.trans g.g) _ _ h2;rw[1,_,e4.kr (eU g.h (eU P.h h1)),kk _ A K _ ((n1.trans P).trans g) (lZ (λe=>j.qU e) (λe=>j.valN e) i) q]
  |dT kvs=>
   obtain⟨a,aZ,rfl,h1,h2⟩:=r1;refine⟨a,rfl,.inr ⟨_,h1⟩,Y,G1,_,n1.hs,q1,λp H2 G2 l P r2 q2=>⟨Y,G2,_,P.hs,q2,λvz A K n g i h=>?_⟩⟩;obtain⟨k,b,rfl,hb,q⟩:=j1 h (Rep.mono g.g _ _ r2);have j:=bB.mono (P.g.trans g.g) _ _ h2;rw[1,_,e4.tr (eU g.h (eU P.h h1)) (g.hs.sub _ _ hb),kk _ A K _ ((n1.trans P).trans g) (lZ (λe=>j.qU e) (λe=>j.valN e) i) q]
  |_=>exact q1.elim)
def FL(i:Nat)(tk tv:RE)(E:bC)(Y:#[0]):Prop:=match Y[i]? with
 |some (.ow (.dK kvs))=>tv Y λd=>tk Y λy=>qV y λk=>kvs.length<sizeLine/\E.nx (Y.set i (.ow (.dK (putD kvs k d))))
 |some (.lk q (.dK kvs))=>tv Y λd=>tk Y λy=>qV y λk=>kvs.length<sizeLine/\E.nx (Y.set i (.lk q (.dK (putD kvs k d))))
 |some (.ow (.dT kvs))=>tv Y λd=>tk Y λy=>tw y λk=>kvs.length<sizeLine/\E.nx (Y.set i (.ow (.dT (putD kvs k d))))
 |_=>False
theorem w1(i:Nat)(hu:X.A.units+1<cLine)(hk:aS X H0 e te)(hv:aS X H0 value c)(hN:(0,X.N[i]?,x):=by rfl)(g:qL X.env.scope x:=by first|exact Or.inl rfl|exact Or.inr (Or.inl rfl)|exact Or.inr (Or.inr rfl))(hd:(23,x):=by decide)
(W:#[21]:=by decide)(hs:swapsWith value (some (.Subscript (.Name x p) e R)) pos.line X.env=pure false:=by rfl):
i8 X H0 (.Assign [.Subscript (.Name x p) e R] value pos) (FL i te c):=
 PS.weak (DS hu (eD hN g hd W) hk hv hs) λD σ H⟨Y,G,E,hs,M,go⟩=>by
  unfold FL at M
  split at M
  ·rename_i kvs e0
   refine⟨Y,G,_,hs,M,λv H1 G1 d n1 r1 q1=>?_⟩;obtain⟨a,O,_⟩:=n1.hs.ow i _ e0;refine⟨_,O,Y,G1,_,n1.hs,q1,λy H2 G2 l P r2 q2=>?_⟩;obtain⟨f,j,aZ,h1,h2⟩:=P.hs.ow i _ e0;rw[O]at j;cases j;obtain⟨k,rfl,hl,q⟩:=hI q2 r2;rw[4,a,_,rfl,m4.k h1 (26,h2.length,hl),go.nx _ _ _ G2 (P.hs.write (d':=.dK (putD kvs k d)) e0 O ⟨_,aM,h2.put (Rep.mono P.g _ _ r1)⟩) (n1.g.trans P.g) q]
  ·rename_i b kvs e0
   refine⟨Y,G,_,hs,M,λv H1 G1 d n1 r1 q1=>?_⟩;obtain⟨O,_⟩:=n1.hs.lk i _ _ e0;refine⟨_,O,Y,G1,_,n1.hs,q1,λy H2 G2 l P r2 q2=>?_⟩;obtain⟨_,aZ,h1,h2⟩:=P.hs.lk i _ _ e0;obtain⟨k,rfl,hl,q⟩:=hI q2 r2;rw[4,b,_,rfl,m4.k h1 (26,h2.length,hl),go.nx _ _ _ G2 (P.hs.Bi (d':=.dK (putD kvs k d)) e0 O ⟨_,aM,h2.put (Rep.mono P.g _ _ r1)⟩) (n1.g.trans P.g) q]
  ·rename_i kvs e0
   refine⟨Y,G,_,hs,M,λv H1 G1 d n1 r1 q1=>?_⟩;obtain⟨a,O,_⟩:=n1.hs.ow i _ e0;refine⟨_,O,Y,G1,_,n1.hs,q1,λy H2 G2 l P r2 q2=>?_⟩;obtain⟨f,j,aZ,h1,h2⟩:=P.hs.ow i _ e0;rw[O]at j;cases j;obtain⟨k,b,rfl,hb,hl,q⟩:=j1 q2 r2;rw[4,a,_,rfl,m4.t h1 (P.hs.sub _ _ hb) (26,h2.length,hl),go.nx _ _ _ G2 (P.hs.write (d':=.dT (putD kvs k d)) e0 O ⟨_,aM,h2.put (Rep.mono P.g _ _ r1)⟩) (n1.g.trans P.g) q]
  ·exact M.elim
def BE:List V->Hp->(1,VK):=λxs H Q=>∃a kvs,(3,xs,[.ref a],Rd H a (.dK kvs),∀p,(2,H p)->Q (.ref p) (upd H p (.dK kvs)))
theorem zI:eZ X (.type "dict") BE:=by
 intro Z s σ H xs us Q I r h;obtain⟨a,kvs,rfl,e,q⟩:=h
 cases r with
 |cons r1 r=>
  cases r;cases(show _=Value.ref a from r1);exact Bf I e λp s' hp K=>⟨.ref p,_,K,rfl,q p hp⟩
def BF(ds:List D)(Q:(1,D)):Prop:=match ds with
 |[.dK kvs]=>Q (.dK kvs)
 |_=>False
theorem Eb:Kv K BE BF:=λH0 σ Y G H vs ds Qd Q hs r h k=>by
 unfold BF at h
 split at h
 ·rename_i kvs
  obtain⟨v,b,rfl,⟨a,aZ,rfl,h2,J⟩,h4⟩:=r;obtain rfl:b=[]:=h4;rw[4,a,aZ,rfl,h2,λl hl=>k _ _ G (.dK kvs) (hs.fresh hl ⟨aZ,aM,J⟩) (aO.refl _) (bO hl) h]
 ·exact h.elim
variable{es:#[4]}{tr:RA}
theorem HW(hm:(2,X.mg "dict"))(ha:jc X H0 (e::es) tr)(hg:Gl X "dict":=by rfl)
(he:#[13]:=by rfl)(cU:(28,pos,es):=by rfl):b' X H0 (.Call (.Name "dict" p) (e::es) [] pos) (uT BF tr):=
 uV zI Eb hm rfl ha hg #[2] #[2] he cU
end
open PySem PySem.Spec PyProof.Rows L2 SeqAt
theorem pD{K:Type} [DecidableEq K]{knd:KeyKind prog w K}{op:CmpOp}{want:Bool}{b:Addr}{o M:Obj}{c:Nat}{Q:(18,Bool)}{id:String}(ha:(0,s.heap.get? a,o))(hb:(0,s.heap.get? b,M))
(T:o.data=.dict es ep)(d:M.data=.dict oH c)(l:(a==sysModules)=false)(t:(b==sysModules)=false)(kb:KeysOf knd oH)(r:Nat->Bool)
(hr:∀i(h:i<es.size),∃k,(3,knd.is k es[i].key,true,es[i].hash=knd.hash k,match oH.findIdx? λe=>knd.is k e.key with
   |none=>r i=false
   |some j=>∃g:j<oH.size,EqAt A s es[i].val oH[j].val (r i)))
(B:Q (es.size==oH.size&&(List.range es.size).all r) s):(27,Builtin.Dict.samePairs id a b):=by
 unfold Builtin.Dict.samePairs;refine(6,?_);unfold Builtin.Dict.showsAll;rw[if_neg (10,l,Bool.false_ne_true)];refine wpAny_pure ?_;rw[if_neg (10,t,Bool.false_ne_true)];rw[0,wpAny_bind (wpAny_pure ?_),(6,wpAny_dictEntries ha T ?_)];refine(6,wpAny_dictEntries hb d ?_)
 by_cases hs:es.size=oH.size
 ·have h1:¬(4,es.size !=oH.size):=by simp[hs]
  have h2:(4,es.size==oH.size):=by simp[hs]
  rw[h2,Bool.true_and]at B;rw[if_neg h1];rw[0,(6,wpAny_dictEpoch ha T ?_),(6,?_)];rw[Std.Legacy.Range.forIn_eq_forIn_range'];simp only[Std.Legacy.Range.size,Nat.sub_zero,Nat.add_sub_cancel,Nat.div_one];refine wpAny_forIn_list _
   (λrest st s'=>∃i,(3,rest,List.range' i (es.size-i),i<=es.size,(3,st,(none,()),s'=s,(List.range es.size).all r=((List.range' i (es.size-i)).all r)))) _ ?_ ?_ _ _ ⟨0,by simp,Nat.zero_le _,rfl,rfl,by rw[List.range_eq_range'];simp⟩
  ·rintro x rest _ s'⟨i,q,hi,rfl,rfl,p⟩
   have eH:i<es.size:=by
    rcases Nat.lt_or_ge i es.size with h|h
    ·exact h
    ·rw[Nat.sub_eq_zero_of_le h]at q;simp at q
   have n:es.size-i=(es.size-(i+1))+1:=#[3]
   obtain⟨rfl,D⟩:x=i/\rest=List.range' (i+1) (es.size-(i+1)):=by
    rw[n,List.range'_succ]at q
    injection q with h1 h2
    rw[3,h1,h2]
   rw[n,List.range'_succ,List.all_cons]at p;refine(6,wpAny_dictEntries ha T ?_);rw[Array.getElem?_eq_getElem eH];obtain⟨k,y,z,v⟩:=hr x eH
   have step:wpAny (model prog w) A (holding [es[x].key,es[x].val] do
     let some j<-dictFind b es[x].key es[x].hash|pure false
     let some f:=(<-dictEntries b)[j]?|unsupported "internal:dict-equal"
     holding [f.val] (eqBool es[x].val f.val)) (λsame s2=>same=r x/\s2=s') E s':=by
    refine wpAny_holding ?_;rw[z];refine(6,wpAny_dictFind_of y hb d kb ?_)
    cases e:oH.findIdx? λe=>knd.is k e.key with
    |none=>
     rw[e]at v;exact wpAny_pure ⟨v.symm,rfl⟩
    |some j=>
     rw[e]at v;obtain⟨g,C⟩:=v;refine(6,wpAny_dictEntries hb d ?_);rw[Array.getElem?_eq_getElem g];exact wpAny_holding (C prog w E _ ⟨rfl,rfl⟩)
   refine(6,wpAny_mono step (λsame s2 h=>?_) (λ_ _ h=>h));obtain⟨rfl,rfl⟩:=h
   cases G:r x with
   |false=>
    rw[G,Bool.false_and]at p;rw[p]at B;exact wpAny_pure (wpAny_pure B)
   |true=>
    rw[G,Bool.true_and]at p;refine(6,wpAny_dictEpoch ha T ?_);rw[if_neg (by simp)];exact wpAny_pure ⟨x+1,D,#[3],rfl,rfl,p⟩
  ·rintro _ s'⟨i,q,hi,rfl,rfl,p⟩
   have u:es.size-i=0:=by
    cases e:es.size-i with
    |zero=>rfl
    |succ m=>rw[e,List.range'_succ]at q;exact nomatch q
   rw[u]at p;rw[p]at B;exact wpAny_pure B
 ·have h1:(4,es.size !=oH.size):=by simp[hs]
  have h2:(es.size==oH.size)=false:=by simp[hs]
  rw[h2,Bool.false_and]at B;rw[if_pos h1];exact wpAny_bind (wpAny_rule (wpAny_pure B))
theorem va:isSubtype (.type "dict") (.type "dict")=pure true:=by first|rfl|kernel_rfl
theorem BG{K:Type} [DecidableEq K]{knd:KeyKind prog w K}{b:Addr}{o M:Obj}{c:Nat}(ha:(0,s.heap.get? a,o))(hb:(0,s.heap.get? b,M))
(xa:o.ExactDict)(xb:M.ExactDict)(T:o.data=.dict es ep)(d:M.data=.dict oH c)(l:(a==sysModules)=false)(t:(b==sysModules)=false)(kb:KeysOf knd oH)(r:Nat->Bool)(hu:A.units<cLine)
(hr:∀i(h:i<es.size),∃k,(3,knd.is k es[i].key,true,es[i].hash=knd.hash k,match oH.findIdx? λe=>knd.is k e.key with
   |none=>r i=false
   |some j=>∃g:j<oH.size,EqAt A.in1 s es[i].val oH[j].val (r i))):
  (Q (.bool (es.size==oH.size&&(List.range es.size).all r)) s->(27,richCompare .Eq (.ref a) (.ref b)))/\
  (Q (.bool (!(es.size==oH.size&&(List.range es.size).all r))) s->(27,richCompare .NotEq (.ref a) (.ref b))):=by
 have f:s.TypeIs (.ref a) "dict":=⟨o,ha,xa.1⟩;have m:s.TypeIs (.ref b) "dict":=⟨M,hb,xb.1⟩
 constructor
 ·intro B
  refine wpAny_richCompare_same_room (op:=.Eq) f m F.slot_dict_eq (wpAny_call_entry F.slot_dict_eq f F.entry_dict_eq ?_ (F.args_dict_eq_2 _ _)) hu
  show wpAny _ _ (Builtin.Dict.dictSlotArgs "__eq__" ⟨[.ref a,.ref b],[]⟩>>=_) _ _ s
  unfold Builtin.Dict.dictSlotArgs;rw[0,(6,?_),(6,wpAny_notOrdered_dict f ?_)]
  show wpAny _ _ (pure (Value.ref a,Value.ref b)) _ _ s
  refine wpAny_pure ?_
  show wpAny _ _ (isInstance (.ref b) (.type "dict")>>=_) _ _ s
  refine(6,wpAny_isInstance (b:=true) m va ?_)
  show wpAny _ _ (Builtin.Dict.addrOf (.ref a)>>=_) _ _ s
  refine wpAny_bind (wpAny_pure ?_)
  show wpAny _ _ (Builtin.Dict.addrOf (.ref b)>>=_) _ _ s
  refine wpAny_bind (wpAny_pure ?_)
  show wpAny _ _ (Builtin.Dict.samePairs _ a b>>=_) _ _ s
  rw[0,(6,pD (op:=.Eq) (want:=true) ha hb T d l t kb r hr ?_),wpAny_pure ⟨_,rfl,(λz=>nomatch z),?_⟩]
  simpa using B
 ·intro B
  refine wpAny_richCompare_same_room (op:=.NotEq) f m F.slot_dict_ne (wpAny_call_entry F.slot_dict_ne f F.entry_dict_ne ?_ (F.args_dict_ne_2 _ _)) hu
  show wpAny _ _ (Builtin.Dict.dictSlotArgs "__ne__" ⟨[.ref a,.ref b],[]⟩>>=_) _ _ s
  unfold Builtin.Dict.dictSlotArgs;rw[0,(6,?_),(6,wpAny_notOrdered_dict f ?_)]
  show wpAny _ _ (pure (Value.ref a,Value.ref b)) _ _ s
  refine wpAny_pure ?_
  show wpAny _ _ (isInstance (.ref b) (.type "dict")>>=_) _ _ s
  refine(6,wpAny_isInstance (b:=true) m va ?_)
  show wpAny _ _ (Builtin.Dict.addrOf (.ref a)>>=_) _ _ s
  refine wpAny_bind (wpAny_pure ?_)
  show wpAny _ _ (Builtin.Dict.addrOf (.ref b)>>=_) _ _ s
  refine wpAny_bind (wpAny_pure ?_)
  show wpAny _ _ (Builtin.Dict.samePairs _ a b>>=_) _ _ s
  rw[0,(6,pD (op:=.NotEq) (want:=false) ha hb T d l t kb r hr ?_),wpAny_pure ⟨_,rfl,(λz=>nomatch z),?_⟩]
  have e:((es.size==oH.size&&(List.range es.size).all r)==false)= !(es.size==oH.size&&(List.range es.size).all r):=by cases(es.size==oH.size&&(List.range es.size).all r)<;>rfl
  rw[2,e,B]
section
variable [DecidableEq κ]
end
theorem bc.keys{K:PySem.W.Frag}{H:Hp}:∀{kvs:(5,Key,D)}{aZ:(5,Key,V)},bc K H kvs aZ->kvs.map (·.1)=aZ.map (·.1)
 |[],aZ,h=>by simp only[bc]at h;subst h;rfl
 |(k,d)::r,aZ,h=>by
  simp only[bc]at h;obtain⟨v,q,rfl,_,h2⟩:=h;simp[bc.keys h2]
theorem KV.keys{κ:Type}:∀{aZ:(5,κ,V)}{vs:(5,κ,Value)},KV aZ vs->aZ.map (·.1)=vs.map (·.1)
 |_,_,.nil=>rfl
 |_,_,.cons h t=>by simp[h.1,KV.keys t]
theorem KV.get{κ:Type}:∀{aZ:(5,κ,V)}{vs:(5,κ,Value)}{i:Nat}{k:κ}{v:V},KV aZ vs->(0,aZ[i]?,(k,v))-> ∃u,(0,vs[i]?,(k,u))/\L2.RelV v u
 |_,_,_,_,_,.nil,e=>by simp at e
 |_,_,0,k,v,.cons (b:=b) h t,e=>by
  simp at e;subst e;obtain⟨b1,b2⟩:=b;have h1:k=b1:=h.1;subst h1;rw[1,b2,rfl,h.2]
 |_,_,i+1,k,v,.cons h t,e=>by simpa using KV.get (i:=i) t (by simpa using e)
section
end
section
variable{c:Expr}{body:List Stmt}{tc:RT}{F:RS}
def BH(c:RT)(F:RS)(E:bC)(Y:#[0]):Prop:=∃W:Nat->(1,#[0]),(∃m,W m Y)/\ ∀m Y,W m Y->c Y λb=>cS b (F {nx:=λl=>∃j,Fg l j/\ ∃Q,Q<m/\W Q j,rt:=E.rt,bk:=E.nx,ct:=λl=>∃j,Fg l j/\ ∃Q,Q<m/\W Q j} Y) (E.nx Y)
theorem Ec(hp:PassesOwn (model X.prog X.w) X.A X.env X.xe)(hc:qR X H0 c tc)(hb:e3 X H0 body F):i8 X H0 (.While c body [] pos) (BH tc F):=
 PS.weak (AO hp hc hb) λD σ H⟨Y,G,E,hs,⟨W,⟨o,a⟩,step⟩,go⟩=>
  ⟨λm L H'=>∃T G',Hs X.K H0 L T G' H'/\aO G G'/\W m T,⟨o,Y,G,hs,aO.refl _,a⟩,λm L H'⟨T,G',h',s',w⟩=>⟨T,G',_,h',step m T w,λb H1 G1 n1 q1=>by
   cases b with
   |true=>
    rw[if_pos rfl]
    refine⟨λf H2=>∃Q,Q<m/\ ∃l G2,Hs X.K H0 f l G2 H2/\aO G G2/\W Q l,λf H2 z=>z,T,G1,_,n1.hs,q1.yes rfl,⟨λk A j K J s3⟨h,f4,Q,hm,t⟩=>⟨Q,hm,h,K,J.forget f4,(s'.trans n1.g).trans s3,t⟩,go.rt,λk A j K J s3 e=>go.nx k A j K J ((s'.trans n1.g).trans s3) e,
     λk A j K J s3⟨h,f4,Q,hm,t⟩=>⟨Q,hm,h,K,J.forget f4,(s'.trans n1.g).trans s3,t⟩⟩⟩
   |false=>
    rw[2,if_neg Bool.false_ne_true,go.nx L H1 T G1 n1.hs (s'.trans n1.g) (q1.no rfl)]⟩⟩
theorem zJ{E:bC}(W:(7,Nat,#[0]))(m:Nat)(M:W m Y)
(step:∀m Y(L:(1,#[0])),(∀l j Q,W Q j->Q<m->Fg l j->L l)->W m Y->tc Y λb=>cS b (F {nx:=L,rt:=E.rt,bk:=E.nx,ct:=L} Y) (E.nx Y)):BH tc F E Y:=
 ⟨W,⟨m,M⟩,λm Y w=>step m Y _ (λl j Q t hm f=>⟨j,f,Q,hm,t⟩) w⟩
end
abbrev AE:=List D->D->(1,(7,D,D))
inductive hK(K:PySem.W.Frag)(sp:AE)(vs:List V)(H:Hp)(Q:VK)(E:XK):Prop
 |mk(ws:_)(p:_)(G:_)(d:_)(ds:_)(Qd:_):(11,vs=ws++[.ref p],(2,G p),∀b,b≠p->G b=H b,Own K G H p d,aE K G ds ws->sp ds d Qd->(∀v H' G' x d',(11,aO G G',(2,G' p),∀b,b≠p->G' b=H' b,Own K G' H' p d',Rep K G' x v->Qd x d'->Q v H'))->hK K sp vs H Q E)
def BI(N:#[1])(ds:List D)(p:Addr)(d:D):#[0]:=ds.map Sl.fr++ .lk p d::List.replicate (N.length-(ds.length+1)) .un
section
theorem zK{d:D}(h:aE K G ds ws)(n:Nat)(gp:(2,G p))(m:∀b,b≠p->G b=H b)(o:Own K G H p d):
Hs K G (ws.map some++some (.ref p)::List.replicate n none) (ds.map Sl.fr++ .lk p d::List.replicate n .un) G H:=by
 have hl:ds.length=ws.length:=h.length;have look:∀(i:Nat)l,(0,(ds.map Sl.fr++ .lk p d::List.replicate n .un)[i]?,l)->(∃e,l=.fr e/\(0,ds[i]?,e))\/(i=ds.length/\l=.lk p d)\/l=.un:=by
  intro i l e
  rcases Nat.lt_trichotomy i ds.length with hi|hi|hi
  ·rw[List.getElem?_append_left (by simpa using hi),List.getElem?_map]at e
   cases q:ds[i]? with
   |none=>rw[6,q]
   |some d'=>rw[q]at e;exact .inl ⟨d',(Option.some.inj e).symm,rfl⟩
  ·subst hi
   rw[List.getElem?_append_right (by simp)]at e;simp at e;exact .inr (.inl ⟨rfl,e.symm⟩)
  ·rw[List.getElem?_append_right (by simp;omega)]at e
   obtain⟨k,hk⟩:∃k,i-(ds.map Sl.fr).length=k+1:=⟨i-ds.length-1,by simp;omega⟩;rw[hk,List.getElem?_cons_succ]at e;exact .inr (.inr (List.eq_of_mem_replicate (List.mem_of_getElem? e)))
 have f:(0,(ws.map some++some (.ref p)::List.replicate n none)[ds.length]?,some (.ref p)):=by
  rw[List.getElem?_append_right (by simp[hl])];simp[hl]
 have c:∀i b,At (ws.map some++some (.ref p)::List.replicate n none) (ds.map Sl.fr++ .lk p d::List.replicate n .un) i b↔i=ds.length/\b=p:=by
  intro i b
  constructor
  ·rintro⟨l,O,W,g⟩
   rcases look i l O with⟨e,rfl,_⟩|⟨rfl,rfl⟩|rfl
   ·exact W.elim
   ·rw[f]at g;cases g;rw[3,rfl,rfl]
   ·exact W.elim
  ·rintro⟨rfl,rfl⟩
   refine⟨.lk b d,?_,True.intro,f⟩;rw[List.getElem?_append_right (by simp)];simp
 refine⟨by simp[hl],aO.refl _,λb=>?_,λi d' e=>?_,λi d' e=>?_,λi q d' e=>?_,λi j b a1 a2=>?_⟩
 ·by_cases hb:b=p
  ·subst hb;exact .inr ⟨gp,_,(c _ b).mpr ⟨rfl,rfl⟩⟩
  ·exact .inl ⟨m b hb,λi a=>hb ((c i b).mp a).2⟩
 ·rcases look i _ e with⟨M,z,q⟩|⟨_,z⟩|z
  ·cases z
   obtain⟨v,O,r⟩:=h.get q;refine⟨v,?_,r⟩;have hi:i<ws.length:=(33,O).1;rw[List.getElem?_append_left (by simpa using hi),List.getElem?_map,O];rfl
  ·cases z
  ·cases z
 ·rcases look i _ e with⟨M,z,q⟩|⟨_,z⟩|z<;>cases z
 ·rcases look i _ e with⟨M,z,_⟩|⟨hi,z⟩|z
  ·cases z
  ·cases z;subst hi;rw[3,f,o]
  ·cases z
 ·rw[((c i b).mp a1).1,((c j b).mp a2).1]
theorem Hs.close{d:D}(h:#[12])(e:(0,Y[j]?,.lk p d)):∃G',aO G G'/\aO H0 G'/\(3,G' p,none,∀b,b≠p->G' b=H b,Own K G' H p d):=by
 obtain⟨O,o⟩:=h.lk j p d e;have gp:(2,G p):=by
  rcases h.ex p with⟨_,z⟩|⟨z,_⟩
  ·exact absurd ⟨_,e,True.intro,O⟩ (z j)
  ·exact z
 have s1:aO G (λb=>if b=p then none else H b):=λb u q=>by
  have hb:b≠p:=aK q gp
  show(0,if b=p then none else H b,u)
  rw[2,if_neg hb,h.sub b u q]
 exact⟨_,s1,h.base.trans s1,if_pos rfl,λb hb=>if_neg hb,o.mono s1 rfl⟩
end
section
variable{mg:#[11]}{base:Heap}
theorem yz{x g:Str}{st:Stmt}{f:Addr}{k:Nat}{sp:AE}(F:(12,x,g,st))(S:aH N ps (az st))(len:∀ds d Qd,sp ds d Qd->ds.length+1=ps.length)
(c:∀(j:Value)(A:Around)(outer:List Env)(s:Shared)(H G:Hp)(E:XK)(p:Addr),bT k (A.deeper (envOfC g (az st) s.heap.objs.size f j))-> ∀ds d Qd,sp ds d Qd->
∃t,e3 (gk cy P w K mg base N g (az st) f j A outer s H E).Fc G (c1 st) t/\
t {nx:=λY=>∃d',(0,Y[ds.length]?,.lk p d')/\Qd .bu d',rt:=λr Y=>∃x d',(3,r,.val x,(0,Y[ds.length]?,.lk p d'),Qd x d')} (BI N ds p d)):aQ P w K mg base cy (k+1) f fd ps (hK K sp):=by
 refine F.ok S (λvs H Q E h=>?_) (λj A outer s H vs Q E hr h=>?_)
 ·obtain⟨ws,p,G,d,ds,Qd,rfl,_,_,_,r,h1,_⟩:=h
  rw[List.length_append,<-r.length];exact len ds d Qd h1
 ·obtain⟨ws,p,G,d,ds,Qd,rfl,gp,m,o,r,h1,h2⟩:=h
  obtain⟨t,M,q⟩:=c j A outer s H G E p hr ds d Qd h1;refine⟨_,M,BI N ds p d,G,_,?_,q,⟨λL H' T G' hs _⟨d',e,q⟩=>?_,λv H' r' T ok⟨x,d',b,e,q⟩=>?_,λ_ _ _ _ _ _ z=>z.elim,λ_ _ _ _ _ _ z=>z.elim⟩⟩
  ·have e:=zK r (N.length-(ds.length+1)) gp m o
   show Hs K G ((ws++[V.ref p]).map some++List.replicate (N.length-(ws++[V.ref p]).length) none) _ G H
   have O:(ws++[V.ref p]).length=ds.length+1:=by rw[List.length_append,<-r.length];rfl
   rw[O,List.map_append,List.append_assoc];exact e
  ·obtain⟨G2,s1,l,g0,g1,i⟩:=hs.close e
   exact h2 _ H' G2 .bu d' l g0 g1 i (by simp only[Rep]) q
  ·subst b
   obtain⟨L,G',hs,a⟩:=ok;obtain⟨G2,s1,l,g0,g1,i⟩:=hs.close e;exact h2 v H' G2 x d' l g0 g1 i (Rep.mono s1 _ _ a) q
end
section
theorem Hs.lend{d:D}(h:Hs X.K H0 σ Y G H)(e:(0,Y[i]?,l))(hm:l.fq)(O:(0,σ[i]?,some (.ref p)))(o:Own X.K G H p d):
(2,G p)/\ ∃Gf,Hs X.K H0 σ (Y.set i (.fr d)) Gf H/\(∀b,b≠p->Gf b=G b)/\Gf p=H p/\aO G Gf:=by
 have ai:At σ Y i p:=⟨_,e,hm,O⟩;have hi:i<Y.length:=ai.lt;obtain⟨ob,eo,_⟩:=o.soft;have gp:(2,G p):=by
  rcases h.ex p with⟨_,z⟩|⟨z,_⟩
  ·exact absurd ai (z i)
  ·exact z
 have s1:aO G (upd G p ob):=λb u q=>(10,aI (aK q gp),q)
 have r:Rep X.K (upd G p ob) d (.ref p):=o.rep s1 (by rw[aM,eo]);refine⟨gp,upd G p ob,⟨(10,List.length_set,h.len),h.base.trans s1,λb=>?_,λj d' q=>?_,λj d' q=>?_,λj q' es q=>?_,λj k b a1 a2=>?_⟩,λb hb=>aI hb,by rw[aM,eo],s1⟩
 ·by_cases hb:b=p
  ·subst hb
   refine .inl ⟨by rw[aM,eo],λj a=>?_⟩
   by_cases g:j=i
   ·subst g;exact dP a
   ·exact g (h.ne _ _ _ ((cE g).mp a) ai)
  ·rw[15]
   ·refine .inl ⟨(10,aI hb,c),λj a=>?_⟩
    by_cases g:j=i
    ·subst g;exact dP a
    ·exact B j ((cE g).mp a)
   ·have g:j≠i:=λz=>hb (by
     subst z;obtain⟨_,_,_,w⟩:=B
     rw[O]at w;cases w;rfl)
    exact .inr ⟨(10,aI hb,c),j,(cE g).mpr B⟩
 ·by_cases g:j=i
  ·rw[10];rw[1,_,O,r]
  ·rw[(34,g)]at q
   obtain⟨v,f,C⟩:=h.fr j d' q;rw[1,v,f,Rep.mono s1 _ _ C]
 ·by_cases g:j=i
  ·rw[10]
  ·rw[(34,g)]at q
   obtain⟨v,f,C⟩:=h.ow j d' q;rw[1,v,f,C.mono s1 rfl]
 ·by_cases g:j=i
  ·rw[10]
  ·rw[(34,g)]at q
   obtain⟨f,C⟩:=h.lk j q' es q;rw[3,f,C.mono s1 rfl]
 ·have g:j≠i:=λz=>by subst z;exact dP a1
  have hk:k≠i:=λz=>by subst z;exact dP a2
  exact h.ne j k b ((cE g).mp a1) ((cE hk).mp a2)
theorem Hs.back{l':Sl}{d d':D}(h:Hs X.K H0 σ Y G H)(e:(0,Y[i]?,l))(hm:l.fq)(O:(0,σ[i]?,some (.ref p)))
(f:l'=.ow d'\/l'=.lk p d')(A:∀j b,At σ (Y.set i (.fr d)) j b->(2,G1 b))(s2:aO G G2)(gp:(2,G2 p))(m:∀b,b≠p->G2 b=G1 b)(o:Own X.K G2 G1 p d'):
Hs X.K H0 σ (Y.set i l') G2 (mix σ (Y.set i (.fr d)) H G1):=by
 have ai:At σ Y i p:=⟨_,e,hm,O⟩;have hi:i<Y.length:=ai.lt
 have s:l'.fq:=by rcases f with rfl|rfl<;>exact True.intro
 have t:∀j b,At σ (Y.set i (.fr d)) j b↔j≠i/\At σ Y j b:=λj b=>by
  by_cases g:j=i
  ·subst g;rw[3,λa=>(dP a).elim,λz=>absurd rfl z.1]
  ·rw[2,cE g,⟨(λa=>⟨g,a⟩),(λz=>z.2)⟩]
 have u:∀j b,At σ (Y.set i l') j b↔At σ Y j b:=λj b=>by
  by_cases g:j=i
  ·subst g
   constructor
   ·rintro⟨_,_,_,z⟩;exact⟨_,e,hm,z⟩
   ·rintro⟨_,_,_,z⟩;exact⟨_,List.getElem?_set_self hi,s,z⟩
  ·exact cE g
 have w:∀j,At σ Y j p->j=i:=λj a=>h.ne _ _ _ a ai
 have J:∀j,¬At σ (Y.set i (.fr d)) j p:=λj a=>((t j p).mp a).1 (w j ((t j p).mp a).2)
 have y:mix σ (Y.set i (.fr d)) H G1 p=G1 p:=bW J;refine⟨(10,List.length_set,h.len),h.base.trans s2,λb=>?_,λj n q=>?_,λj n q=>?_,λj q' n q=>?_,λj k b a1 a2=>h.ne j k b ((u j b).mp a1) ((u k b).mp a2)⟩
 ·by_cases hb:b=p
  ·subst hb;exact .inr ⟨gp,i,(u i b).mpr ai⟩
  ·by_cases ha:∃j,At σ (Y.set i (.fr d)) j b
   ·obtain⟨j,a⟩:=ha
    exact .inr ⟨(10,m b hb,A j b a),j,(u j b).mpr ((t j b).mp a).2⟩
   ·have x:∀j,¬At σ (Y.set i (.fr d)) j b:=λj z=>ha ⟨j,z⟩
    refine .inl ⟨(10,bW x,m b hb),λj a=>?_⟩;have r:=(u j b).mp a
    by_cases g:j=i
    ·subst g
     obtain⟨_,_,_,z⟩:=r;rw[O]at z;cases z;exact hb rfl
    ·exact x j ((t j b).mpr ⟨g,r⟩)
 ·by_cases g:j=i
  ·subst g;rw[List.getElem?_set_self hi]at q;rcases f with rfl|rfl<;>cases q
  ·rw[(34,g)]at q
   obtain⟨v,c,C⟩:=h.fr j n q;rw[1,v,c,Rep.mono s2 _ _ C]
 ·by_cases g:j=i
  ·subst g;rw[List.getElem?_set_self hi]at q
   rcases f with rfl|rfl
   ·cases q;rw[1,p,O,o.mono (aO.refl _) y]
   ·cases q
  ·rw[(34,g)]at q
   obtain⟨b,c,C⟩:=h.ow j n q;rw[1,b,c,C.mono s2 (dq ((t j b).mpr ⟨g,⟨_,q,True.intro,c⟩⟩))]
 ·by_cases g:j=i
  ·subst g;rw[List.getElem?_set_self hi]at q
   rcases f with rfl|rfl
   ·cases q
   ·cases q;rw[3,O,o.mono (aO.refl _) y]
  ·rw[(34,g)]at q
   obtain⟨c,C⟩:=h.lk j q' n q;rw[3,c,C.mono s2 (dq ((t j q').mpr ⟨g,⟨_,q,True.intro,c⟩⟩))]
end
structure KG(P:Program)(w:World)(K:PySem.W.Frag)(mg:#[11])(base:Heap)(k:Nat)(x:Str)(sp:AE):Prop where
 ex:(56,aQ P w K mg base cy k f fd ps (hK K sp),(0,mg x,.ref f),(4,keepIn K (.ref f)))
inductive w2(K:PySem.W.Frag)(H0:Hp)(i:Nat)(tr:RA)(σ:L2.St)(H:Hp)(Q:(7,List V,Hp)):Prop
 |mk(Y:_)(G:_)(Qd:_)(a:_):(11,#[12],(0,σ[i]?,some (.ref a)),tr Y Qd,∀ws H' G' ds,Nx K H0 σ Y G H G' H'->aE K G' ds ws->Qd ds->Q (ws++[.ref a]) H',w2 K H0 i tr σ H Q)
def JB(X:Cx)(H0:Hp)(i:Nat)(es:#[4])(tr:RA):Prop:=PA X es (w2 X.K H0 i tr)
section
variable{k:Nat}{x:Str}{sp:AE}{es:#[4]}{t:RE}{tr:RA}{p:Pos}
theorem BJ(i:Nat)(hN:(0,X.N[i]?,x):=by rfl)(hv:qL X.env.scope x:=by first|exact Or.inl rfl|exact Or.inr (Or.inl rfl)|exact Or.inr (Or.inr rfl))(hd:(23,x):=by decide)
(W:#[21]:=by decide)(hs:(51,[.Name x p],.Name x p,[]):=by rfl):JB X H0 i [.Name x p] zy:=
 PA.weak (cZ (eD hN hv hd W) gj hs) λσ H Q⟨Y,G,Qd,a,hs,O,M,k⟩=>⟨_,O,k [] H G [] (Nx.refl hs) aE.nil M⟩
theorem l_(ha:aS X H0 e t)(hr:JB X H0 i es tr)(hs:#[13]:=by rfl):JB X H0 i (e::es) (rN t tr):=
 PA.weak (cZ ha hr hs) λσ H Q⟨Y,G,Qd,a,hs,O,M,k⟩=>⟨Y,G,_,hs,M,λv H1 G1 d n1 r1 q1=>⟨Y,G1,_,a,n1.hs,O,q1,λvs H2 G2 ds P r2 q2=>k (v::vs) H2 G2 (d::ds) (n1.trans P) (aE.cons (Rep.mono P.g _ _ r1) r2) q2⟩⟩
def yA(i:Nat)(sp:AE)(tr:RA)(Y:#[0])(Q:(7,D,#[0])):Prop:=match Y[i]? with
 |some (.ow d)=>tr Y λds=>sp ds d λx d'=>Q x (Y.set i (.ow d'))
 |some (.lk q d)=>tr Y λds=>sp ds d λx d'=>Q x (Y.set i (.lk q d'))
 |_=>False
def KH(K:PySem.W.Frag)(H0:Hp)(t:(7,#[0],(7,D,#[0]))):TE:=λσ H Q=>∃Y G Qd,#[12]/\t Y Qd/\ ∀v H' T G' x,(11,Hs K H0 σ T G' H',aO G G',Rep K G' x v,Qd x T,Q v H')
theorem BK{Qd:(7,D,#[0])}(h:yA i sp tr Y Qd):∃l d,(0,Y[i]?,l)/\((l=.ow d/\tr Y λds=>sp ds d λx d'=>Qd x (Y.set i (.ow d')))\/ ∃q,l=.lk q d/\tr Y λds=>sp ds d λx d'=>Qd x (Y.set i (.lk q d'))):=by
 unfold yA at h
 split at h
 ·rename_i d e;exact⟨_,d,e,.inl ⟨rfl,h⟩⟩
 ·rename_i q d e;exact⟨_,d,e,.inr ⟨q,rfl,h⟩⟩
 ·exact h.elim
theorem Ed(F:KG X.prog X.w X.K X.mg X.base k x sp)(hr:bT k X.A)(ha:JB X H0 i (e::es) tr)(hg:Gl X x:=by rfl)(j:(23,x):=by decide)
(he:#[13]:=by rfl)(cU:(28,pos,es):=by rfl):PE X (.Call (.Name x p) (e::es) [] pos) (KH X.K H0 (yA i sp tr)):=by
 obtain⟨f,fd,ps,F,hm,hk,hb⟩:=F.ex;intro Z s σ H Q I⟨Y,G,Qd,hs,M,kk⟩;refine wpAny_Call_Name_kw (cc I hg hm ?_ j);obtain⟨l,d,el,hl⟩:=BK M;obtain⟨E,O,FN,new,g,M⟩:∃E,(0,σ[i]?,some (.ref E))/\l.fq/\ ∃new:D->Sl,(∀d',new d'=.ow d'\/new d'=.lk E d')/\tr Y λds=>sp ds d λx d'=>Qd x (Y.set i (new d')):=by
  rcases hl with⟨rfl,h⟩|⟨q,rfl,h⟩
  ·obtain⟨E,O,_⟩:=hs.ow i d el
   exact⟨E,O,True.intro,λd'=>.ow d',λ_=>.inl rfl,h⟩
  ·obtain⟨O,_⟩:=hs.lk i q d el
   exact⟨q,O,True.intro,λd'=>.lk q d',λ_=>.inr rfl,h⟩
 have own:∀{G' H':Hp},Hs X.K H0 σ Y G' H'->Own X.K G' H' E d:=λ{G' H'}y=>by
  rcases hl with⟨rfl,_⟩|⟨q,rfl,_⟩
  ·obtain⟨p1,W,o⟩:=y.ow i d el
   rw[O]at W;cases W;exact o
  ·obtain⟨W,o⟩:=y.lk i q d el
   rw[O]at W;cases W;exact o
 have B:w2 X.K H0 i tr σ H (λvs H'=>∃ws G' ds,(3,vs,ws++[.ref E],Nx X.K H0 σ Y G H G' H',aE X.K G' ds ws/\sp ds d λx d'=>Qd x (Y.set i (new d')))):=⟨Y,G,_,E,hs,O,M,λws H' G' ds n r q=>⟨ws,G',ds,rfl,n,r,q⟩⟩;refine PySem.W.callWith_K (h₀:=X.base) I.ok.mod.g9 hk (bK (ha pos Z s σ H _ I B) λus s1⟨vs,H1,I1,r,ws,G1,ds,m,n,rd,q⟩=>⟨I1.kM,?_⟩) he cU;subst m;obtain⟨gp,Gf,S,Ee,V,sf⟩:=n.hs.lend el FN O (own n.hs);obtain⟨Xf,KI,Nj⟩:=(own n.hs).soft;have vp:fB Gf E=H1 E:=by
  rw[KI];refine hG (V.trans KI) λc z=>?_
  subst z;exact Nj
 let Gv:Hp:=λb=>if b=E then none else fB Gf b
 have gv:∀b,b≠E->Gv b=fB Gf b:=λb hb=>if_neg hb
 have nv:lP G1 Gv:=λb o no q=>by
  have hb:=aK q gp;rw[2,gv b hb,hG ((Ee b hb).trans q) no]
 have N:hK X.K sp (ws++[.ref E]) (fB Gf) (λv Gl=>∃G2 x d',aO Gv G2/\(2,G2 E)/\(∀b,b≠E->G2 b=Gl b)/\Own X.K G2 Gl E d'/\Rep X.K G2 x v/\Qd x (Y.set i (new d'))) E0:=
  ⟨ws,E,Gv,d,ds,_,rfl,if_pos rfl,gv,Own.near (own n.hs) nv vp,aE.near nv _ _ rd,q,λv H' G' x d' h1 h2 J h4 h5 h6=>⟨G',x,d',h1,h2,J,h4,h5,h6⟩⟩
 have t:us.length=ps.length:=(26,r.length,F.len _ _ _ _ N)
 have P:BindsTo s1 fd ⟨us,[]⟩ (ps.zip us):=by simpa using hb s1 us I1.kM (by simpa using t)
 refine wpAny_call (codeAny_mono (F.run X.A X.stack s1 (fB Gf) ⟨us,[]⟩ us _ _ E0 hr (S.wO I1) P r N) λr s' hq=>?_)
 cases r with
 |error e=>exact False.elim hq
 |ok fl=>
  cases fl with
  |ret u=>
   obtain⟨v,Gl,a,rv,⟨G2,x2,d',h1,h2,J,h4,h5,h6⟩,A,lV⟩:=S.behind I1 hq λv Gl⟨G2,x2,d',h1,h2,J,h4,_⟩b L=>by
    by_cases hb:b=E
    ·obtain⟨o,eo,_⟩:=h4.soft
     rw[hb,eo]at L;cases L
    ·rw[<-gv b hb];exact h1.free (10,J b hb,L)
   let K:Hp:=λb=>if b=E then none else i4 Gf Gl b
   have C:∀b,b≠E->K b=i4 Gf Gl b:=λb hb=>if_neg hb
   have s3:aO G2 K:=λb o e=>by
    have hb:=aK e h2;rw[2,C b hb,cY b o (26,J b hb,e)]
   have s4:aO G1 K:=λb o e=>by
    have hb:=aK e gp;have R:=(Ee b hb).trans e
    cases q:fB Gf b with
    |some w=>
     have:=th q;rw[R]at this;cases this;exact s3 b o (h1 b o (10,gv b hb,q))
    |none=>rw[C b hb,dh (lV b (by rw[R];intro z;cases z) q)];exact R
   obtain⟨o4,TM,_⟩:=h4.soft;have Xg:=n.hs.back (l':=new d') (d:=d) el FN O (g d') A s4 (if_pos rfl) C (h4.mono s3 (10,TM,cY _ _ TM));rw[4,v,_,a,rv,kk v _ _ K x2 Xg (n.g.trans s4) (Rep.mono s3 _ _ h5) h6]
  |next=>exact False.elim hq
  |brk=>exact False.elim hq
  |cont=>exact False.elim hq
variable{tg:Expr}{g:RG}
def KJ(i:Nat)(sp:AE)(tr:RA)(g:RG)(E:bC)(Y:#[0]):Prop:=yA i sp tr Y λx T=>g x T E.nx
theorem BL(F:KG X.prog X.w X.K X.mg X.base k x sp)(hr:bT k X.A)(ha:JB X H0 i (e::es) tr)(Xh:wq X H0 tg g)(hg:Gl X x:=by rfl)(j:(23,x):=by decide)
(he:#[13]:=by rfl)(cU:(28,p,es):=by rfl){p2:Pos}
(hs:swapsWithSole [tg] (.Call (.Name x p2) (e::es) [] p) pos.line X.env=pure false:=by rfl)(hw:swappedStores [tg] (.Call (.Name x p2) (e::es) [] p) X.env=pure none:=by rfl)
(h1:(assignEach [tg] X.env).map (·.2)=[assign tg X.env]:=by rfl):i8 X H0 (.Assign [tg] (.Call (.Name x p2) (e::es) [] p) pos) (KJ i sp tr g):=
 (46,AM (Ed F hr ha hg j he cU) Xh hs hw h1,go,λv H1 a G1 x h1 s1 r1 q1=>⟨a,G1,x,E.nx,h1,r1,q1,λL H' T G' h' s' q=>go.nx L H' T G' h' (s1.trans s') q⟩)
end
theorem hL(f:α->β){xs ys:List β}(h:xs.Perm ys):∀L:List α,ys=L.map f-> ∃o:List α,o.Perm L/\xs=o.map f:=by
 induction h with
 |nil=>intro L e;cases L with
  |nil=>rw[1,[],.refl _,rfl]
  |cons a L=>cases e
 |cons x _ ih=>
  intro L e
  cases L with
  |nil=>cases e
  |cons a L=>
   cases e;obtain⟨o,p,rfl⟩:=ih L rfl;rw[1,a::o,p.cons a,rfl]
 |swap x y l=>
  intro L e
  cases L with
  |nil=>cases e
  |cons a L=>
   cases L with
   |nil=>cases e
   |cons b L=>cases e;rw[1,b::a::L,.swap _ _ _,rfl]
 |trans _ _ g i=>
  intro L e;obtain⟨c,p2,W⟩:=i L e;obtain⟨d,p1,O⟩:=g c W;rw[1,d,p1.trans p2,O]
section
variable{h':Heap}
theorem Inv.FO(I:(20,H,s))(f:fF X Z H a)(k:∀b u,b≠a->(0,s.heap.get? b,u)->(0,h'.get? b,u))
(new:bJ X.prog X.w (upd H a o) h' a o):(20,upd H a o,{s with heap:=h',toks:=t'}):=by
 obtain⟨D,l,R,j,f4,N⟩:=f;have x:∀b u,(0,H b,u)->b≠a:=λb u e z=>by rw[z,D]at e;cases e
 refine I.step (g':=s.gens) (d':=s.drawn) (ch:=[a]) (λb hb=>?_) (λb o _ _ hc e _=>k b o (λz=>hc (by simp[z])) e) (λb o _ _ hc e _=>⟨o.slots,k b o (λz=>hc (by simp[z])) e⟩) (λb o hc e n=>?_)
  (λb o hc e=>⟨o,k b o (λz=>hc (by simp[z])) e⟩) (λb xs e=>?_) (λb o u e=>?_) (λb ps e=>⟨#[],?_⟩) (λm hm=>?_) (λb u e=>?_) I.bare
 ·have e:b=a:=by simpa using hb
  subst e;exact⟨j,l,f4,N⟩
 ·rw[2,aI (λz=>hc (by simp[z])),n]
 ·rw[2,aI (x b _ e),e]
 ·rw[2,aI (x b _ e),e]
 ·rw[aI (x b _ e),e];simp
 ·obtain⟨o,es,ep,ho,r⟩:=hm
  rw[4,o,es,ep,k _ o l.symm ho,r]
 ·by_cases hb:b=a
  ·subst hb
   rw[6,aM];exact new
  ·rw[aI hb]at e
   refine(I.bH b u e).km (λc v hc z=>?_) (λc z=>?_) (λc ys z=>?_)
   ·rcases hc with y|y
    ·rw[y]at z⊢;exact k b v hb z
    ·exact k c v (x c _ y) z
   ·rw[2,aI (x _ _ z),z]
   ·rw[2,aI (x _ _ z),z]
theorem BM{k:Nat}{f:Addr}{d:D}(F:aQ X.prog X.w X.K X.mg X.base cy k f fd ps (aV X.K sp))(hr:bT (k+2) X.A)(hb:Binds X.K fd ps [])
(I:(20,H,s))(rd:Rep X.K H d v)(ru:L2.RelV v u)(h:sp [d] Qd):
wpAny (model X.prog X.w) X.A.in1.in1 (call (.ref f) [u]) (λb s'=>∃l H' r,(20,H',s')/\L2.RelV l b/\cV X.K H H' l r/\Qd r) E s:=by
 have N:aV X.K sp [v] H (λl H'=>∃r,cV X.K H H' l r/\Qd r) E0:=⟨[d],Qd,aE.cons rd aE.nil,h,λv H' r ok q=>⟨r,ok,q⟩⟩;have hl:[u].length=ps.length:=by
  have:=F.len _ _ _ _ N
  simpa using this
 have c:BindsTo s fd ⟨[u],[]⟩ (ps.zip [u]):=by simpa using hb s [u] I.kM (by simpa using hl)
 refine wpAny_call (codeAny_mono (F.run X.A.in1.in1 X.stack s H ⟨[u],[]⟩ [u] [v] _ E0 hr.in1.in1 I.wO.in1.in1 c (.cons ru .nil) N) λr s' hq=>?_)
 cases r with
 |error e=>exact False.elim hq
 |ok fl=>
  cases fl with
  |ret u'=>
   obtain⟨l,H',K,rv,r,ok,q⟩:=I.after hq;exact⟨l,H',r,K,rv,ok,q⟩
  |next=>exact False.elim hq
  |brk=>exact False.elim hq
  |cont=>exact False.elim hq
theorem vb{b:Addr}{o o':Obj}(I:L2.Inv X ((b,o)::Z) σ H s)(f:b∈X.ex\/X.ey.heap.objs.size<=b)(hc:∀x c,(0,X.env.cells.lookup x,c)->c≠b)(hp:∀p∈X.pn++Z,p.1≠b)
(k:∀c u,c≠b->(0,s.heap.get? c,u)->(0,h'.get? c,u))(m:(0,h'.get? b,o'))(nc:∀v,o'.data≠ .cell v):L2.Inv X ((b,o')::Z) σ H {s with heap:=h',toks:=t'}:=by
 obtain⟨p1,p2,g,l,h⟩:=(42,I.pin,(b,o),.head _);have d:(20,H,s):=I.hj λp hp=>(42,I.pin,p,.tail _ hp)
 have I1:=d.turned (h':=h') (t':=t') (it:=b) k p2 g f hc hp;refine I1.hj λp a=>?_
 rcases List.mem_cons.mp a with rfl|a
 ·rw[4,m,p2,g,l,nc]
 ·exact(42,I1.pin,p,a)
end
structure Out(X:Cx)(Z:#[9])(b:Addr):Prop where
 l:b≠X.env.locals
 f:b∉X.fs
 x:b∈X.ex\/X.ey.heap.objs.size<=b
 c:∀x c,(0,X.env.cells.lookup x,c)->c≠b
 p:∀p∈X.pn++Z,p.1≠b
theorem Out.fp{b:Addr}(o:Out X Z b)(h:(2,H b)):fF X Z H b:=⟨h,o.l,o.f,o.x,o.c,o.p⟩
theorem w4{b:Addr}(I:(20,H,s))(hb:s.heap.objs.size<=b):Out X Z b:=by
 obtain⟨_,a1,a2,a3,a4,a5⟩:=I.uK (H':=λ_=>none) hb rfl;rw[4,a1,a2,a3,a4,a5]
def eB(prog:Program)(w:World)(A:Around)(s:Shared)(keys items:Array Value)(R:(1,Array Keyed)):Prop:=
 ∀(E:#[8])(Q:(18,Unit×SortSt)),(∀(st:SortSt)(tk:Nat),(arrOf st).Perm (keys.zip items)->(2,failedOf st)->R (arrOf st)->Q ((),st) {s with toks:=tk})->
  wpAny (model prog w) A (if items.size<2 then pure general' else keyKind' keys) (λkind s1=>wpAny (model prog w) A ((if items.size<2 then pure ()else sortRuns').run (SortSt.mk' kind (keys.zip items) #[] 7 none)) Q E s1) E s
theorem oh{keys items:Array Value}(h:items.size<2):eB prog w A s keys items λ_=>True:=λE Q k=>by
 rw[if_pos h];refine wpAny_pure ?_;rw[if_pos h,StateT.run_pure];exact wpAny_pure (k (SortSt.mk' general' (keys.zip items) #[] 7 none) s.toks (Array.Perm.refl _) rfl trivial)
section
variable{P:(18,PySem.Fin)}{B:Addr}{m:Array Value}{e O:Nat}
theorem oO{T:String}{xs:Array Value}:∀v,(seqObj T xs n).data≠ .cell v:=λv z=>by cases z
theorem zL{st:SortSt}(I:L2.Inv X ((B,(21,m,e))::(a,(21,#[],O))::Z) σ H s)(oK:Out X ((a,(21,#[],O))::Z) B)(G:Out X Z a)(hk:(8,m.size))(ha:(8,(arrOf st).size))(S:(2,failedOf st))
(h:∀h' tk c,(20,H,{s with heap:=h',toks:=tk})->(0,h'.get? a,(21,(arrOf st).map (·.2),c))->(2,H a)->P (.done (.ret .none)) {s with heap:=h',toks:=tk}):
wpAny (model X.prog X.w) A (ksk_tail a false O (.ref B) st) P E s:=by
 have n:=(42,I.pin,(B,(21,m,e)),.head _).1;have nd:=(42,I.pin,(a,(21,#[],O)),.tail _ (.head _));have t:a≠B:=(42,oK.p,(a,(21,#[],O)),.head _);have s1:=Heap.SameBut.update s.heap B (Obj.mapSeq λ_=>(#[]:Array Value));obtain⟨i,v⟩:∃i,(0,(s.heap.update B (Obj.mapSeq λ_=>(#[]:Array Value))).get? B,(21,#[],i)):=⟨_,get?_update_seq n λ_=>#[]⟩;have o:(0,(s.heap.update B (Obj.mapSeq λ_=>(#[]:Array Value))).get? a,(21,#[],O)):=(s1.2 a t).trans nd.1;obtain⟨C,k⟩:∃C:Array Value,C=(arrOf st).map (·.2):=⟨_,rfl⟩;have l:(8,C.size):=by rw[k];simpa using ha
 have s2:=Heap.SameBut.update (s.heap.update B (Obj.mapSeq λ_=>(#[]:Array Value))) a (Obj.mapSeq λ_=>C);obtain⟨g,j⟩:∃g,(0,((s.heap.update B (Obj.mapSeq λ_=>(#[]:Array Value))).update a (Obj.mapSeq λ_=>C)).get? a,(21,C,g)):=⟨_,get?_update_seq o λ_=>C⟩;rw[<-k]at h
 have go:wpAny (model X.prog X.w) A (do
   Builtin.List.listUpdate (.ref B) λ_=>#[]
   letGo ((arrOf st).map (·.1)).toList (failedOf st).toList
   let r:=(<-seqEpoch a) !=O
   Builtin.List.listUpdate (.ref a) λ_=>C
   if let some e:=failedOf st then rule "list.sort.comparison-raised";throw e
   if r then rule "list.sort.modified";raiseError "ValueError" "list modified during sort"
   ret .none) P E s:=by
  rw[0,(6,listUpdate_at n rfl ?_ hk (Nat.zero_le _)),wpAny_bind (wpAny_letGo ?_)];rw[0,(6,seqEpoch_at o rfl ?_),(6,listUpdate_at o rfl ?_ (Nat.zero_le _) (Nat.le_succ_of_le l))];rw[S];simp only[bne_self_eq_false,Bool.false_eq_true,if_false];have I1:=vb (h':=s.heap.update B (Obj.mapSeq λ_=>(#[]:Array Value))) (t':=s.toks) I oK.x oK.c oK.p (λc u hc q=>(s1.2 c hc).trans q) v oO
  have d:(20,H,{s with heap:=s.heap.update B (Obj.mapSeq λ_=>(#[]:Array Value)),toks:=s.toks}):=I1.hj λp hp=>(42,I1.pin,p,.tail _ (.tail _ hp))
  have f:=d.turned (h':=(s.heap.update B (Obj.mapSeq λ_=>(#[]:Array Value))).update a (Obj.mapSeq λ_=>C)) (t':=s.toks) (it:=a) (λb u hb q=>(s2.2 b hb).trans q) nd.2.1 G.l G.x G.c G.p;exact wpAny_pure (h _ _ g f j nd.2.1)
 rw[k]at go;exact go
end
section
variable{P:(18,PySem.Fin)}{B:Addr}{O:Nat}
theorem zM {k:Nat} {f:Addr} {kf:D -> D} 
 (F:aQ X.prog X.w X.K X.mg X.base cy k f fd ps (aV X.K sp)) (hr:bT (k + 2) X.A) (hb:Binds X.K fd ps []) (lK:∀ d ∈ ds,sp [d] λr=>r = .val (kf d))
 (I:L2.Inv X ((B,(21,#[],0)) :: (a,(21,#[],O)) :: Z) σ H s) (oK:Out X ((a,(21,#[],O)) :: Z) B) (G:Out X Z a) {G0:Hp} (rv:Vals vs its) (rd:aE X.K H ds vs) (Nk:aE X.K G0 ds vs) (hz:(8,ds.length))
 (n:∀ (w:#[9]) (H':Hp) (s':Shared) (keys:#[5]) (ws:List V),(11,L2.Inv X w σ H' s',aO H H',Vals ws keys,aE X.K H' (ds.map kf) ws,eB X.prog X.w X.A.in1.in1 s' keys.toArray its.toArray λC=>(59,keys.zip,C.toList)))
 (h:∀ H' s' c (C:#[5]) (A:List V) (y:List D),(11,(20,H',s'),aO H H',(2,H' a),(0,s'.heap.get? a,(21,C.toArray,c)),(11,y.Perm ds,R y,Vals A C,aE X.K G0 y A,P (.done (.ret .none)) s'))) :
 wpAny (model X.prog X.w) X.A.in1.in1 (ksk_rest a (.ref f) false its.toArray O (.ref B)) P E s:=by
  have l1:ds.length = vs.length:=rd.length;have l2:vs.length = its.length:=rv.length;unfold ksk_rest;refine wpAny_bind (wpAny_rule ?_);rw [List.forIn_toArray]
  refine (6,ksk_fold (λi s'=>∃ Hi m e ws,L2.Inv X ((B,(21,m,e)) :: (a,(21,#[],O)) :: Z) σ Hi s' /\ aO H Hi /\ Vals ws m.toList /\ aE X.K Hi ((ds.take i).map kf) ws) its 0 s
    ⟨H,#[],0,[],I,aO.refl _,.nil,by simp [aE]⟩ ?step ?done)
  case step =>
    rintro j x s' hx ⟨Hi,m,e,ws,Ii,sm,rk,rr⟩;simp only [Nat.zero_add] at rr ⊢;have g:j < its.length:=(33,hx).1;have ed:(0,ds[j]?,ds[j]):=by simp [show j < ds.length by omega]
    generalize ds[j] = d at ed;obtain ⟨v,ev,rep⟩:=rd.get ed;obtain ⟨u,eu,ru⟩:=rv.get ev;rw [hx] at eu;cases eu;have T:m.size <= ds.length:=by
      have h1:ws.length = m.size:=by simpa using rk.length
      have h2:=rr.length;rw [List.length_map,List.length_take] at h2;omega
    refine wpAny_bind (wpAny_attempt (wpAny_mono (BM (E:=λ_ _=>False) F hr hb Ii (Rep.mono sm _ _ rep) ru (lK d (List.mem_of_getElem? ed))) (λb Q he=>?_) λ_ _ hF=>hF.elim));obtain ⟨l,H',r,K,JC,ok,er⟩:=he;subst er;obtain ⟨TN,rep2⟩:=ok
    try dsimp only
    have nk:=(42,K.pin,(B,(21,m,e)),.head _).1;have s1:=Heap.SameBut.update Q.heap B (Obj.mapSeq (·.push b));obtain ⟨c2,Xi⟩:∃ c2,(0,(Q.heap.update B (Obj.mapSeq (·.push b))).get? B,(21,m.push b,c2)):=⟨_,get?_update_seq nk (·.push b)⟩;refine (6,listUpdate_at nk rfl ?_ (Nat.le_trans T hz) (Nat.le_trans (Nat.le_of_eq (Array.size_push ..)) (Nat.succ_le_succ (Nat.le_trans T hz))));have I2:=vb (h':=Q.heap.update B (Obj.mapSeq (·.push b))) (t':=Q.toks) K oK.x oK.c oK.p (λc u hc q=>(s1.2 c hc).trans q) Xi oO;refine wpAny_pure ⟨rfl,H',m.push b,c2,ws ++ [l],I2,sm.trans TN,?_,?_⟩
    · rw [Array.toList_push];exact rk.append (.cons JC .nil)
    · have ek:ds.take (j + 1) = ds.take j ++ [d]:=by rw [List.take_add_one,ed];rfl
      rw [ek,List.map_append];exact aE.append (aE.mono TN _ _ rr) (aE.cons rep2 aE.nil)
  case done =>
    rintro s' ⟨Hi,m,e,ws,Ii,sm,rk,rr⟩;have et:ds.take (0 + its.length) = ds:=List.take_of_length_le #[3];rw [et] at rr;have nk:=(42,Ii.pin,(B,(21,m,e)),.head _).1;have lk:m.size = ds.length:=by
      have h1:ws.length = m.size:=by simpa using rk.length
      have h2:=rr.length;rw [List.length_map] at h2;omega
    try dsimp only
    refine (6,listItems_at nk rfl ?_);have t:=n _ Hi s' m.toList ws Ii sm rk rr;simp only [Array.toArray_toList] at t;unfold ksk_end;dsimp only;simp only [Bool.false_eq_true,if_false]
    have go:(∀ (st:SortSt) (tk:Nat),(arrOf st).Perm (m.zip its.toArray) -> (2,failedOf st) -> (59,m.toList.zip,(arrOf st).toList) -> (40,X.A.in1.in1,ksk_tail a false O (.ref B) st,P,E,{ s' with toks:=tk })) -> (40,X.A.in1.in1,do
        let κ <- if its.toArray.size < 2 then pure general' else keyKind' m
        let p <- (if its.toArray.size < 2 then pure () else sortRuns').run (SortSt.mk' κ (m.zip its.toArray) #[] 7 none)
        ksk_tail a false O (.ref B) p.2,P,E,s'):=λN=>by
      have g1:(40,X.A.in1.in1,(if its.toArray.size < 2 then pure general' else keyKind' m) >>= λκ=>(if its.toArray.size < 2 then pure () else sortRuns').run (SortSt.mk' κ (m.zip its.toArray) #[] 7 none) >>= λp=>ksk_tail a false O (.ref B) p.2,P,E,s') :=
        (6,wpAny_mono (t E (λp s2=>(40,X.A.in1.in1,ksk_tail a false O (.ref B) p.2,P,E,s2)) N) (λκ s1 h1=>(6,wpAny_mono h1 (λp s2 h2=>h2) λ_ _ z=>z)) λ_ _ z=>z)
      by_cases h2:its.toArray.size < 2
      · simp only [if_pos h2] at g1 ⊢;exact g1
      · simp only [if_neg h2] at g1 ⊢;exact g1
    have fin:(40,X.A.in1.in1,do
        let κ <- if its.toArray.size < 2 then pure general' else keyKind' m
        let p <- (if its.toArray.size < 2 then pure () else sortRuns').run (SortSt.mk' κ (m.zip its.toArray) #[] 7 none)
        ksk_tail a false O (.ref B) p.2,P,E,s') -> (40,X.A.in1.in1,_,P,E,s'):=λz=>z
    refine fin (go λst tk hp S hR=>?_);have cU:(arrOf st).toList.Perm (m.toList.zip its):=by
      have:=Array.perm_iff_toList_perm.mp hp
      simpa using this
    have HX:(ds.zip (m.toList.zip its)).map (·.2) = m.toList.zip its:=by
      rw [List.map_snd_zip];rw [List.length_zip,Array.length_toList];omega
    obtain ⟨L,pL,eL⟩:=hL (·.2) cU (ds.zip (m.toList.zip its)) HX.symm;have hsz:(8,(arrOf st).size):=by
      have:=cU.length_eq;rw [List.length_zip,Array.length_toList,Array.length_toList] at this;omega
    refine zL (s:={ s' with toks:=tk }) (Ii.tok tk) oK G #[3] hsz S λh' TQ c K hc hn=>?_
    have W:∀ (as:List D) (bs:#[5]) (cs:List V) (es:#[5]),aE X.K G0 as cs -> Vals cs bs -> es.length = as.length -> ∀ q ∈ as.zip (es.zip bs),∃ v,Rep X.K G0 q.1 v /\ L2.RelV v q.2.2:=by
      intro as
      induction as with
      | nil=>intro bs cs es _ _ _ q hq;exact nomatch hq
      | cons d as ih =>
        intro bs cs es r1 r2 hl q hq;simp only [aE] at r1;obtain ⟨v,r,rfl,h1,h2⟩:=r1
        cases r2 with
        | cons r3 r4 =>
          cases es with
          | nil=>cases hl
          | cons x es =>
            rcases List.mem_cons.mp hq with rfl | hq
            · rw[1,v,h1,r3]
            · exact ih _ _ es h2 r4 (by simpa using hl) q hq
    have hq:∀ q ∈ L,∃ v,Rep X.K G0 q.1 v /\ L2.RelV v q.2.2:=λq hq=>W ds its vs m.toList Nk rv (by rw [Array.length_toList];omega) q (pL.mem_iff.mp hq)
    have Nl:∀ o:(5,D,Value × Value),(∀ q ∈ o,∃ v,Rep X.K G0 q.1 v /\ L2.RelV v q.2.2) -> ∃ A,Vals A (o.map λq=>q.2.2) /\ aE X.K G0 (o.map (·.1)) A:=by
      intro o
      induction o with
      | nil=>intro _;rw[1,[],.nil,aE.nil]
      | cons q o ih =>
        intro hq;obtain ⟨v,h1,h2⟩:=hq q (.head _);obtain ⟨A,J,h4⟩:=ih λq Nm=>hq q (.tail _ Nm)
        rw[1,v :: A,.cons h2 J,aE.cons h1 h4]
    obtain ⟨A,o1,M⟩:=Nl L hq;have Nn:(arrOf st).map (·.2) = (L.map λq=>q.2.2).toArray:=by
      apply Array.toList_inj.mp;rw [Array.toList_map,eL,List.map_map];rfl
    rw [Nn] at hc;have KL:(L.map (·.1)).Perm ds:=by
      have:=pL.map (·.1)
      rw [List.map_fst_zip (by have e:m.toList.length = m.size:=(by simp);rw [List.length_zip,e];omega)] at this
      exact this
    exact h Hi _ c (L.map λq=>q.2.2) A (L.map (·.1)) K sm hn hc KL (hR L (by simpa using pL) (by simpa using eL)) o1 M
theorem w5{k:Nat}{f l:Addr}{kf:D->D}{Q:VK}
(F:aQ X.prog X.w X.K X.mg X.base cy k f fd ps (aV X.K sp))(hr:bT (k+2) X.A)(hb:Binds X.K fd ps [])(lK:∀d∈ds,sp [d] λr=>r=.val (kf d))
 {G0:Hp}(I:(20,H,s))(hl:c_ X.K H l vs)(rd:aE X.K H ds vs)(Nk:aE X.K G0 ds vs)
(n:∀(w:#[9])(H':Hp)(s':Shared)(keys its:#[5])(ws:List V),(11,L2.Inv X w σ H' s',aO H H',Vals ws keys,aE X.K H' (ds.map kf) ws,Vals vs its->eB X.prog X.w X.A.in1.in1 s' keys.toArray its.toArray λC=>(59,keys.zip,C.toList)))
(h:∀H' a(A:List V)(y:List D),(11,aO H H',(2,H' a),y.Perm ds,R y,aE X.K G0 y A->Q (.ref a) (upd H' a (.lst A)))):
(30,call (.builtin "sorted") [.ref l] [(Str.ofString "key",.ref f)],EP X Z σ Q):=by
 obtain⟨its,rv,pl,hz⟩:=I.list hl;have j:(8,its.length):=(26,rv.length,hz)
 refine call_function_entry_kw kind_sorted plain_sorted entry_sorted (ksk_s1 _ _) ?_;unfold Builtin.«sorted»;rw[0,wpAny_bind (m:=checkCount "sorted" 1 1 _) (wpAny_pure ?_),(6,collect_list pl.isList ?_ j)];refine(6,wpAny_newList ?_ j);have hsz:((s.heap.push (21,#[],0)).update s.heap.objs.size (Obj.mapSeq (· ++its.toArray))).objs.size= #[16]:=by
  rw[Heap.size_update,size_push']
 have K:(0,(((s.heap.push (21,#[],0)).update s.heap.objs.size (Obj.mapSeq (· ++its.toArray))).push (21,its.toArray,0)).get? #[16],(21,its.toArray,0)):=by
  rw[<-hsz];exact Heap.get?_push_size _ rfl
 have keep:∀b o,(0,s.heap.get? b,o)->(0,(((s.heap.push (21,#[],0)).update s.heap.objs.size (Obj.mapSeq (· ++its.toArray))).push (21,its.toArray,0)).get? b,o):=λb o q=>by
  have eH:b<s.heap.objs.size:=Heap.lt_size q;rw[Heap.get?_push_ne _ _ _ (by rw[hsz];exact Nat.ne_of_lt (Nat.lt_succ_of_lt eH)),Heap.get?_update_ne _ _ _ _ (Nat.ne_of_lt eH),Heap.get?_push_ne _ _ _ (Nat.ne_of_lt eH)];exact q
 have Np:(((s.heap.push (21,#[],0)).update s.heap.objs.size (Obj.mapSeq (· ++its.toArray))).push (21,its.toArray,0)).objs.size=s.heap.objs.size+2:=by rw[size_push',hsz]
 generalize T:((s.heap.push (21,#[],0)).update s.heap.objs.size (Obj.mapSeq (· ++its.toArray))).push (21,its.toArray,0)=h2 at K keep Np
 show wpAny _ _ _ _ _ {s with heap:=h2}
 dsimp only;rw[hsz]
 have I1:(20,H,{s with heap:=h2,toks:=s.toks}):=I.kept (t':=s.toks) keep;have G:Out X Z #[16]:=w4 I (Nat.le_succ _);have nD:(2,H #[16]):=I.bH.fresh (Nat.le_succ _);generalize s.heap.objs.size+1=a at K G nD;refine wpAny_bind (wpAny_holding (wpAny_call_entry_kw slot_list_sort ⟨_,K,rfl⟩ entry_list_sort ?body (ksk_l1 _ _)))
 case body=>
  show(40,X.A.in1.in1,Builtin.«list.sort» ⟨[.ref a],[(Str.ofString "key",.ref f)]⟩,_,_,_)
  rw[ksk_t1];have s1:=Heap.SameBut.update h2 a (Obj.mapSeq λ_=>(#[]:Array Value));obtain⟨O,v⟩:∃O,(0,(h2.update a (Obj.mapSeq λ_=>(#[]:Array Value))).get? a,(21,#[],O)):=⟨_,get?_update_seq K λ_=>#[]⟩
  have e:(20,H,{s with heap:=h2.update a (Obj.mapSeq λ_=>(#[]:Array Value)),toks:=s.toks}):=I1.turned (s:={s with heap:=h2,toks:=s.toks}) (h':=h2.update a (Obj.mapSeq λ_=>(#[]:Array Value))) (t':=s.toks) (it:=a) (λb u hb q=>(s1.2 b hb).trans q) nD G.l G.x G.c G.p
  have Xj:L2.Inv X ((a,(21,#[],O))::Z) σ H {s with heap:=h2.update a (Obj.mapSeq λ_=>(#[]:Array Value)),toks:=s.toks}:=e.hj λp hp=>by
   rcases List.mem_cons.mp hp with rfl|hp
   ·rw[4,v,nD,G.l,G.f,oO]
   ·exact(42,e.pin,p,hp)
  unfold ksk_tree;rw[0,(6,listItems_at K rfl ?_),(6,listUpdate_at K rfl ?_ (by simpa using j) (Nat.zero_le _))];rw[0,(6,seqEpoch_at v rfl ?_),(6,wpAny_newTuple ?_ (by simpa using j))];rw[0,(6,wpAny_newList ?_ (Nat.zero_le _)),wpAny_holding ?_];have k3:∀b u,(0,(h2.update a (Obj.mapSeq λ_=>(#[]:Array Value))).get? b,u)->(0,#[24].get? b,u):=λb u q=>(22,q)
  have i:=Xj.kept (h':=#[24]) (t':=s.toks) k3;have oK:=w4 i (Nat.le_refl _);have M:(2,H #[24].objs.size):=i.bH.fresh (Nat.le_refl _);have t:=i.kept (h':=#[24].push (21,#[],0)) (t':=s.toks) λb u q=>(22,q)
  have N:L2.Inv X ((#[24].objs.size,(21,#[],0))::(a,(21,#[],O))::Z) σ H {s with heap:=#[24].push (21,#[],0),toks:=s.toks}:=t.hj λp hp=>by
   rcases List.mem_cons.mp hp with rfl|hp
   ·rw[4,#[15],M,oK.l,oK.f,oO]
   ·exact(42,t.pin,p,hp)
  refine zM F hr hb lK N oK G rv rd Nk (10,rd.length,hz) (λw H' s' keys ws i1 i2 x z=>n w H' s' keys its ws i1 i2 x z rv) λH' s' c C A y i1 i2 x z E S P J=>?_
  have i9:(20,upd H' a (.lst A),{s' with heap:=s'.heap,toks:=s'.toks}):=Inv.FO i1 (G.fp x) (λb u _ q=>q) ⟨by
   have O:=J.length;have W:=E.length_eq;have g:=rd.length
   omega,C,c,P,z⟩
  rw[1,_,rfl,wpAny_pure ⟨_,rfl,.ref a,_,i9,rfl,h H' a A y i2 x E S J⟩]
end
section
open Classical in
noncomputable def grown(G H H':Hp):Hp:=λb=>if(2,H b)then H' b else G b
theorem Hs.grow(h:#[12])(sm:aO H H'):Hs K H0 σ Y (grown G H H') H'/\aO G (grown G H H'):=by
 have s1:aO G (grown G H H'):=λb u q=>by
  unfold grown;rw[2,if_neg (10,h.sub b u q,λz=>by cases z),q]
 have own:∀i p,At σ Y i p->H' p=H p:=λi p a=>by
  obtain⟨o,e,_⟩:=h.soft a;rw[2,e,sm p o e]
 refine⟨⟨h.len,h.base.trans s1,λb=>?_,λi d e=>?_,λi d e=>?_,λi p d e=>?_,h.ne⟩,s1⟩
 ·cases q:H b with
  |none=>
   refine .inl ⟨by unfold grown;rw[if_pos q],λi a=>?_⟩;obtain⟨o,e,_⟩:=h.soft a;rw[6,q]
  |some o=>
   have O:grown G H H' b=G b:=by unfold grown;rw[if_neg (10,q,λz=>by cases z)]
   rcases h.ex b with⟨c,B⟩|⟨c,B⟩
   ·exact .inl ⟨by rw[O,c,q,sm b o q],B⟩
   ·exact .inr ⟨(10,O,c),B⟩
 ·obtain⟨v,O,r⟩:=h.fr i d e
  rw[1,v,O,Rep.mono s1 _ _ r]
 ·obtain⟨p,O,o⟩:=h.ow i d e
  rw[1,p,O,o.mono s1 (own i p ⟨_,e,True.intro,O⟩)]
 ·obtain⟨O,o⟩:=h.lk i p d e
  rw[3,O,o.mono s1 (own i p ⟨_,e,True.intro,O⟩)]
end
abbrev SR:=List D->(D->D)->(1,(1,List D))
def vc(X:Cx)(S:SR):Prop:=∀ds kf R,S ds kf R-> ∀(σ:L2.St)(w:#[9])(H':Hp)(s':Shared)(keys its:#[5])(ws vs:List V),(11,L2.Inv X w σ H' s',Vals ws keys,aE X.K H' (ds.map kf) ws,Vals vs its,aE X.K H' ds vs->
 eB X.prog X.w X.A.in1.in1 s' keys.toArray its.toArray λC=>(59,keys.zip,C.toList))
def Nq:SR:=λds _ R=>ds.length<2/\R=λ_=>True
theorem BN:vc X Nq:=λds kf R⟨h,e⟩σ w H' s' keys its ws vs I r1 r2 i p E Q k=>by
 have hl:its.toArray.size<2:=by
  have h1:=i.length;have h2:=p.length;simp;omega
 exact oh hl E Q λst tk hp S _=>k st tk hp S λ_ _ _=>by rw[e];trivial
section
variable{k:Nat}{fx:Str}{te:RE}{p p2 kp:Pos}{S:SR}
def HY(S:SR)(sp:cN)(te:RE)(Y:#[0])(Q:(1,D)):Prop:=te Y λd=>match d with
 | .lst ds=>∃(kf:D->D)(R:List D->Prop),(∀d∈ds,sp [d] λr=>r=.val (kf d))/\S ds kf R/\ ∀y:List D,y.Perm ds->R y->Q (.lst y)
 |_=>False
theorem Ef(sr:vc X S)(F:dM X.prog X.w X.K X.mg X.base k fx sp)(hr:bT (k+2) X.A)(hm:(2,X.mg "sorted"))(ha:aS X H0 e te)(hg:Gl X "sorted":=by rfl)(Xk:Gl X fx:=by rfl)(j:(23,fx):=by decide)
(Xl:(51,[e],e,[]):=by rfl)
(he:backTo pos (starEach [e] X.env)=(false,eval e X.env)::backTo pos (starEach [] X.env):=by rfl)(b:(28,pos,[e]):=by rfl)
(W:(4,(backToKw pos (keywordEach [⟨some "key",.Name fx p2,kp⟩] X.env)).all (·.1.isSome)):=by rfl)(Xm:(backToKw pos (keywordEach [⟨some "key",.Name fx p2,kp⟩] X.env)).any (·.1.isNone)=false:=by rfl)
(Xn:(backToKw pos (keywordEach [⟨some "key",.Name fx p2,kp⟩] X.env)).filterMap (·.1)=[Str.ofString "key"]:=by rfl):
b' X H0 (.Call (.Name "sorted" p) [e] [⟨some "key",.Name fx p2,kp⟩] pos) (HY S sp te):=by
 obtain⟨f,fd,ps,F,o,hk,hb⟩:=F.ex;intro Z s σ H Q I⟨Y,G,Qd,hs,M,kk⟩;refine wpAny_Call_Name_kw (mU I hg hm rfl ?_ #[2] #[2])
 have g:bX X.K H0 te σ H (λv H'=>∃G' d,Nx X.K H0 σ Y G H G' H'/\Rep X.K G' d v/\(match d with| .lst ds=>∃(kf:D->D)(R:List D->Prop),(∀d∈ds,sp [d] λr=>r=.val (kf d))/\S ds kf R/\ ∀y:List D,y.Perm ds->R y->Qd (.lst y)|_=>False)):=
  ⟨Y,G,_,hs,M,λv H' G' d n r q=>⟨G',d,n,r,q⟩⟩
 have m:=cZ (te:=bX X.K H0 te) ha gj Xl
 refine callWith_kw (bK (m pos Z s σ H (λvs H'=>∃v,vs=[v]/\ ∃G' d,Nx X.K H0 σ Y G H G' H'/\Rep X.K G' d v/\(match d with| .lst ds=>∃(kf:D->D)(R:List D->Prop),(∀d∈ds,sp [d] λr=>r=.val (kf d))/\S ds kf R/\ ∀y:List D,y.Perm ds->R y->Qd (.lst y)|_=>False)) I ?_) λus s1⟨vs,H1,I1,r,v,h,G1,d,n,rd,q⟩=>?_) he b W Xm
 ·obtain⟨T,G',t,h1,h2,J⟩:=g
  exact⟨T,G',t,h1,h2,λv H' G2 d n r q=>⟨v,rfl,J v H' G2 d n r q⟩⟩
 ·subst h
  cases d with
  |lst ds=>
   obtain⟨kf,R,lK,C,B⟩:=q;simp only[Rep]at rd;obtain⟨l,vs,rfl,hl,c⟩:=rd
   cases r with
   |cons r1 r2=>
    cases r2;cases(show _=Value.ref l from r1);refine kws_cons (cc I1 Xk o (kws_nil ?_) j);rw[Xn]
    show wpAny _ _ (call (.builtin "sorted") [.ref l] [(Str.ofString "key",.ref f)]) _ _ _
    refine w5 F hr hb lK I1 (n.hs.sub.seq hl) (aE.mono n.hs.sub _ _ c) c (λw H' s' keys its ws i1 i2 x z E=>sr ds kf R C σ w H' s' keys its ws vs i1 x z E (aE.mono (n.hs.sub.trans i2) _ _ c)) λH' a A y sm hn hp hR i=>?_
    obtain⟨g1,g2⟩:=n.hs.grow sm;exact kk _ _ _ (.lst y) (g1.fresh hn ⟨A,aM,aE.mono g2 _ _ i⟩) (n.g.trans g2) ((n.h.trans sm).trans (bO hn)) (B y hp hR)
  |_=>exact q.elim
end
section
end
section
end
section
variable{a b:Expr}{B F:RE}
def KN(K:PySem.W.Frag):R2:=λx y H Q=>∃l b xs zs,(3,x,.ref l,y=.ref b,c_ K H l xs/\c_ K H b zs/\(8,xs.length+zs.length)/\ ∀p,(2,H p)->Q (.ref p) (upd H p (.lst (xs++zs))))
theorem Eg:f5 X (binaryOp .Add) (KN X.K):=by
 intro Z s σ H x y v u Q I L N h;obtain⟨l,b,xs,zs,rfl,rfl,hl,hb,hz,q⟩:=h;cases L;cases N;obtain⟨its,r,⟨⟨j,dd,p,sl⟩,n,ho,hc,hd,hs⟩,z⟩:=I.list hl;obtain⟨m,r2,⟨⟨i,g,data2,o⟩,P,c,a,f,d⟩,k⟩:=I.list hb;simp only at hc hd hs a f d;subst hc hd hs a f d;have e:its.toArray++m.toArray=(its++m).toArray:=by simp
 have l1:=r.length;have l2:=r2.length;refine concat_meets ⟨_,ho,rfl⟩ ⟨_,c,rfl⟩ noFill_list_add seq_list_add PySem.F.slot_list_add PySem.F.entry_list_add (PySem.F.args_list_add_2 _ _) (list_addW l b its.toArray m.toArray n P none none sl o (by simp;omega)) ⟨ho,c,?_⟩;rw[2,e,⟨.ref _,_,I.Hk (t':=s.toks) (r.append r2) (by rw[List.length_append];omega),rfl,q _ I.fresh⟩]
def FP(B F:RE)(Y:#[0])(Q:(1,D)):Prop:=B Y λx=>F Y λy=>match x,y with
 | .lst xs,.lst ys=>(8,xs.length+ys.length)/\Q (.lst (xs++ys))
 |_,_=>False
theorem yB(ha:dJ X H0 a B)(hb:dJ X H0 b F):b' X H0 (.BinOp a .Add b pos) (FP B F):=
 (50,AU Eg ha hb,⟨Y,G1,_,n1.hs,q1,λv2 H2 G2 l P r2 q2=>by
  cases d with
  |lst xs=>
   cases l with
   |lst ys=>
    obtain⟨hz,q⟩:=q2;obtain⟨a,vs,rfl,h2,J⟩:=r1.mono P.g P.h;obtain⟨b,ws,rfl,g2,C⟩:=r2;refine⟨a,b,vs,ws,rfl,rfl,h2,g2,by rw[<-J.length,<-C.length];exact hz,λp hp=>k _ _ G2 (.lst (xs++ys)) (P.hs.fresh hp ⟨_,aM,aE.append J C⟩) (n1.trans P).g ((n1.trans P).h.trans (bO hp)) q⟩
   |_=>exact q2.elim
  |_=>exact q2.elim⟩)
variable{x:Str}{p w aU:Pos}
end
def w6(K:PySem.W.Frag)(H:Hp)(vs:List V)(ds:List D)(R:(1,List D))(X:Cx):Prop:=∀(A:Around)(σ:L2.St)(Z:#[9])(s:Shared)(its:#[5]),(20,H,s)->Vals vs its->
 eB X.prog X.w A s its.toArray its.toArray λC=>(59,its.zip,C.toList)
theorem HZ{α β γ:Type}:∀(ds:List α)(vs:List β)(us:List γ),ds.length=vs.length->vs.length=us.length->(ds.zip (vs.zip us)).map (λq=>(q.1,q.2.2,q.2.2))=ds.zip (us.zip us)
 |[],[],[],_,_=>rfl
 |_::ds,_::vs,_::us,h1,h2=>by simp[HZ ds vs us (by simpa using h1) (by simpa using h2)]
 |[],_::_,_,h,_=>by cases h
 |_::_,[],_,h,_=>by cases h
 |_,[],_::_,_,h=>by cases h
 |_,_::_,[],_,h=>by cases h
theorem FQ{α β γ:Type}:∀(ds:List α)(vs:List β)(us:List γ),ds.length=vs.length->vs.length=us.length->(ds.zip (vs.zip us)).map (λq=>(q.1,q.2.1))=ds.zip vs
 |[],[],[],_,_=>rfl
 |_::ds,_::vs,_::us,h1,h2=>by simp[FQ ds vs us (by simpa using h1) (by simpa using h2)]
 |[],_::_,_,h,_=>by cases h
 |_::_,[],_,h,_=>by cases h
 |_,[],_::_,_,h=>by cases h
 |_,_::_,[],_,h=>by cases h
section
theorem kP{x:Value}{Q:VK}(c:ds.length=vs.length)(hz:(8,vs.length))
(col:∀(A:Around)(Q':(18,#[5]))(w:#[8]),A.handled=X.A.handled->(∀its s1,(20,H,s1)->Vals vs its->Q' its s1)->wpAny (model X.prog X.w) A (collect x) Q' w s)(n:w6 X.K H vs ds R X)
(h:∀a(L:(5,D,V)),(2,H a)->L.Perm (ds.zip vs)->R (L.map (·.1))->Q (.ref a) (upd H a (.lst (L.map (·.2))))):
(30,call (.builtin "sorted") [x],EP X Z σ Q):=by
 refine Calls.call_function_entry kind_sorted plain_sorted entry_sorted (args_sorted1 _) ?_;unfold Builtin.«sorted»;rw[0,wpAny_bind (m:=checkCount "sorted" 1 1 _) (wpAny_pure ?_),(6,col _ _ _ rfl λits s I rv=>?_)];have j:=rv.length;have l:(8,its.length):=(26,rv.length,hz)
 refine(6,wpAny_newList ?_ l);have K:(0,(s.heap.push (21,its.toArray,0)).get? s.heap.objs.size,(21,its.toArray,0)):=#[15];have keep:∀b o,(0,s.heap.get? b,o)->(0,(s.heap.push (21,its.toArray,0)).get? b,o):=λb o q=>(22,q)
 have G:Out X Z s.heap.objs.size:=w4 I (Nat.le_refl _);have nD:(2,H s.heap.objs.size):=I.bH.fresh (Nat.le_refl _);generalize T:s.heap.push (21,its.toArray,0)=h2 at K keep
 show wpAny _ _ _ _ _ {s with heap:=h2}
 dsimp only
 have I1:(20,H,{s with heap:=h2,toks:=s.toks}):=I.kept (t':=s.toks) keep;generalize s.heap.objs.size=a at K G nD;refine wpAny_bind (wpAny_holding (wpAny_call_entry slot_list_sort ⟨_,K,rfl⟩ entry_list_sort ?body (args_list_sort _)))
 case body=>
  rw[list_sort_plain];have s1:=Heap.SameBut.update h2 a (Obj.mapSeq λ_=>(#[]:Array Value));obtain⟨O,v⟩:∃O,(0,(h2.update a (Obj.mapSeq λ_=>(#[]:Array Value))).get? a,(21,#[],O)):=⟨_,get?_update_seq K λ_=>#[]⟩
  have d:(20,H,{s with heap:=h2.update a (Obj.mapSeq λ_=>(#[]:Array Value)),toks:=s.toks}):=I1.turned (s:={s with heap:=h2,toks:=s.toks}) (h':=h2.update a (Obj.mapSeq λ_=>(#[]:Array Value))) (t':=s.toks) (it:=a) (λb u hb q=>(s1.2 b hb).trans q) nD G.l G.x G.c G.p;rw[0,(6,listItems_at K rfl ?_),(6,listUpdate_at K rfl ?_ (by simpa using l) (Nat.zero_le _))];rw[0,(6,seqEpoch_at v rfl ?_),(6,wpAny_newTuple ?_ (by simpa using l))];rw[0,(6,wpAny_newList ?_ (Nat.zero_le _)),wpAny_holding ?_];have i:=d.kept (h':=#[24]) (t':=s.toks) λb u q=>(22,q)
  have J:=i.kept (h':=#[24].push (21,#[],0)) (t':=s.toks) λb u q=>(22,q)
  have LQ:(0,(#[24].push (21,#[],0)).get? a,(21,#[],O)):=Heap.get?_push_of_some _ (Heap.get?_push_of_some _ v);generalize hh6:#[24].push (21,#[],0)=h6 at J LQ
  show wpAny _ _ _ _ _ {s with heap:=h6}
  dsimp only;have t:=λ(A:Around)=>n A σ Z _ its J rv
  have BO:∀(A:Around)(E:#[8])(st:SortSt)(tk:Nat),(arrOf st).Perm (its.toArray.zip its.toArray)->(2,failedOf st)->(59,its.zip,(arrOf st).toList)->
    ∀{P:(18,PySem.Fin)},(∀s',EP X Z σ Q (.ref a) s'->P (.done (.ret .none)) s')->(40,A,do
     let touched:=(<-seqEpoch a) !=O
     Builtin.List.listUpdate (.ref a) λ_=>(arrOf st).map (·.2)
     if let some e:=failedOf st then rule "list.sort.comparison-raised";throw e
     if touched then rule "list.sort.modified";raiseError "ValueError" "list modified during sort"
     ret .none,P,E,{s with heap:=h6,toks:=tk}):=by
   intro A E st tk hp S hR P B;have cU:(arrOf st).toList.Perm (its.zip its):=by
    have:=Array.perm_iff_toList_perm.mp hp
    simpa using this
   have HX:(ds.zip (vs.zip its)).map (λq=>(q.2.2,q.2.2))=its.zip its:=by
    have:=congrArg (List.map Prod.snd) (HZ ds vs its c j);rw[List.map_map,List.map_snd_zip (by rw[List.length_zip];omega)]at this;exact this
   obtain⟨L,pL,eL⟩:=hL (λq:D×V×Value=>(q.2.2,q.2.2)) cU (ds.zip (vs.zip its)) HX.symm;have TR:R (L.map (·.1)):=by
    have:=hR (L.map λq=>(q.1,q.2.2,q.2.2)) (by rw[<-HZ ds vs its c j];exact pL.map _) (10,List.map_map,eL);rw[List.map_map]at this;exact this
   obtain⟨C,k⟩:∃C:Array Value,C=(arrOf st).map (·.2):=⟨_,rfl⟩;have Xo:(8,C.size):=by
    rw[k,Array.size_map,<-Array.length_toList,cU.length_eq,List.length_zip];omega
   have TU:C.toList=L.map λq=>q.2.2:=by
    rw[k,Array.toList_map,eL,List.map_map];rfl
   rw[<-k];rw[0,(6,seqEpoch_at LQ rfl ?_),(6,listUpdate_at (f:=λ_=>C) LQ rfl ?_ (Nat.zero_le _) (Nat.le_succ_of_le Xo))];rw[S];simp only[bne_self_eq_false,Bool.false_eq_true,if_false];have s2:=Heap.SameBut.update h6 a (Obj.mapSeq λ_=>C);obtain⟨F,N⟩:∃F,(0,(h6.update a (Obj.mapSeq λ_=>C)).get? a,(21,C,F)):=⟨_,get?_update_seq LQ λ_=>C⟩;have Nl:Vals (L.map λq=>q.2.1) (L.map λq=>q.2.2):=by
    have W:∀(cs:List V)(bs:#[5])(as:List D),Vals cs bs-> ∀q∈as.zip (cs.zip bs),L2.RelV q.2.1 q.2.2:=by
     intro cs bs as r
     induction r generalizing as with
     |nil=>intro q hq;simp at hq
     |cons r1 r2 ih=>
      intro q hq
      cases as with
      |nil=>simp at hq
      |cons x as=>
       rcases List.mem_cons.mp hq with rfl|hq
       ·exact r1
       ·exact ih as q hq
    have hq:∀q∈L,L2.RelV q.2.1 q.2.2:=λq hq=>W vs its ds rv q (pL.mem_iff.mp hq)
    clear TR TU eL pL
    induction L with
    |nil=>exact .nil
    |cons q L ih=>exact .cons (hq q (.head _)) (ih λq Nm=>hq q (.tail _ Nm))
   have ll:(8,(L.map λq=>q.2.1).length):=by
    rw[List.length_map,pL.length_eq,List.length_zip,List.length_zip];omega
   have I9:(20,upd H a (.lst (L.map λq=>q.2.1)),{s with heap:=h6.update a (Obj.mapSeq λ_=>C),toks:=tk}):=
    Inv.FO (s:={s with heap:=h6,toks:=s.toks}) J (G.fp nD) (λb u hb q=>(s2.2 b hb).trans q) ⟨ll,L.map λq=>q.2.2,F,Nl,by rw[N,<-TU]⟩
   refine wpAny_pure (B _ ⟨.ref a,_,I9,rfl,?_⟩);have:=h a (L.map λq=>(q.1,q.2.1)) nD (by rw[<-FQ ds vs its c j];exact pL.map _) (10,List.map_map,TR);rw[List.map_map]at this;exact this
  by_cases M:its.toArray.size<2
  ·have g1:=t X.A.in1.in1 X.xe
   simp only[if_pos M]at g1⊢;refine(6,wpAny_mono (g1 (λp s2=>(40,_,_,_,_,s2)) λst tk p1 p2 g=>BO _ _ st tk p1 p2 g λs' y=>⟨_,rfl,wpAny_pure ⟨_,rfl,y⟩⟩) (λκ s1 h1=>(6,wpAny_mono h1 (λp s2 h2=>h2) λ_ _ z=>z)) λ_ _ z=>z)
  ·have g1:=t X.A.in1.in1 X.xe
   simp only[if_neg M]at g1⊢;refine(6,wpAny_mono (g1 (λp s2=>(40,_,_,_,_,s2)) λst tk p1 p2 g=>BO _ _ st tk p1 p2 g λs' y=>⟨_,rfl,wpAny_pure ⟨_,rfl,y⟩⟩) (λκ s1 h1=>(6,wpAny_mono h1 (λp s2 h2=>h2) λ_ _ z=>z)) λ_ _ z=>z)
theorem tG{l:Addr}{Q:VK}(I:(20,H,s))(hl:c_ X.K H l vs)(c:ds.length=vs.length)(n:w6 X.K H vs ds R X)
(h:∀a(L:(5,D,V)),(2,H a)->L.Perm (ds.zip vs)->R (L.map (·.1))->Q (.ref a) (upd H a (.lst (L.map (·.2))))):
(30,call (.builtin "sorted") [.ref l],EP X Z σ Q):=by
 obtain⟨its,rv,pl,hz⟩:=I.list hl;refine kP c hz (λA Q' w _ k=>collect_list pl.isList (k its _ (I.kept (t':=s.toks) λb o q=>?_) rv) (26,rv.length,hz)) n h;have eH:b<s.heap.objs.size:=Heap.lt_size q;rw[Heap.get?_update_ne _ _ _ _ (Nat.ne_of_lt eH),Heap.get?_push_ne _ _ _ (Nat.ne_of_lt eH)];exact q
end
inductive je:(7,#[5],List Key)
 |nil:je [] []
 |int(n:Int)(t:Tok){vs ks}:je vs ks->je (.int n t::vs) (.inl n::ks)
 |str(x:Str)(t:Tok){vs ks}:je vs ks->je (.str x t::vs) (.inr x::ks)
section
end
section
end
section
variable{es:#[4]}{tr:RA}{p:Pos}
end
section
theorem Hs.FR(h:#[12]){d:D}{l':Sl}(e:(0,Y[i]?,l))(m:l.fq)(Q:l'=.lk p d\/l'=.ow d)(es:(0,σ[i]?,some (.ref p)))(o:Own K G H p d):Hs K H0 σ (Y.set i l') G H:=by
 have hi:i<Y.length:=(33,e).1
 have n:l'.fq:=by rcases Q with rfl|rfl<;>exact True.intro
 have ae:∀j q,At σ (Y.set i l') j q↔At σ Y j q:=λj q=>by
  unfold At
  by_cases g:j=i
  ·subst g
   rw[List.getElem?_set_self hi,e]
   constructor
   ·rintro⟨_,z,_,f⟩;exact⟨l,rfl,m,f⟩
   ·rintro⟨_,z,_,f⟩;exact⟨l',rfl,n,f⟩
  ·rw[List.getElem?_set_ne (λz=>g z.symm)]
 have at':∀(j:Nat)(x:Sl),(0,(Y.set i l')[j]?,x)->(j=i/\x=l')\/(0,Y[j]?,x):=λj x z=>by
  by_cases g:j=i
  ·subst g
   rw[List.getElem?_set_self hi]at z;exact .inl ⟨rfl,(Option.some.inj z).symm⟩
  ·rw[List.getElem?_set_ne (λz=>g z.symm)]at z;exact .inr z
 refine⟨(10,List.length_set,h.len),h.base,λb=>?_,λj x z=>?_,λj x z=>?_,λj q x z=>?_,λj k q a1 a2=>h.ne j k q ((ae j q).mp a1) ((ae k q).mp a2)⟩
 ·rw[15]
  ·exact .inl ⟨c,λj a=>B j ((ae j b).mp a)⟩
  ·exact .inr ⟨c,j,(ae j b).mpr B⟩
 ·rcases at' j _ z with⟨_,z⟩|z
  ·rcases Q with y|y<;>rw[y]at z<;>cases z
  ·exact h.fr j x z
 ·rcases at' j _ z with⟨g,B⟩|B
  ·subst g
   rcases Q with y|y
   ·rw[y]at B;cases B
   ·rw[y]at B;injection B with B;subst B;rw[1,p,es,o]
  ·exact h.ow j x B
 ·rcases at' j _ z with⟨g,B⟩|B
  ·subst g
   rcases Q with y|y
   ·rw[y]at B;injection B with B f;subst B;subst f;rw[3,es,o]
   ·rw[y]at B;cases B
  ·exact h.lk j q x B
end
def pE(i:Nat)(p:Addr)(b:List D)(g:RG)(F:RS)(E:bC):(7,List D,#[0])
 |[],Y=>(0,Y[i]?,.lk p (.lst b))/\E.nx (Y.set i (.ow (.lst b)))
 |d::r,Y=>(0,Y[i]?,.lk p (.lst b))/\g d Y λa=>F {nx:=λl=>∃j,Fg l j/\pE i p b g F E r j,rt:=E.rt,bk:=λl=>(0,l[i]?,.lk p (.lst b))/\E.nx (l.set i (.ow (.lst b))),ct:=λl=>∃j,Fg l j/\pE i p b g F E r j} a
theorem pE.at{b:List D}{g:RG}{F:RS}{E:bC}:∀{ds:List D}{Y:#[0]},pE i p b g F E ds Y->(0,Y[i]?,.lk p (.lst b))
 |[],_,h=>h.1
 |_::_,_,h=>h.1
def FT(i:Nat)(g:RG)(F:RS)(E:bC)(Y:#[0]):Prop:=match Y[i]? with
 |some (.ow (.lst ds))=>∀p,pE i p ds g F E ds (Y.set i (.lk p (.lst ds)))
 |_=>False
section
variable{tg:Expr}{g:RG}{body:List Stmt}{F:RS}{p:Pos}{x:Str}
theorem H3(i:Nat)(hp:PassesOwn (model X.prog X.w) X.A X.env X.xe)(hc:(4,X.calm))(hg:wq X H0 tg g)(hb:e3 X H0 body F)(hN:(0,X.N[i]?,x):=by rfl)(hv:qL X.env.scope x:=by first|exact Or.inl rfl|exact Or.inr (Or.inl rfl)|exact Or.inr (Or.inr rfl))(hd:(23,x):=by decide)
(W:#[21]:=by decide)(hs:∀y,foldedSetIterable (.Name x p) X.env y=pure y:=by intro _;rfl):
i8 X H0 (.For tg (.Name x p) body [] pos) (FT i g F):=
 PS.weak (mY hp hc (f3 (eD hN hv hd W)) hg hb hs) λD σ H⟨Y,G,E,hs,M,go⟩=>by
  unfold FT at M
  split at M
  ·rename_i ds e0
   obtain⟨a,O,vs,h1,h2⟩:=hs.ow i _ e0;have v:=hs.FR (l':=.lk a (.lst ds)) e0 True.intro (.inl rfl) O ⟨vs,h1,h2⟩;have q1:=M a;have back:∀{L:L2.St}{T:#[0]}{G' H':Hp},Hs X.K H0 L T G' H'->(0,T[i]?,.lk a (.lst ds))->Hs X.K H0 L (T.set i (.ow (.lst ds))) G' H':=λh' z=>by
    obtain⟨c,B⟩:=h'.lk i a _ z;exact h'.FR (l':=.ow (.lst ds)) z True.intro (.inr rfl) c B
   rw[0,⟨.ref a,O,a,rfl,⟨vs,c_.of h1⟩,?_⟩,⟨λk m L H'=>(3,m,ds.length-k,k<=ds.length,∃T G',Hs X.K H0 L T G' H'/\aO G G'/\pE i a ds g F E (ds.drop k) T),⟨ds.length,by simp,Nat.zero_le _,_,G,v,aO.refl _,q1⟩,?_⟩];rintro k m L H'⟨rfl,hk,T,G',h',s',q'⟩;obtain⟨_,t,c,B⟩:=h'.lk i a _ q'.at;have o:=B.length
   by_cases eH:k<ds.length
   ·have b:k<t.length:=#[3]
    refine .inr ⟨⟨t,t[k],c_.of c,by simp[b]⟩,λf H2=>∃l G2,Hs X.K H0 f l G2 H2/\aO G G2/\pE i a ds g F E (ds.drop (k+1)) l,λf H2 h2=>⟨ds.length-(k+1),#[3],rfl,#[3],h2⟩,λx H2 y=>?_⟩;obtain⟨rfl,y⟩:=y;have ex:=y t (c_.of c);obtain⟨d,s,rd⟩:=B.J8 ex;have w:ds[k]=d:=by
     have:=List.getElem?_eq_getElem eH;rw[this]at s;exact Option.some.inj s
    rw[List.drop_eq_getElem_cons eH,w]at q';exact⟨T,G',d,_,h',rd,q'.2,λf H2 l G2 r s2 q2=>⟨l,G2,_,r,q2,⟨λq A j K u s3⟨h,f4,n⟩=>⟨h,K,u.forget f4,(s'.trans s2).trans s3,n⟩,go.rt,λq A j K u s3 n=>go.nx q A _ K (back u n.1) ((s'.trans s2).trans s3) n.2,λq A j K u s3⟨h,f4,n⟩=>⟨h,K,u.forget f4,(s'.trans s2).trans s3,n⟩⟩⟩⟩
   ·have e:k=ds.length:=#[3]
    subst e;rw[List.drop_length]at q';exact .inl ⟨⟨t,c_.of c,#[3]⟩,go.nx L H' _ G' (back h' q'.1) s' q'.2⟩
  ·exact M.elim
end
section
variable{h':Heap}
theorem kQ{ch:List Addr}(I:(20,H,s))(S:∀b∈ch,fF X Z H b)(k:∀b o,b∉ch->(0,s.heap.get? b,o)->(0,h'.get? b,o)):(20,H,{s with heap:=h',toks:=t'}):=by
 have A:∀b u,(0,H b,u)->b∉ch:=λb u e z=>by rw[6,(S b z).1]
 refine I.step (g':=s.gens) (d':=s.drawn) (ch:=ch) (λb hb=>?_) (λb o _ _ hc e _=>k b o hc e) (λb o _ _ hc e _=>⟨o.slots,k b o hc e⟩) (λ_ _ _ _ n=>n)
  (λb o hc e=>⟨o,k b o hc e⟩) (λ_ _ e=>e) (λ_ _ _ e=>e) (λb ps e=>⟨#[],by rw[e];simp⟩) (λm hm=>?_) (λb u e=>?_) I.bare
 ·obtain⟨D,l,R,j,f4,N⟩:=S b hb
  exact⟨j,l,f4,N⟩
 ·obtain⟨o,es,ep,ho,r⟩:=hm
  rw[4,o,es,ep,k _ o (λz=>(S _ z).2.1 rfl) ho,r]
 ·refine(I.bH b u e).km (λc v hc q=>k c v ?_ q) (λ_ q=>q) λ_ _ q=>q
  rcases hc with z|z
  ·rw[2,z,A b u e]
  ·exact A c _ z
theorem w8{ch:List Addr}(I:(20,H,s))(S:∀b∈ch,fF X Z H b)(k:∀b o,b∉ch->(0,s.heap.get? b,o)->(0,h'.get? b,o))
(hz:(8,vs.length))(rv:Vals vs us)(O:(0,h'.get? s.heap.objs.size,{cls:=.type "tuple",data:=.seq us.toArray})):(20,upd H s.heap.objs.size (.tup vs),{s with heap:=h',toks:=t'}):=by
 have fr:(2,H s.heap.objs.size):=I.bH.fresh (Nat.le_refl _);have A:∀b u,(0,H b,u)->b∉ch:=λb u e z=>by rw[6,(S b z).1]
 refine I.step (g':=s.gens) (d':=s.drawn) (ch:=ch) (h':=h') (t':=t') (λb hb=>?_) (λb o _ _ hc M _=>?_) (λb o _ _ hc M _=>⟨o.slots,?_⟩) (λb o hc M n=>?_) (λb o hc M=>⟨o,?_⟩) (λb ys q=>?_) (λb o u' q=>?_) (λb ps q=>⟨#[],?_⟩) (λm hm=>?_) (λb o q=>?_) I.bare
 ·obtain⟨D,l,R,j,f4,N⟩:=S b hb
  exact⟨j,l,f4,N⟩
 ·exact k b o hc M
 ·exact k b o hc M
 ·rw[2,aI (Nat.ne_of_lt (Heap.lt_size M)),n]
 ·exact k b o hc M
 ·rw[2,aI (aK q fr),q]
 ·rw[2,aI (aK q fr),q]
 ·rw[aI (aK q fr),q];simp
 ·obtain⟨o,es,ep,f,r⟩:=hm
  rw[4,o,es,ep,k _ o (λz=>(S _ z).2.1 rfl) f,r]
 ·by_cases hb:b=s.heap.objs.size
  ·subst hb
   rw[aM]at q;cases q;exact⟨hz,us,rv,⟨_,O,rfl,_,rfl⟩⟩
  ·rw[aI hb]at q
   refine(I.bH b o q).km (λc v hc z=>?_) (λc z=>?_) (λc ys z=>?_)
   ·rcases hc with y|y
    ·rw[y]at z⊢;exact k b v (A b _ q) z
    ·exact k c v (A c _ y) z
   ·rw[2,aI (aK z fr),z]
   ·rw[2,aI (aK z fr),z]
end
section
def vd:List D->List D->List D
 |x::xs,y::ys=>.tup [x,y]::vd xs ys
 |_,_=>[]
theorem ve:∀{i:Nat}{xs ys:List D}{d:D},(0,(vd xs ys)[i]?,d)-> ∃x y,(0,xs[i]?,x)/\(0,ys[i]?,y)/\d=.tup [x,y]
 |_,[],_,_,h=>by simp[vd]at h
 |_,_::_,[],_,h=>by simp[vd]at h
 |0,x::xs,y::ys,d,h=>⟨x,y,rfl,rfl,(Option.some.inj h).symm⟩
 |i+1,x::xs,y::ys,d,h=>ve (i:=i) (xs:=xs) (ys:=ys) h
theorem vf:∀(xs ys:List D),xs.length<=(vd xs ys).length\/ys.length<=(vd xs ys).length
 |[],_=>.inl (Nat.zero_le _)
 |_::_,[]=>.inr (Nat.zero_le _)
 |_::xs,_::ys=>(vf xs ys).imp Nat.succ_le_succ Nat.succ_le_succ
variable{ts:#[4]}{k:Nat}{tp p c:Pos}{a b:Expr}{tr:RA}{g:RG}{F:RS}{body:List Stmt}
end
section
def Xp:Value->Option V
 | .none=>some .bu
 | .bool b=>some (.bl b)
 | .int i _=>some (.int i)
 | .str x _=>some (.str x)
 | .bytes b _=>some (.wu b)
 | .float b _=>some (.Gp b)
 | .ref a=>some (.ref a)
 | .type n=>some (.ty n)
 |_=>none
theorem yC(h:L2.RelV v u):(0,Xp u,v):=by
 cases v<;>first|(obtain⟨t,rfl⟩:=h;rfl)|(cases h;rfl)
theorem BP{l:V}(h:L2.RelV v u)(h':L2.RelV l u):v=l:=Option.some.inj ((yC h).symm.trans (yC h'))
def inD(x:D)(ys:List D):Bool:=ys.any λy=>eV y x
noncomputable def JD(K:PySem.W.Frag)(H:Hp)(x:D)(ds:List D)(u:Value):Bool:=@decide (∃d∈ds,∃v,Rep K H d v/\L2.RelV v u/\(4,eV d x)) (Classical.propDecidable _)
theorem BQ(I:(20,H,s)){x d:D}(hp:(4,ds.all (aN 50)))(hd:d∈ds)(r:Rep X.K H d v)(ru:L2.RelV v u):JD X.K H x ds u=eV d x:=by
 unfold JD;rw[List.all_eq_true]at hp
 cases e:eV d x with
 |true=>exact @decide_eq_true _ (Classical.propDecidable _) ⟨d,hd,v,r,ru,e⟩
 |false=>
  refine @decide_eq_false _ (Classical.propDecidable _) λ⟨d',b,l,r',a,M⟩=>?_
  rw[BP a ru]at r';rw[yy I 50 d' d v (hp d' b) (hp d hd) r' r,e]at M;cases M
theorem vg{K:PySem.W.Frag}:∀{ds:List D}{ys:List V}{its:#[5]},aE K H ds ys->L2.Vals ys its-> ∀u∈its,∃d∈ds,∃v,Rep K H d v/\L2.RelV v u
 |[],_,_,h,r,u,hu=>by
  simp only[aE]at h;subst h;cases r;cases hu
 |d::ds,_,_,h,r,u,hu=>by
  simp only[aE]at h;obtain⟨v,t,rfl,h1,h2⟩:=h
  cases r with
  |cons ru rt=>
   rcases List.mem_cons.mp hu with rfl|hu
   ·rw[4,d,.head _,v,h1,ru]
   ·obtain⟨d',m,l,a,b⟩:=vg h2 rt u hu
    rw[4,d',.tail _ m,l,a,b]
theorem yD(I:(20,H,s)){x:D}{all:List D}(hp:(4,all.all (aN 50))):∀{ds:List D}{ys:List V}{its:#[5]},(∀d∈ds,d∈all)->aE X.K H ds ys->L2.Vals ys its->its.any (JD X.K H x all)=inD x ds
 |[],_,_,_,h,r=>by
  simp only[aE]at h;subst h;cases r;rfl
 |d::ds,_,_,m,h,r=>by
  simp only[aE]at h;obtain⟨v,t,rfl,h1,h2⟩:=h
  cases r with
  |cons ru rt=>
   unfold inD;rw[List.any_cons,List.any_cons,BQ I hp (m d (.head _)) h1 ru];exact congrArg (eV d x|| ·) (yD I hp (λd' a=>m d' (.tail _ a)) h2 rt)
def KO(K:PySem.W.Frag)(neg:Bool):R2:=λx y H Q=>∃d p ds ys,(3,aN 50 d,true,(4,ds.all (aN 50)),Rep K H d x/\y=.ref p/\c_ K H p ys/\aE K H ds ys/\Q (.bl (neg !=inD d ds)) H)
theorem H4(hu:X.A.units+64<cLine):f5 X (compareOp .In) (KO X.K false):=by
 intro Z s σ H x y v u Q I L N h;obtain⟨d,p,ds,ys,f,c,rd,rfl,hq,e,q⟩:=h;cases N;obtain⟨its,r,pl,hz⟩:=I.list hq;refine SeqAt.in_listAt (JD X.K H d ds) pl.isList (λw hw=>?_) ⟨.bl _,H,I,rfl,?_⟩
 ·obtain⟨d',b,l,r',a⟩:=vg e r w (by simpa using hw)
  rw[BQ I c b r' a];rw[List.all_eq_true]at c;exact(tu I 50 X.A.in1 d' d l x w v (by have:X.A.in1.units<=X.A.units+1:=(by first|exact Nat.le_refl _|simp[Around.in1]);omega) (c d' b) f r' rd a L).2
 ·rw[show its.toArray.any (JD X.K H d ds)=its.any (JD X.K H d ds)by simp,yD I c (λ_ z=>z) e r]
  simpa using q
def Nr(neg:Bool)(x y:D)(Q:(1,D)):Prop:=match y with
 | .lst ys=>(4,aN 50 x)/\(4,ys.all (aN 50))/\Q (.bl (neg !=inD x ys))
 |_=>False
theorem H_:i7 K (KO K neg) (Nr neg):=λH0 σ Y G H x y T l Qd Q hs L N h k=>by
 cases l with
 |lst ys=>
  have r:=N.all hs.sub;simp only[Rep]at r;obtain⟨a,vs,rfl,h2,J⟩:=r;exact⟨T,a,ys,vs,h.1,h.2.1,L.all hs.sub,rfl,h2,J,(52,h.2.2)⟩
 |_=>exact h.elim
variable{es:#[4]}{tr:RA}{p:Pos}
variable{k:Nat}{x:Str}{sp:AE}{b1 b2:List Stmt}{t u:RS}{p2 g l:Pos}
end
def a_(X:Cx)(U:Scope)(N':#[1])(s3:Shared)(A:Hp)(C:Addr)(f:(5,Str,Addr))(fp:List Addr):Cx:=
  {X with N:=N',ey:=s3,wx:=A,env:=compEnvC U f C X.env,outer:=X.stack,ex:=fp,fn:=λ_=>false,pn:=[],xe:=λ_ _=>False}
section
variable{N':#[1]}{C:Addr}{f:(5,Str,Addr)}{fp:List Addr}
structure BR(X:Cx)(U:Scope)(f:(5,Str,Addr)):Prop where
 sub:∀x c,(0,f.lookup x,c)->(0,X.env.cells.lookup x,c)
 has:∀x,((0,(relabel U X.env).names.lookup x,.cell)\/(0,(relabel U X.env).names.lookup x,.free))-> ∃c,(0,f.lookup x,c)
theorem Eh(I:(20,H,s))(hc:(4,X.calm))(hk:U.kind=.function)(l:BR X U f)(hC:s.heap.objs.size<=C)(S:∀b∈fp,fF X Z H b)(hb:∀b∈fp,b<s.heap.objs.size):
(a_ X U N' s H C f fp).Ok where
 mod:=I.ok.mod
 kind:=hk
 glob:=I.ok.glob
 blt:=I.ok.blt
 above:=hC
 inj:=λx y c O W=>I.ok.inj x y c (l.sub x c O) (l.sub y c W)
 has:=λx h=>l.has x h
 E':=λx c h=>by cases h
 hd:=λ_=>I.ok.hd hc
 frames:=I.ok.frames
 Gr:=.inl rfl
 Gs:=λb G=>⟨Nat.ne_of_lt (Nat.lt_of_lt_of_le (hb b G) hC),λx c e=>(S b G).2.2.2.2.1 x c (l.sub x c e)⟩
 bs:=I.bs
 x6:=Nat.le_trans I.ok.x6 I.sz
 uH:=λb o e G=>by
  rcases(S b G).2.2.2.1 with z|z
  ·exact I.ok.uH b o e z
  ·exact absurd (Nat.lt_of_lt_of_le (Heap.lt_size e) (Nat.le_trans I.ok.x6 z)) (Nat.lt_irrefl _)
 sN:=λb G z=>by
  rcases List.mem_cons.mp (I.wy b z)with e|e
  ·exact(S b G).2.1 e
  ·exact(S b G).2.2.1 e
 i3:=I.stack
 AA:=I.oE
def yE(X:Cx)(U:Scope)(nT:Nat)(N':#[1]):Prop:=
 (3,N'.length,nT+1+X.N.length,∀x,(0,N'[nT]?,x)-> ¬qL (relabel U X.env) x,∀(j:Nat)(x:Str),(0,N'[nT+1+j]?,x)->qL (relabel U X.env) x->(0,X.N[j]?,x)/\(0,X.env.kindOf x,.cell)/\((0,(relabel U X.env).names.lookup x,.cell)\/(0,(relabel U X.env).names.lookup x,.free)))
theorem vh{nT:Nat}{D:Addr}{h1:Heap}(I:(20,H,s))(hc:(4,X.calm))(hk:U.kind=.function)(l:BR X U f)(hC:s.heap.objs.size<=C)(S:∀b∈fp,fF X Z H b)(hb:∀b∈fp,b<s.heap.objs.size)
(BS:yE X U nT N')(k:∀b o,(0,s.heap.get? b,o)->(0,h1.get? b,o))(ns:h1.Ns C λ_=>none):
L2.Inv (a_ X U N' s H C f fp) [] (List.replicate nT none++some (.ref D)::σ) H {s with heap:=h1,toks:=t'}:=by
 refine⟨Eh I hc hk l hC S hb,rfl,I.bare,Un.kept k,⟨_,ns,λi x v O W hv=>?_⟩,λx c e=>?_,I.bH.fresh hC,λx c e=>I.fj x c (l.sub x c e),(λp hp=>nomatch hp),I.bH.kept k,?_⟩
 ·obtain⟨n,g,w⟩:=BS
  rcases Nat.lt_trichotomy i nT with z|z|z
  ·rw[List.getElem?_append_left (by simpa using z),List.getElem?_replicate,if_pos z]at W
   cases W
  ·subst z
   exact absurd hv (g x O)
  ·obtain⟨j,rfl⟩:∃j,i=nT+1+j:=⟨i-nT-1,#[3]⟩
   rw[List.getElem?_append_right (by simp;omega),List.length_replicate,show nT+1+j-nT=j+1 by omega,List.getElem?_cons_succ]at W;obtain⟨t,d,y⟩:=w j x O hv;obtain⟨m,_,hl⟩:=I.loc;obtain⟨u,ru,lk⟩:=hl j x v t W (Or.inr (Or.inl d));refine⟨u,ru,.inr ⟨y,?_⟩⟩;obtain⟨c,r⟩:=l.has x y;refine⟨c,r,?_⟩
   rcases lk with⟨q,_⟩|⟨_,F,A,a⟩
   ·rw[d]at q;cases q
   ·have h:=l.sub x c r
    rw[A]at h;cases h;obtain⟨o,ho,hd⟩:=a;rw[1,o,k _ _ ho,hd]
 ·obtain⟨v,o,ho,hd⟩:=I.cell x c (l.sub x c e)
  exact⟨v,o,k _ _ ho,hd⟩
 ·rw[List.length_append,List.length_replicate,List.length_cons,I.len]
  show nT+(X.N.length+1)=N'.length
  rw[BS.1];omega
theorem comp_back{nT:Nat}{L:L2.St}{h':Heap}{w:#[9]}(I:(20,H,s))(hC:s.heap.objs.size<=C)(S:∀b∈fp,fF X Z H b)(K:L2.Inv (a_ X U N' s H C f fp) w L H' s')(hs:Heap.SameBut C s'.heap h')(t':Nat):
(20,H',{s' with heap:=h',toks:=t'}):=by
 have hn:(2,H' C):=K.free;have k:∀b u,b≠C->(0,s'.heap.get? b,u)->(0,h'.get? b,u):=λb u hb e=>hs.extBut b u hb e
 have u2:Un (qK X.stack) fp H H' s.heap h':=by
  have u:=K.base;have ne:∀b o,(0,s.heap.get? b,o)->b≠C:=λb o e=>Nat.ne_of_lt (Nat.lt_of_lt_of_le (Heap.lt_size e) hC)
  refine⟨λb o e n a c=>k b o (ne b o e) (u.keep b o e n a c),λb o e n a c=>?_,u.free,λb o e c=>?_,u.mS,u.kL,u.mT⟩
  ·obtain⟨sl,z⟩:=u.slot b o e n a c
   rw[3,sl,k b _ (ne b o e) z]
  ·obtain⟨o',z⟩:=u.there b o e c
   rw[3,o',k b _ (ne b o e) z]
 have bH:i6 X.prog X.w H' h':=λb o e=>(K.bH b o e).km (λc v hc q=>k c v (by
  rcases hc with z|z
  ·rw[2,z,aK e hn]
  ·exact aK z hn) q) (λ_ q=>q) λ_ _ q=>q
 have r:=I.call (g':=s'.gens) (t':=t') (d':=s'.drawn) (ch:=fp) u2 bH K.bare (λb hb=>by
  obtain⟨D,l,R,j,f4,N⟩:=S b hb
  exact⟨j,l,f4,N⟩)
 have e:({s' with heap:=h',toks:=t'}:Shared)={s with heap:=h',gens:=s'.gens,drawn:=s'.drawn,toks:=t'}:=by
  have:=K.os;cases s';cases s;simp only[a_]at this;subst this;rfl
 rw[2,e,r]
end
section
variable{R:(18,Result)}
theorem tH{t B iter:Expr}{F:#[4]}{it T:Value}(I:(18,Nat))
(j:∀n s,I n s->wpAny (model prog w) A (pyNext it) (λr s1=>match r with
   |none=>R (.ok .next) s1
   |some v=>wpAny (model prog w) A (letOwnedTupleGo B it v) (λ_ b=>wpAny (model prog w) A (assign B env v) (λ_ s2=>
wpAny (model prog w) A (forIn F true λc r=>(29,r,do let ok<-isTrue c env (eval c env);pure (ForInStep.yield ok),pure (ForInStep.yield r))) (λok s3=>
(29,ok,wpAny (model prog w) A (eval t env) (λx s4=>
wpAny (model prog w) A (call (.builtin "list.append") [T,x]) (λ_ V=>∃m,m<n/\I m V) (notedBy (model prog w) A env λe s'=>R (.error e) s') s4) (notedBy (model prog w) A env λe s'=>R (.error e) s') s3,∃m,m<n/\I m s3)) (notedBy (model prog w) A env λe s'=>R (.error e) s') s2) (notedBy (model prog w) A env λe s'=>R (.error e) s') b) (notedBy (model prog w) A env λe s'=>R (.error e) s') s1) (notedBy (model prog w) A env λe s'=>R (.error e) s') s)
(n:Nat)(h:I n s):codeAny (model prog w) A (.compLoop #[19] 0 it T env) R s:=by
 refine codeAny_loop rfl I (λn s d=>?_) n h
 show wpAny _ A ((compTurn #[19] 0 it T env).onRaise (λx=>do noteFrame x env;theTreesLotGoes x)) _ _ s
 refine wpAny_noted ?_;rw[compTurn_list];refine wpAny_bind (wpAny_standAt (6,wpAny_mono (j n s d) (λr s1 h1=>?_) λ_ _ h'=>h'))
 cases r with
 |none=>exact wpAny_pure h1
 |some v=>
  rw[0,(6,wpAny_mono h1 (λ_ b a=>?_) λ_ _ h'=>h'),(6,wpAny_mono a (λ_ s2 h2=>(6,wpAny_mono h2 (λok s3 J=>?_) λ_ _ h'=>h')) λ_ _ h'=>h')]
  cases ok with
  |false=>exact wpAny_pure ⟨rfl,J⟩
  |true=>
   exact wpAny_bind (6,wpAny_mono J (λx s4 h4=>(6,wpAny_mono h4 (λ_ V h5=>wpAny_pure (wpAny_pure ⟨rfl,h5⟩)) λ_ _ h'=>h')) λ_ _ h'=>h')
end
def Ei(X:Cx)(F:#[4])(t:TT):Prop:=
 ∀(Z:#[9])(s:Shared)(σ:L2.St)(H:Hp)(Q:(7,Bool,Hp)),(20,H,s)->t σ H Q->(30,forIn F true λc r=>(29,r,do let ok<-isTrue c X.env (eval c X.env);pure (ForInStep.yield ok),pure (ForInStep.yield r)),TP X Z σ Q)
theorem Ej:Ei X [] (λ_ H Q=>Q true H):=λZ s σ H Q I h=>wpAny_tests_nil ⟨H,I,h⟩
theorem Ek{c:Expr}{t:TT}(h:PT X c t):Ei X [c] t:=λZ s σ H Q I hw=>wpAny_tests_one (h Z s σ H Q I hw)
def BU(J:It)(D:Addr)(g:TG)(tc:TT)(tel:TE)(a:L2.St)(H0:Hp)(QD:(1,Hp)):Prop:=
 (62,a,H0,QD H,g x σ H' λf H2=>tc f H2 λb A=>(29,b,tel f A λy c=>∃zs,(0,c D,.lst zs)/\zs.length<sizeLine/\N f (upd c D (.lst (zs++[y]))),N f A))
section
variable{N':#[1]}{f:(5,Str,Addr)}{fp:List Addr}{B iter t:Expr}{F:#[4]}{g:TG}{tc:TT}{tel:TE}{nT:Nat}{J:It}{it D:Addr}{M:(7,Nat,Heap)}
theorem pF(I:(20,H,s))(hc:(4,X.calm))(hk:U.kind=.function)(a:∀y∈U.names,y.2≠ .cell)(l:BR X U f)(BS:yE X U nT N')
(T:Turn X.prog X.w X.K B J fp it M)(st:M 0 s.heap)(S:∀b∈fp,fF X Z H b)
(hg:∀s3 A C f fp,PG (a_ X U N' s3 A C f fp) B g)(O:∀s3 A C f fp,Ei (a_ X U N' s3 A C f fp) F tc)(P:∀s3 A C f fp,PE (a_ X U N' s3 A C f fp) t tel)
(hw:BU J D g tc tel (List.replicate nT none++some (.ref D)::σ) H QD)
(h:∀C s' H' L w,s.heap.objs.size<=C->L2.Inv (a_ X U N' s H C f fp) w L H' s'->QD H'->RR C (.ok .next) s'):
wpAny (model X.prog X.w) X.A (newFunctionEnv U X.env.globals f [] X.env.qual none .none (some X.env)) (λc s4=>
codeAny (model X.prog X.w) X.A (.compStart #[19] 0 (.ref it) (.ref D) {c with scope:=relabel U X.env}) (RR c.locals) s4) E s:=by
 refine wpAny_newFunctionEnv a (by intro y hy;simp at hy) (λh1 ns sb=>?_) hk
 try dsimp only at ns sb⊢
 have hC:s.heap.objs.size<=s.heap.objs.size:=Nat.le_refl _;have k:∀b o,(0,s.heap.get? b,o)->(0,h1.get? b,o):=λb o e=>sb.extBut b o (Nat.ne_of_lt (Heap.lt_size e)) (22,e)
 have hb:∀b∈fp,b<s.heap.objs.size:=λb hb=>by obtain⟨o,e,_⟩:=T.obj _ _ st b hb;exact Heap.lt_size e
 have I0:L2.Inv (a_ X U N' s H s.heap.objs.size f fp) [] (List.replicate nT none++some (.ref D)::σ) H {s with heap:=h1,toks:=s.toks+([]:(5,Str,Value)).length}:=
  vh I hc hk l hC S hb BS k ns
 have Ia:M 0 h1:=T.keep _ _ _ st λb _ o e=>k b o e
 obtain⟨W,⟨m0,w0⟩,j⟩:=hw;have oZ:∀{H':Hp},(∀b∈fp,H' b=none)-> ∀b∈fp,fF (a_ X U N' s H s.heap.objs.size f fp) [] H' b:=λhn b G=>
  ⟨hn b G,Nat.ne_of_lt (hb b G),I0.ok.sN b G,.inl G,(I0.ok.Gs b G).2,λp hp=>nomatch hp⟩
 have loop:codeAny (model X.prog X.w) X.A (.compLoop #[19] 0 (.ref it) (.ref D) (compEnvC U f s.heap.objs.size X.env)) (RR s.heap.objs.size) {s with heap:=h1,toks:=s.toks+([]:(5,Str,Value)).length}:=by
  refine tH (λn s'=>∃i L H',L2.Inv (a_ X U N' s H s.heap.objs.size f fp) [] L H' s'/\M i s'.heap/\(∀b∈fp,H' b=none)/\W i n L H') ?_ m0 ⟨0,_,H,I0,Ia,λb G=>(S b G).1,w0⟩;rintro n s3⟨i,KP,A,R,Ff,Fh,w3⟩
  rcases j i n KP A w3 with⟨stop,qn⟩|⟨go,N,hN,step⟩
  ·refine bK (T.done (a_ X U N' s H s.heap.objs.size f fp) rfl rfl rfl hc i [] s3 KP A _ R (oZ Fh) Ff stop) λr s4⟨hr,I4⟩=>?_
   subst hr;exact h _ s4 A KP [] hC I4 qn
  ·refine bK (T.item (a_ X U N' s H s.heap.objs.size f fp) rfl rfl rfl hc i [] s3 KP A _ R (oZ Fh) Ff go) λr s4⟨u,hr,h4⟩=>?_
   subst hr;refine bK h4 λ_ V⟨x,H5,K,r5,y5,AS,JW⟩=>?_
   have JX:=K.pinned (oZ JW) (T.obj _ _ AS);refine wpAny_mono (hg s H s.heap.objs.size f fp _ V KP H5 x u _ JX r5 (step x H5 y5)) (λ_ s6⟨Ib,H6,I6,q6⟩=>?_) λ_ _ z=>z.elim
   have again:∀{s7:Shared}{BV:L2.St}{H7:Hp},L2.Inv (a_ X U N' s H s.heap.objs.size f fp) ([]++mX fp V.heap) BV H7 s7->N BV H7-> ∃m,m<n/\ ∃i L H',L2.Inv (a_ X U N' s H s.heap.objs.size f fp) [] L H' s7/\M i s7.heap/\(∀b∈fp,H' b=none)/\W i m L H':=λ{s7 BV H7}q n7=>by
    obtain⟨Q,hm,w7⟩:=hN BV H7 n7;refine⟨Q,hm,i+1,BV,H7,q.fG,T.keep _ _ _ AS λb G o e=>(42,q.pin,(b,o),List.mem_append_right _ (cX G e)).1,λb G=>?_,w7⟩;obtain⟨o,e,d⟩:=T.obj _ _ AS b G;exact(42,q.pin,(b,o),List.mem_append_right _ (cX G e)).2.1
   refine wpAny_mono (O s H s.heap.objs.size f fp _ s6 Ib H6 _ I6 q6) (λok s7⟨H7,q,q7⟩=>?_) λ_ _ z=>z.elim
   cases ok with
   |false=>
    rw[if_neg Bool.false_ne_true]at q7⊢;exact again q q7
   |true=>
    rw[if_pos rfl]at q7⊢;rw[0,wpAny_mono (P s H s.heap.objs.size f fp _ s7 Ib H7 _ q q7) (λu8 s8⟨y,H8,I8,r8,zs,hz,hl,q8⟩=>?_) λ_ _ z=>z.elim,wpAny_mono (rG (X:=a_ X U N' s H s.heap.objs.size f fp) _ s8 Ib H8 (.ref D) [y] (.ref D) [u8] (λv H'=>H'=upd H8 D (.lst (zs++[y]))) I8 rfl (.cons r8 .nil) ⟨D,zs,y,rfl,rfl,hz,hl,rfl⟩) (λ_ s9⟨v9,H9,I9,r9,e9⟩=>?_) λ_ _ z=>z.elim]
    subst e9;exact again I9 q8
 exact codeAny_compStart_list loop (T.self _ 0 _ _ _ Ia loop)
end
def m'(env:Env):(5,Str,NameKind)->(5,Str,Addr)->(5,Str,Addr)
 |[],cs=>cs
 |(n,k)::r,cs=>m' env r (29,k==.free,match env.cells.lookup n with
  |some c=>(n,c)::cs
  |none=>cs,cs)
theorem w9(h:∀x∈U.names,x.2=.free-> ∃c,(0,env.cells.lookup x.1,c)):closureFor U env=pure (m' env U.names []):=by
 have key:∀(a:(5,Str,NameKind))(cs:(5,Str,Addr)),(∀x∈a,x.2=.free-> ∃c,(0,env.cells.lookup x.1,c))->
   (forIn a cs (λ(x:Str×NameKind)(r:(5,Str,Addr))=>match x with
    |(name,kind)=>if(4,kind==NameKind.free)then(do let c<-cellOf env name;pure (ForInStep.yield ((name,c)::r)))else(pure (ForInStep.yield r))):Sem (5,Str,Addr))=pure (m' env a cs):=by
  intro a
  induction a with
  |nil=>intro cs _;rfl
  |cons p r ih=>
   intro cs hp;obtain⟨n,k⟩:=p;rw[List.forIn_cons]
   cases hk:(k==NameKind.free)with
   |false=>
    simp only[hk,Bool.false_eq_true,if_false,m',pure_bind];exact ih cs λx hx=>hp x (.tail _ hx)
   |true=>
    obtain⟨c,e⟩:=hp (n,k) (.head _) (by simpa using hk);simp only[hk,if_true,m',cellOf,e,pure_bind];exact ih _ λx hx=>hp x (.tail _ hx)
 simp only[closureFor];have:=key U.names [] h;simp only at this⊢;rw[this];rfl
theorem vi{env:Env}:∀(a:(5,Str,NameKind))(cs:(5,Str,Addr)),(∀x c,(0,cs.lookup x,c)->(0,env.cells.lookup x,c))-> ∀x c,(0,(m' env a cs).lookup x,c)->(0,env.cells.lookup x,c)
 |[],cs,h=>h
 |(n,k)::r,cs,h=>by
  simp only[m'];refine vi r _ ?_;intro x c e
  split at e
  ·split at e
   ·rename_i F M
    rw[List.lookup_cons]at e
    cases hx:x==n with
    |true=>
     rw[hx]at e;have:x=n:=by simpa using hx
     cases e;rw[2,this,M]
    |false=>
     rw[hx]at e;exact h x c e
   ·exact h x c e
  ·exact h x c e
theorem rV{env:Env}:∀(a:(5,Str,NameKind))(cs:(5,Str,Addr))(x:Str),(∃c,(0,cs.lookup x,c))-> ∃c,(0,(m' env a cs).lookup x,c)
 |[],cs,x,h=>h
 |(n,k)::r,cs,x,h=>by
  simp only[m'];refine rV r _ x ?_
  split
  ·split
   ·rw[List.lookup_cons]
    cases hx:x==n with
    |true=>rw[3,_,rfl]
    |false=>exact h
   ·exact h
  ·exact h
theorem vj{env:Env}:∀(a:(5,Str,NameKind))(cs:(5,Str,Addr))(x:Str),(∃c,(0,env.cells.lookup x,c))->(x,NameKind.free)∈a-> ∃c,(0,(m' env a cs).lookup x,c)
 |[],cs,x,_,h=>nomatch h
 |(n,k)::r,cs,x,he,h=>by
  simp only[m']
  rcases List.mem_cons.mp h with e|h
  ·cases e
   obtain⟨c,f⟩:=he;refine rV r _ _ ?_;rw[if_pos (by rfl),f];rw[3,c,by simp]
  ·exact vj r _ x he h
theorem lookup_mem{a:(5,Str,α)}{x:Str}{k:α}(h:(0,a.lookup x,k)):(x,k)∈a:=by
 induction a with
 |nil=>cases h
 |cons p r ih=>
  obtain⟨n,i⟩:=p;rw[List.lookup_cons]at h
  cases hx:x==n with
  |true=>
   rw[hx]at h;have:x=n:=by simpa using hx
   cases h;rw[this];exact .head _
  |false=>
   rw[hx]at h;exact .tail _ (ih h)
theorem yF(ok:X.Ok)(a:∀y∈U.names,y.2≠ .cell)(f:∀x∈U.names,x.2=.free->(0,X.env.kindOf x.1,.cell)):
closureFor U X.env=pure (m' X.env U.names [])/\BR X U (m' X.env U.names []):=by
 have N:∀x∈U.names,x.2=.free-> ∃c,(0,X.env.cells.lookup x.1,c):=λx hx e=>ok.has x.1 (.inl (f x hx e))
 refine⟨w9 N,vi _ _ (λx c e=>by cases e),λx h=>?_⟩;have hm:(x,NameKind.free)∈U.names:=by
  rcases h with h|h
  ·obtain⟨⟨n,k⟩,hn,e⟩:=List.mem_map.mp (lookup_mem h)
   simp only at e
   split at e
   ·rename_i q
    cases e;have:k=.free:=by simp at q;exact q.1.1
    rw[<-this];exact hn
   ·cases e
    exact absurd rfl (a _ hn)
  ·obtain⟨⟨n,k⟩,hn,e⟩:=List.mem_map.mp (lookup_mem h)
   simp only at e
   split at e
   ·cases e
   ·cases e;exact hn
 exact vj _ _ x (N (x,.free) hm rfl) hm
structure de(X:Cx)(U:Scope)(nT:Nat)(N':#[1]):Prop where
 calm:(4,X.calm)
 kind:U.kind=.function
 cell:∀y∈U.names,y.2≠ .cell
 free:∀x∈U.names,x.2=.free->(0,X.env.kindOf x.1,.cell)
 loc:∀x∈U.names,x.2=.local->(0,U.names.lookup x.1,.local)
 BS:yE X U nT N'
section
variable{N':#[1]}{B iter t:Expr}{F:#[4]}{g:TG}{tc:TT}{tel:TE}{nT:Nat}{G:TI}
def FU(nT:Nat)(G:TI)(g:TG)(tc:TT)(tel:TE):TE:=λσ H Q=>G σ H λJ H1=>∀D,(2,H1 D)->BU J D g tc tel (List.replicate nT none++some (.ref D)::σ) (upd H1 D (.lst [])) (λH'=>Q (.ref D) H')
theorem yG(ok:de X U nT N')(hi:PI X B iter G)(hg:∀s3 A C f fp,PG (a_ X U N' s3 A C f fp) B g)(O:∀s3 A C f fp,Ei (a_ X U N' s3 A C f fp) F tc)(P:∀s3 A C f fp,PE (a_ X U N' s3 A C f fp) t tel)
(hs:(43,iter)):PE X #[19] (FU nT G g tc tel):=by
 intro Z s σ H Q I h;obtain⟨k,l⟩:=yF I.ok ok.cell ok.free;rw[eval_ListComp];refine wpAny_comprehension_free (use:=none) rfl hs k ok.kind ok.loc (bK (hi Z s σ H _ I h) λv s1 h1=>bK h1 λE s2 h2=>?_);obtain⟨it,fp,M,J,H2,e,a,T,d,R,W⟩:=h2;subst e;refine wpAny_newObj_type ?_;have c:=a.Hk (its:=[]) (t':=s2.toks) .nil (Nat.zero_le _);have kp:∀b o,(0,s2.heap.get? b,o)->(0,(s2.heap.push {cls:=.type "list",dict:=none,data:=.seq ([]:#[5]).toArray}).get? b,o):=λb o e=>(22,e)
 rw[22,upd H2 s2.heap.objs.size (.lst []),d,pF (iter:=iter) (pos:=pos) (RR:=λC=>compPost (model X.prog X.w) X.A X.xe none (EP X Z σ Q) (.ref s2.heap.objs.size) C) c ok.calm ok.kind ok.cell l ok.BS T (T.keep _ _ _ d λb _ o e=>kp b o e) j hg O P (W _ (a.bH.fresh (Nat.le_refl _))) ?_];obtain⟨m,ns,_⟩:=K.loc;refine⟨m,ns,λh' i=>⟨.ref s2.heap.objs.size,H',?_,rfl,q⟩⟩;exact comp_back (nT:=nT) c hC j K i s'.toks
theorem oP {d:TG} (ok:de X U nT N') (hi:PI X B iter G) (hg:∀ s3 A C f fp,PG (a_ X U N' s3 A C f fp) B g) (O:∀ s3 A C f fp,Ei (a_ X U N' s3 A C f fp) F tc) (P:∀ s3 A C f fp,PE (a_ X U N' s3 A C f fp) t tel)
 (hs:(43,iter)) (hy:PG X (.Name y py) d) (k:swapsWith #[19] (some (.Name y py)) hB.line X.env = pure true) :
 PS X (.Assign [.Name y py] #[19] hB) (λD σ H=>FU nT G g tc tel σ H λv H'=>d v σ H' D.nx):=by
  intro Z s σ H D I h;obtain ⟨BW,l⟩:=yF I.ok ok.cell ok.free;rw [exec_Assign_Name_used _ _ _ _ k];refine wpAny_bind (wpAny_standAt (6,?_))
  show wpAny _ X.A (do let _ <- comprehension #[19] U X.env _ (newList []) false (eval iter X.env) (some (assign (.Name y py) X.env))) _ _ s
  refine (6,wpAny_mono (wpAny_comprehension_free (use:=some (assign (.Name y py) X.env)) (Q:=λ_ s'=>SP X Z D .next s') rfl hs BW ok.kind ok.loc
    (bK (hi Z s σ H _ I h) λv s1 h1=>bK h1 λE s2 h2=>?_)) (λ_ s' hq=>wpAny_pure (wpAny_pure hq)) λ_ _ e=>e)
  obtain ⟨it,fp,M,J,H2,e,a,T,KQ,R,W⟩:=h2;subst e;refine wpAny_newObj_type ?_;have n:=a.Hk (its:=[]) (t':=s2.toks) .nil (Nat.zero_le _);have kp:∀ b o,(0,s2.heap.get? b,o) -> (0,(s2.heap.push { cls:=.type "list", dict:=none,data:=.seq ([]:#[5]).toArray }).get? b,o):=λb o e=>(22,e)
  rw[22,upd H2 s2.heap.objs.size (.lst []),KQ,pF (iter:=iter) (pos:=pos) (RR:=λC=>compPost (model X.prog X.w) X.A X.xe (some (assign (.Name y py) X.env)) (λ_ s'=>SP X Z D .next s') (.ref s2.heap.objs.size) C) n ok.calm ok.kind ok.cell l ok.BS T (T.keep _ _ _ KQ λb _ o e=>kp b o e) j hg O P (W _ (a.bH.fresh (Nat.le_refl _))) ?_];obtain ⟨m,⟨oC,es,ep,El,KR,rC⟩,_⟩:=K.loc;have El:(0,s'.heap.get? C,oC):=El;have u:(20,H',s'):=by
    have:=comp_back (nT:=nT) n hC j K (Heap.SameBut.refl _ _) s'.toks;exact this
  have Xq:(2,H' C):=K.free;have Nt:C ≠ X.env.locals:=λz=>by
    have:=n.lt;rw [<- z] at this;exact absurd (Nat.lt_of_lt_of_le this hC) (Nat.lt_irrefl _)
  have KS:fF X Z H' C:=by
    refine ⟨Xq,Nt,n.Gu hC,.inr (Nat.le_trans n.sz hC),λx c e z=>?_,λp hp z=>?_⟩
    · obtain ⟨v,q⟩:=n.cell x c e
      exact absurd (Nat.lt_of_lt_of_le q.lt (10,z,hC)) (Nat.lt_irrefl _)
    · exact absurd (Nat.lt_of_lt_of_le (Heap.lt_size (n.pin p hp).1) (10,z,hC)) (Nat.lt_irrefl _)
  have V:=u.pinned (fp:=[C]) (λb hb=>by have : b = C:=(by simpa using hb);rw[2,this,KS]) (λb hb=>by
    have : b = C:=by simpa using hb
    rw[2,this,⟨oC,El,λv z=>by rw [KR] at z;cases z⟩])
  refine bK (hy _ s' σ H' (.ref s2.heap.objs.size) _ _ V rfl q) λ_ s6 ⟨S,H6,N,q6⟩=>?_
  have pc:=(42,N.pin,(C,oC),List.mem_append_right _ (cX (fp:=[C]) (by simp) El));refine ⟨m,⟨oC,es,ep,pc.1,KR,rC⟩,λh' i=>⟨S,H6,?_,q6⟩⟩;have r:=N.fG
  exact kQ (t':=s6.toks) r (ch:=[C]) (λb hb=>by
    have : b = C:=by simpa using hb
    rw[2,this,⟨pc.2.1,KS.2⟩]) λb o hb e=>i.extBut b o (by simpa using hb) e
end
def ky(pre:#[0]):Prop:=∀l∈pre,¬l.fq
section
theorem Hs.un(h:#[12]):Hs K H0 (none::σ) (.un::Y) G H:=by
 have a0:∀p,¬At (none::σ) (.un::Y) 0 p:=λp a=>(hD.mp a).1
 refine⟨by simp[h.len],h.base,λb=>?_,λi d e=>?_,λi d e=>?_,λi p d e=>?_,λi j p a1 a2=>?_⟩
 ·rw[15]
  ·refine .inl ⟨c,λi a=>?_⟩
   cases i with
   |zero=>exact a0 b a
   |succ i=>exact B i (bV.mp a)
  ·exact .inr ⟨c,j+1,bV.mpr B⟩
 ·cases i with
  |zero=>cases e
  |succ i=>exact h.fr i d e
 ·cases i with
  |zero=>cases e
  |succ i=>exact h.ow i d e
 ·cases i with
  |zero=>cases e
  |succ i=>exact h.lk i p d e
 ·cases i with
  |zero=>exact absurd a1 (a0 p)
  |succ i=>
   cases j with
   |zero=>exact absurd a2 (a0 p)
   |succ j=>rw[h.ne i j p (bV.mp a1) (bV.mp a2)]
theorem Hs.LR(h:#[12]):∀n:Nat,Hs K H0 (List.replicate n none++σ) (List.replicate n .un++Y) G H
 |0=>h
 |n+1=>(Hs.LR h n).un
theorem Hs.drops:∀{ps:L2.St}{pre:#[0]},ps.length=pre.length->ky pre->Hs K H0 (ps++σ) (pre++Y) G H-> #[12]
 |[],[],_,_,h=>h
 |p::ps,l::pre,e,no,h=>Hs.drops (by simpa using e) (λx hx=>no x (.tail _ hx)) (Hs.drop h (no l (.head _)))
theorem pG(n:Nat):ky (List.replicate n .un):=λl hl=>(10,List.eq_of_mem_replicate hl,λz=>z)
theorem ky.set{pre:#[0]}(h:ky pre)(i:Nat)(d:D):ky (pre.set i (.fr d)):=λl hl=>by
 rcases List.mem_or_eq_of_mem_set hl with z|z
 ·exact h l z
 ·subst z;exact λz=>z
end
abbrev fX:=D-> #[0]->(1,(1,#[0]))
abbrev w_:=List D-> #[0]->(1,(1,#[0]))
inductive dt(K:PySem.W.Frag)(H0:Hp)(nT:Nat)(g:fX)(v:V)(L:L2.St)(H:Hp)(Q:(7,L2.St,Hp)):Prop
 |mk(ps σ:L2.St)(pre Y:#[0])(G:Hp)(d:D)(Qd:(1,#[0])):(11,L=ps++σ,ps.length=nT,pre.length=nT,ky pre,(11,Hs K H0 L (pre++Y) G H,Rep K G d v,g d pre Qd,∀c a,(11,c.length=nT,a.length=nT,ky a,Hs K H0 (c++σ) (a++Y) G H,Qd a->Q (c++σ) H),dt K H0 nT g v L H Q))
inductive yH(K:PySem.W.Frag)(H0:Hp)(nT:Nat)(g:w_)(vs:List V)(L:L2.St)(H:Hp)(Q:(7,L2.St,Hp)):Prop
 |mk(ps σ:L2.St)(pre Y:#[0])(G:Hp)(ds:List D)(Qd:(1,#[0])):(11,L=ps++σ,ps.length=nT,pre.length=nT,ky pre,(11,Hs K H0 L (pre++Y) G H,aE K G ds vs,g ds pre Qd,∀c a,(11,c.length=nT,a.length=nT,ky a,Hs K H0 (c++σ) (a++Y) G H,Qd a->Q (c++σ) H),yH K H0 nT g vs L H Q))
def yI(X:Cx)(H0:Hp)(nT:Nat)(tg:Expr)(g:fX):Prop:=PG X tg (dt X.K H0 nT g)
def BX(X:Cx)(H0:Hp)(nT:Nat)(tg:#[4])(g:w_):Prop:=wA X tg (yH X.K H0 nT g)
section
variable{nT:Nat}{x:Str}{es:#[4]}
def pH(i:Nat)(d:D)(pre:#[0])(Q:(1,#[0])):Prop:=Q (pre.set i (.fr d))
theorem a'(i:Nat)(eH:i<nT)(hN:X.N.Nodup)(hi:(0,X.N[i]?,x):=by rfl)(hx:Loc X.env.scope x:=by first|exact Or.inl rfl|exact Or.inr rfl)(S:#[20]:=by first|exact .inl rfl|exact .inr rfl|assumption):yI X H0 nT (.Name x pos) (pH i):=
 PG.weak (ht hN hi hx S) λv L H Q⟨ps,σ,pre,Y,G,d,Qd,es,l1,l2,no,hs,r,h,k⟩=>by
  subst es;have hp:i<pre.length:=#[3]
  have hq:i<ps.length:=#[3]
  have h1:=hs.DW (i:=i) (l:=pre[i]) (d:=d) (v:=v) (by rw[List.getElem?_append_left hp,List.getElem?_eq_getElem hp]) (no _ (List.getElem_mem hp)) r;rw[List.set_append_left _ _ hp,List.set_append_left _ _ hq]at h1;have h2:=k (ps.set i (some v)) (pre.set i (.fr d)) (10,List.length_set,l1) (10,List.length_set,l2) (no.set i d) h1 h;rw[<-List.set_append_left _ _ hq]at h2;exact h2
def FV(ds:List D)(pre:#[0])(Q:(1,#[0])):Prop:=match ds with
 |[]=>Q pre
 |_=>False
def w'(g:fX)(r:w_)(ds:List D)(pre:#[0])(Q:(1,#[0])):Prop:=match ds with
 |d::ds=>g d pre λp1=>r ds p1 Q
 |[]=>False
theorem fu:BX X H0 nT [] FV:=wA.weak x9 λvs L H Q⟨ps,σ,pre,Y,G,ds,Qd,es,l1,l2,no,hs,r,h,k⟩=>by
 subst es
 cases ds with
 |nil=>simp only[aE]at r;rw[3,r,k ps pre l1 l2 no hs h]
 |cons d ds=>exact h.elim
variable{g:fX}{gs:w_}
theorem bj(h1:yI X H0 nT e g)(h2:BX X H0 nT es gs)(hs:(assignEach (e::es) X.env).map (·.2)=assign e X.env::(assignEach es X.env).map (·.2):=by rfl):BX X H0 nT (e::es) (w' g gs):=
 wA.weak (uJ h1 h2 hs) λvs L H Q⟨ps,σ,pre,Y,G,ds,Qd,es,l1,l2,no,hs,r,h,k⟩=>by
  cases ds with
  |nil=>exact h.elim
  |cons d ds=>
   simp only[aE]at r;obtain⟨v,b,rfl,r1,r2⟩:=r;exact⟨v,b,rfl,ps,σ,pre,Y,G,d,_,es,l1,l2,no,hs,r1,h,λa c a1 a2 a3 h1 q1=>⟨a,σ,c,Y,G,ds,Qd,rfl,a1,a2,a3,h1,r2,q1,k⟩⟩
def FW(n:Nat)(gs:w_)(d:D)(pre:#[0])(Q:(1,#[0])):Prop:=match d with
 | .tup ds=>ds.length=n/\gs ds pre Q
 |_=>False
theorem hM{k:Nat}(hc:(4,X.calm))(h:BX X H0 nT es gs)(hn:(assignEach es X.env).length=n:=by rfl)(iT:(2,(assignEach es X.env).findIdx? (·.1)):=by rfl):yI X H0 nT (.Tuple es k pos) (FW n gs):=
 PG.weak (wB (n:=n) hc h hn iT) λv L H Q⟨ps,σ,pre,Y,G,d,Qd,es,l1,l2,no,hs,r,h,k⟩=>by
  cases d with
  |tup ds=>
   simp only[Rep]at r;obtain⟨a,vs,rfl,h2,J⟩:=r;exact⟨a,vs,rfl,dg.of (hs.sub _ _ h2),(26,J.length,h.1),ps,σ,pre,Y,G,ds,Qd,es,l1,l2,no,hs,J,h.2,k⟩
  |_=>exact h.elim
def nf(X:Cx)(H0:Hp)(F:#[4])(t:RT):Prop:=Ei X F (liftT X.K H0 t)
def yJ(_:#[0])(Q:(1,Bool)):Prop:=Q true
theorem cI:nf X H0 [] yJ:=λZ s σ H Q I h=>Ej Z s σ H Q I (by
 obtain⟨Y,G,Qd,hs,M,k⟩:=h
 exact k true H G (Nx.refl hs) M)
theorem pJ{t:RT}(h:qR X H0 e t):nf X H0 [e] t:=Ek h
def iX(g:fX)(tc:RT)(tel:RE)(Y:#[0]):List D-> #[0]->(7,List D,(1,List D))
 |[],_,T,Q=>Q T
 |x::xs,pre,T,Q=>g x pre λa=>tc (a++ .ow (.lst T)::Y) λb=>cS b (tel (a++ .ow (.lst T)::Y) λy=>T.length<sizeLine/\iX g tc tel Y xs a (T++[y]) Q) (iX g tc tel Y xs a T Q)
def yK(nT:Nat)(te:RE)(g:fX)(tc:RT)(tel:RE)(Y:#[0])(Q:(1,D)):Prop:=te Y λd=>match d with
 | .lst xs=>iX g tc tel Y xs (List.replicate nT .un) [] (λT=>Q (.lst T))
 |_=>False
variable{B iter t:Expr}{F:#[4]}{N':#[1]}{te tel:RE}{tc:RT}
theorem tI{pre Y:List α}(h:pre.length=n)(a b:α):(pre++a::Y).set n b=pre++b::Y:=by
 subst h
 induction pre with
 |nil=>rfl
 |cons p pre ih=>simp[ih]
theorem j2{pre Y:List α}(h:pre.length=n)(a:α):(0,(pre++a::Y)[n]?,a):=by
 subst h;simp
inductive Ic{α:Type}(K:PySem.W.Frag)(H0 G1 H1:Hp)(nT:Nat)(m:Addr)(σ:L2.St)(Y:#[0])(own:α->D)(C:(7,#[0],α))(L:L2.St)(H':Hp):Prop
 |mk(ps:L2.St)(pre:#[0])(T:α)(G':Hp):(11,L=ps++some (.ref m)::σ,ps.length=nT,pre.length=nT,ky pre,(11,Hs K H0 L (pre++ .ow (own T)::Y) G' H',aO G1 G',aO H1 H',C pre T,Ic K H0 G1 H1 nT m σ Y own C L H'))
theorem fD{J:It}{D:Addr}{xs:List M.D}{Qd:(1,List M.D)}(hs:Hs X.K H0 σ Y G1 H1)(S:Src X.K G1 J xs)(I:(2,H1 D))
(q:iX g tc tel Y xs (List.replicate nT .un) [] Qd)(k:∀H' G' T,(11,Hs X.K H0 (some (.ref D)::σ) (.ow (.lst T)::Y) G' H',aO G1 G',aO H1 H',Qd T,QD H')):
BU J D (dt X.K H0 nT g) (liftT X.K H0 tc) (bX X.K H0 tel) (List.replicate nT none++some (.ref D)::σ) (upd H1 D (.lst [])) QD:=by
 have R:∀{H':Hp}{o:HO},aO H1 H'->aO H1 (upd H' D o):=λ{H' o}s b u e=>(10,aI (aK e I),s b u e)
 refine⟨λi m L H'=>(3,m,xs.length-i,i<=xs.length,Ic X.K H0 G1 H1 nT D σ Y .lst (λpre T=>iX g tc tel Y (xs.drop i) pre T Qd) L H'),
  ⟨xs.length,by simp,Nat.zero_le _,List.replicate nT none,List.replicate nT .un,[],G1,rfl,by simp,by simp,pG nT,(hs.fresh (d:=.lst []) (o:=.lst []) I ⟨[],aM,aE.nil⟩).LR nT,aO.refl _,R (aO.refl _),q⟩,?_⟩
 rintro i m L H'⟨em,hi,ps,pre,T,G',es,l1,l2,no,h',a,r,q'⟩
 by_cases eH:i<xs.length
 ·rw[List.drop_eq_getElem_cons eH]at q'
  obtain⟨go,n⟩:=S.item i _ h' a (List.getElem?_eq_getElem eH);refine .inr ⟨go,Ic X.K H0 G1 H1 nT D σ Y .lst (λpre T=>iX g tc tel Y (xs.drop (i+1)) pre T Qd),λf H2 z=>⟨xs.length-(i+1),#[3],rfl,eH,z⟩,λx H2 y=>?_⟩;obtain⟨G2,P,r2⟩:=n x H2 y;subst es;refine⟨ps,_,pre,.ow (.lst T)::Y,G2,_,_,rfl,l1,l2,no,P.hs,r2,q',λG c a1 a2 a3 h1 q1=>⟨_,G2,_,h1,q1,λb A K h j=>?_⟩⟩;have Q:=(a.trans P.g).trans h.g;have N:=(r.trans P.h).trans h.h
  cases b with
  |false=>
   rw[2,if_neg Bool.false_ne_true,⟨G,c,T,K,rfl,a1,a2,a3,h.hs,Q,N,j.no rfl⟩]
  |true=>
   rw[if_pos rfl];refine⟨_,K,_,h.hs,j.yes rfl,λy C H l v w E=>?_⟩;have e0:(0,(c++Sl.ow (.lst T)::Y)[nT]?,.ow (.lst T)):=j2 a2 _;have O:(0,(G++some (V.ref D)::σ)[nT]?,some (.ref D)):=j2 a1 _;obtain⟨p,W,zs,g1,g2⟩:=v.hs.ow nT _ e0;cases O.symm.trans W;refine⟨zs,g1,g2.length▸E.1,G,c,T++[l],H,rfl,a1,a2,a3,?_,Q.trans v.g,R (N.trans v.h),E.2⟩;have hw:=v.hs.write (d':=.lst (T++[l])) e0 O ⟨_,aM,aE.append g2 (aE.cons w aE.nil)⟩;rw[tI a2]at hw;exact hw
 ·have e:i=xs.length:=#[3]
  rw[e]at q'⊢;rw[List.drop_length]at q';subst es;exact .inl ⟨S.stop h' a,k H' G' T (Hs.drops (by rw[l1,l2]) no h') a r q'⟩
theorem fK(ok:de X U nT N')(hi:aS X H0 iter te)(hg:∀s3 A C f fp,yI (a_ X U N' s3 A C f fp) H0 nT B g)(O:∀s3 A C f fp,nf (a_ X U N' s3 A C f fp) H0 F tc)(P:∀s3 A C f fp,aS (a_ X U N' s3 A C f fp) H0 t tel)
(hs:(43,iter):=by intro _;rfl):b' X H0 #[19] (yK nT te g tc tel):=
 (50,yG (g:=dt X.K H0 nT g) (tc:=liftT X.K H0 tc) (tel:=bX X.K H0 tel) ok (f3 hi) hg O P hs,by
  cases d with
  |lst xs=>
   rw[16];refine⟨a,rfl,⟨ws,n1.hs.sub.seq h2⟩,λD I=>fD n1.hs (.list h2 J) I q1 λH' G' T N c b e=>k _ H' G' _ N (n1.g.trans c) (n1.h.trans b) e⟩
  |_=>exact q1.elim)
def BY(i nT:Nat)(te:RE)(g:fX)(tc:RT)(tel:RE)(E:bC)(Y:#[0]):Prop:=yK nT te g tc tel Y λd=>DZ i d Y E.nx
theorem zN(i:Nat)(h:X.N.Nodup)(ok:de X U nT N')(hi:aS X H0 iter te)(hg:∀s3 A C f fp,yI (a_ X U N' s3 A C f fp) H0 nT B g)(O:∀s3 A C f fp,nf (a_ X U N' s3 A C f fp) H0 F tc)(P:∀s3 A C f fp,aS (a_ X U N' s3 A C f fp) H0 t tel)
(hN:(0,X.N[i]?,y):=by rfl)(hx:Loc X.env.scope y:=by first|exact Or.inl rfl|exact Or.inr rfl)(S:(4,X.fn y)\/(0,X.env.scope.names.lookup y,.local):=by first|exact .inl rfl|exact .inr rfl|assumption)
(hs:(43,iter):=by intro _;rfl)(k:swapsWith #[19] (some (.Name y py)) hB.line X.env=pure true:=by rfl):
i8 X H0 (.Assign [.Name y py] #[19] hB) (BY i nT te g tc tel):=
 (46,oP (g:=dt X.K H0 nT g) (tc:=liftT X.K H0 tc) (tel:=bX X.K H0 tel) ok (f3 hi) hg O P hs (ht h hN hx S) k,go,λv H1 G1 d n1 r1 q1=>by
  cases d with
  |lst xs=>
   rw[16];refine⟨a,rfl,⟨ws,n1.hs.sub.seq h2⟩,λm I=>fD n1.hs (.list h2 J) I q1 λH' G' T N c j n=>?_⟩;obtain⟨l,e,b,q⟩:=yr n;obtain⟨G2,h4,s4⟩:=N.own e b;exact go.nx _ H' _ G2 h4 ((n1.g.trans c).trans s4) q
  |_=>exact q1.elim)
end
def Em(U a:Scope):(5,Str,NameKind):=U.names.map λ(n,k)=>if(k==.free&&a.kind==.function&&a.names.lookup n==some .cell)then(n,.cell)else(n,k)
def BZ(k:Option NameKind):Bool:=match k with
 |some .local=>true
 |some .cell=>true
 |some .free=>true
 |_=>false
def B0(k:Option NameKind):Bool:=match k with
 |some .cell=>true
 |some .free=>true
 |_=>false
def ng(k:Option NameKind):Bool:=match k with
 |some .cell=>true
 |_=>false
def isLocal(k:Option NameKind):Bool:=match k with
 |some .local=>true
 |_=>false
def FX(U a:Scope)(nT:Nat)(N' N:#[1]):Bool:=
 (U.kind==.function)&&(U.names.all λy=>!ng (some y.2))&&(U.names.all λy=>!(B0 (some y.2))||ng (a.names.lookup y.1))&&(U.names.all λy=>!(isLocal (some y.2))||isLocal (U.names.lookup y.1))&&
 (N'.length==nT+1+N.length)&&(match N'[nT]? with
  |some x=>!BZ ((Em U a).lookup x)
  |none=>true)&&
 (List.range N.length).all λj=>match N'[nT+1+j]? with
  |some x=>!BZ ((Em U a).lookup x)||((match N[j]? with
   |some y=>decide (y=x)
   |none=>false)&&ng (a.names.lookup x)&&B0 ((Em U a).lookup x))
  |none=>true
theorem rW{k:Option NameKind}(h:(4,ng k)):(0,k,.cell):=by
 unfold ng at h
 split at h
 ·rfl
 ·cases h
theorem En{k:Option NameKind}(h:(4,B0 k)):(0,k,.cell)\/(0,k,.free):=by
 unfold B0 at h
 split at h
 ·exact .inl rfl
 ·exact .inr rfl
 ·cases h
theorem xc{k:Option NameKind}(h:(4,isLocal k)):(0,k,.local):=by
 unfold isLocal at h
 split at h
 ·rfl
 ·cases h
theorem rX{a:Scope}{x:Str}(h:BZ (a.names.lookup x)=false):¬qL a x:=λz=>by
 rcases z with z|z|z<;>rw[z]at h<;>cases h
theorem bp{nT:Nat}{N':#[1]}(a:Scope)(hN:X.N=N)(he:X.env.scope=a)(hc:(4,X.calm))(hb:(4,FX U a nT N' N)):de X U nT N':=by
 subst hN he;simp only[FX,Bool.and_eq_true]at hb;obtain⟨⟨⟨⟨⟨⟨b1,b2⟩,d⟩,h⟩,i⟩,l⟩,k⟩:=hb;rw[List.all_eq_true]at b2 d h k;have b:(relabel U X.env).names=Em U X.env.scope:=rfl;refine⟨hc,by simpa using b1,λy hy e=>?_,λx hx e=>?_,λx hx e=>?_,by simpa using i,λx e=>?_,λj x e hv=>?_⟩
 ·have:=b2 y hy
  rw[e]at this;cases this
 ·have:=d x hx
  rw[e]at this;have this:(4,ng (X.env.scope.names.lookup x.1)):=by simpa[B0]using this
  exact rW this
 ·have:=h x hx
  rw[e]at this;exact xc (by simpa[isLocal]using this)
 ·rw[e]at l
  exact rX (by rw[b];simpa using l)
 ·have g:j<X.N.length:=by
   have h1:=(33,e).1;have h2:N'.length=nT+1+X.N.length:=by simpa using i
   omega
  have:=k j (List.mem_range.mpr g);rw[e]at this;simp only[Bool.or_eq_true,Bool.and_eq_true]at this
  rcases this with z|⟨⟨c,B⟩,f⟩
  ·exact absurd hv (rX (by rw[b];simpa using z))
  ·refine⟨?_,rW B,by rw[b];exact En f⟩
   cases q:X.N[j]? with
   |none=>rw[q]at c;cases c
   |some y=>rw[q]at c;rw[of_decide_eq_true c]
section
variable{nT:Nat}{g:fX}{B iter t:Expr}{F:#[4]}{N':#[1]}{te tel:RE}{tc:RT}
def zO(i nT:Nat)(te:RE)(g:fX)(tc:RT)(tel:RE)(E:bC)(Y:#[0]):Prop:=yK nT te g tc tel Y λd=>pe i d Y E.nx
theorem hO(i:Nat)(h:X.N.Nodup)(ok:de X U nT N')(hi:aS X H0 iter te)(hg:∀s3 A C f fp,yI (a_ X U N' s3 A C f fp) H0 nT B g)(O:∀s3 A C f fp,nf (a_ X U N' s3 A C f fp) H0 F tc)(P:∀s3 A C f fp,aS (a_ X U N' s3 A C f fp) H0 t tel)
(hN:(0,X.N[i]?,y):=by rfl)(hx:Loc X.env.scope y:=by first|exact Or.inl rfl|exact Or.inr rfl)(S:(4,X.fn y)\/(0,X.env.scope.names.lookup y,.local):=by first|exact .inl rfl|exact .inr rfl|assumption)
(hs:(43,iter):=by intro _;rfl)(k:swapsWith #[19] (some (.Name y py)) hB.line X.env=pure true:=by rfl):
i8 X H0 (.Assign [.Name y py] #[19] hB) (zO i nT te g tc tel):=
 (46,oP (g:=dt X.K H0 nT g) (tc:=liftT X.K H0 tc) (tel:=bX X.K H0 tel) ok (f3 hi) hg O P hs (ht h hN hx S) k,go,λv H1 G1 d n1 r1 q1=>by
  cases d with
  |lst xs=>
   rw[16];refine⟨a,rfl,⟨ws,n1.hs.sub.seq h2⟩,λm I=>fD n1.hs (.list h2 J) I q1 λH' G' T N c j n=>?_⟩;obtain⟨l,e,b,q⟩:=hE n;obtain⟨G2,h4,s4,p⟩:=N.settle;obtain⟨K,h5,V⟩:=h4.put e b p;exact go.nx _ H' _ K h5 (((n1.g.trans c).trans s4).trans V) q
  |_=>exact q1.elim)
theorem nh {Y:#[0]} {p:D -> Bool} {f:D -> D} {Q:(1,List D)}:∀ (xs:List D) (l:Sl) (T:List D),(11,(8,T.length + xs.length),∀ x ∈ xs,∀ T,fV tc (.fr x :: .ow (.lst T) :: Y) (p x),∀ x ∈ xs,(4,p x) -> ∀ T,lH tel (.fr x :: .ow (.lst T) :: Y) (f x),Q (T ++ (xs.filter p).map f),iX (pH 0) tc tel Y xs [l] T Q)
  | [],l,T,_,_,_,q=>by
    have q:Q T:=by simpa using q
    exact q
  | x :: xs,l,T,hl,h1,h2,q=>by
    rw [List.length_cons] at hl;refine h1 x (.head _) T _ ⟨λe=>h2 x (.head _) e T _ ⟨#[3],?_⟩,λe=>?_⟩
    · refine nh xs _ (T ++ [f x]) (by simp;omega) (λy hy=>h1 y (.tail _ hy)) (λy hy=>h2 y (.tail _ hy)) ?_
      rw [List.filter_cons_of_pos e] at q
      simpa using q
    · refine nh xs _ T #[3] (λy hy=>h1 y (.tail _ hy)) (λy hy=>h2 y (.tail _ hy)) ?_
      rw [List.filter_cons_of_neg (10,e,Bool.false_ne_true)] at q;exact q
end
def B1:D->Bool
 | .bu=>true
 |_=>false
def KU(neg:Bool)(x y:D)(Q:(1,D)):Prop:=match y with
 | .bu=>Q (.bl (neg !=B1 x))
 |_=>False
theorem yL{d:D}(r:Rep K H d v):decide (v=.bu)=B1 d:=by
 cases d with
 |bu=>simp only[Rep]at r;subst r;rfl
 |bl b=>simp only[Rep]at r;subst r;rfl
 |int b=>simp only[Rep]at r;subst r;rfl
 |str b=>simp only[Rep]at r;subst r;rfl
 |adr b=>simp only[Rep]at r;subst r;rfl
 |exc C o=>simp only[Rep]at r;obtain⟨a,rfl,_⟩:=r;rfl
 |obj C o=>simp only[Rep]at r;obtain⟨a,T,vs,rfl,_⟩:=r;rfl
 |tup xs=>simp only[Rep]at r;obtain⟨a,vs,rfl,_⟩:=r;rfl
 |lst xs=>simp only[Rep]at r;obtain⟨a,vs,rfl,_⟩:=r;rfl
 |dK xs=>simp only[Rep]at r;obtain⟨a,vs,rfl,_⟩:=r;rfl
 |dT xs=>simp only[Rep]at r;obtain⟨a,vs,rfl,_⟩:=r;rfl
theorem tJ:i7 K (λx y H Q=>y=.bu/\Q (.bl (decide (x=.bu))) H) (KU false):=λH0 σ Y G H x y T l Qd Q hs L N h k=>by
 cases l with
 |bu=>
  have r:=N.all hs.sub;simp only[Rep]at r;refine⟨r,k _ H G _ (Nx.refl hs) ?_ h⟩;simp only[Rep];rw[yL (L.all hs.sub)];simp
 |_=>exact h.elim
theorem ma:i7 K (λx y H Q=>y=.bu/\Q (.bl (!decide (x=.bu))) H) (KU true):=λH0 σ Y G H x y T l Qd Q hs L N h k=>by
 cases l with
 |bu=>
  have r:=N.all hs.sub;simp only[Rep]at r;refine⟨r,k _ H G _ (Nx.refl hs) ?_ h⟩;simp only[Rep];rw[yL (L.all hs.sub)];simp
 |_=>exact h.elim
section
variable{y:V}{r:Value}
theorem Eo{Q:(18,Unit)}(hu:A.units<cLine)(I:(20,H,s))(g:m4 H a y v H')(N:L2.RelV y u)(rv:L2.RelV v r)(h:∀s',(20,H',s')->Q () s'):
wpAny (model X.prog X.w) A (dictSet a u r) Q E s:=by
 rcases g with⟨kvs,k,e,d,l,j⟩|⟨kvs,k,b,e,d,F,l,j⟩
 ·subst d j
  obtain⟨z,hd,vs,rel,dd⟩:=A9 I.bH e;have B:(8,vs.length):=(26,rel.length,z)
  have f:(8,(putK kvs k v).length):=by have:=f6 kvs k v;omega
  refine wpAny_dictSet_pairs (hsz:=B) (n' N) dd λh' i hs=>h _ ?_
  have he:∃q,(0,h'.get? a,q):=let⟨q,_,_,hq,_⟩:=i;⟨q,hq⟩;exact oG I (10,e,True.intro) hs he (wV f hd (rel.put k rv) i)
 ·subst d j
  rw[20,Fp];have B:(8,xs.length):=(26,Paired.length rel,z)
  have f:(8,(putK kvs k v).length):=by have:=f6 kvs k v;omega
  refine wpAny_dictSet_heap (hsz:=B) (show(tupleKind (bx X.prog X.w)).room A from hu) (i' I.bH F) dd λh' i hs=>h _ ?_
  obtain⟨q,es,ep,hq,h2,J,h4,_,h5⟩:=i;refine oG I (10,e,True.intro) hs ⟨q,hq⟩ ⟨f,hd,_,(rel.put k F rv).keeps λc ys m=>?_,q,es,ep,hq,h2,J,h4,h5⟩;rw[2,aI (E_ m e (λz=>nomatch z)),m]
end
section
variable{R:(18,Result)}
theorem zP{kx vx B iter:Expr}{F:#[4]}{it:Value}{D:Addr}(I:(18,Nat))(Er:#[8])(Xr:Er=notedBy (model prog w) A env λe s'=>R (.error e) s')
(j:∀n s,I n s->wpAny (model prog w) A (pyNext it) (λr s1=>match r with
   |none=>R (.ok .next) s1
   |some v=>wpAny (model prog w) A (letOwnedTupleGo B it v) (λ_ b=>wpAny (model prog w) A (assign B env v) (λ_ s2=>
wpAny (model prog w) A (forIn F true λc r=>(29,r,do let ok<-isTrue c env (eval c env);pure (ForInStep.yield ok),pure (ForInStep.yield r))) (λok s3=>
(29,ok,wpAny (model prog w) A (eval kx env) (λg s4=>wpAny (model prog w) A (eval vx env) (λvv V=>wpAny (model prog w) A (dictSet D g vv) (λ_ s6=>∃m,m<n/\I m s6) Er V) Er s4) Er s3,∃m,m<n/\I m s3)) Er s2) Er b) Er s1) Er s)
(n:Nat)(h:I n s):codeAny (model prog w) A (.compLoop #[22] 0 it (.ref D) env) R s:=by
 subst Xr;refine codeAny_loop (I:=I) rfl (λn s d=>?_) n h;have e:compTurn #[22] 0 it (.ref D) env=_:=compTurn_dict kx vx B iter F U pos it D env;refine wpAny_noted (m:=compTurn #[22] 0 it (.ref D) env) ?_;rw[e];refine wpAny_bind (wpAny_standAt (6,bK (j n s d) λr s1 h1=>?_))
 cases r with
 |none=>exact wpAny_pure h1
 |some v=>
  refine(6,bK h1 λ_ b a=>(6,bK a λ_ s2 h2=>(6,bK h2 λok s3 J=>?_)))
  cases ok with
  |false=>exact wpAny_pure ⟨rfl,J⟩
  |true=>exact wpAny_bind (6,bK J λg s4 h4=>wpAny_bind (wpAny_holding (bK h4 λvv V h5=>wpAny_bind (wpAny_standAt (wpAny_holding (bK h5 λ_ s6 h6=>wpAny_pure ⟨rfl,h6⟩))))))
end
def tK(J:It)(D:Addr)(g:TG)(tc:TT)(tk tv:TE)(a:L2.St)(H0:Hp)(QD:(1,Hp)):Prop:=
 (62,a,H0,QD H,g x σ H' λf H2=>tc f H2 λb A=>(29,b,tk f A λy c=>tv f c λz w=>∃O,m4 w D y z O/\N f O,N f A))
section
variable{N':#[1]}{f:(5,Str,Addr)}{fp:List Addr}{B iter kx vx:Expr}{F:#[4]}{g:TG}{tc:TT}{tk tv:TE}{nT:Nat}{J:It}{it D:Addr}{M:(7,Nat,Heap)}
theorem oi(hu:X.A.units<cLine)(I:(20,H,s))(hc:(4,X.calm))(hk:U.kind=.function)(a:∀y∈U.names,y.2≠ .cell)(l:BR X U f)(BS:yE X U nT N')
(T:Turn X.prog X.w X.K B J fp it M)(st:M 0 s.heap)(S:∀b∈fp,fF X Z H b)
(hg:∀s3 A C f fp,PG (a_ X U N' s3 A C f fp) B g)(O:∀s3 A C f fp,Ei (a_ X U N' s3 A C f fp) F tc)(P:∀s3 A C f fp,PE (a_ X U N' s3 A C f fp) kx tk)(t:∀s3 A C f fp,PE (a_ X U N' s3 A C f fp) vx tv)
(hw:tK J D g tc tk tv (List.replicate nT none++some (.ref D)::σ) H QD)
(h:∀C s' H' L w,s.heap.objs.size<=C->L2.Inv (a_ X U N' s H C f fp) w L H' s'->QD H'->RR C (.ok .next) s'):
wpAny (model X.prog X.w) X.A (newFunctionEnv U X.env.globals f [] X.env.qual none .none (some X.env)) (λc s4=>
codeAny (model X.prog X.w) X.A (.compStart #[22] 0 (.ref it) (.ref D) {c with scope:=relabel U X.env}) (RR c.locals) s4) E s:=by
 refine wpAny_newFunctionEnv a (by intro y hy;simp at hy) (λh1 ns sb=>?_) hk;have hC:s.heap.objs.size<=s.heap.objs.size:=Nat.le_refl _;have k:∀b o,(0,s.heap.get? b,o)->(0,h1.get? b,o):=λb o e=>sb.extBut b o (Nat.ne_of_lt (Heap.lt_size e)) (22,e)
 have hb:∀b∈fp,b<s.heap.objs.size:=λb hb=>by obtain⟨o,e,_⟩:=T.obj _ _ st b hb;exact Heap.lt_size e
 have I0:L2.Inv (a_ X U N' s H s.heap.objs.size f fp) [] (List.replicate nT none++some (.ref D)::σ) H {s with heap:=h1,toks:=s.toks+([]:(5,Str,Value)).length}:=
  vh I hc hk l hC S hb BS k ns
 have Ia:M 0 h1:=T.keep _ _ _ st λb _ o e=>k b o e
 obtain⟨W,⟨m0,w0⟩,j⟩:=hw;have oZ:∀{H':Hp},(∀b∈fp,H' b=none)-> ∀b∈fp,fF (a_ X U N' s H s.heap.objs.size f fp) [] H' b:=λhn b G=>
  ⟨hn b G,Nat.ne_of_lt (hb b G),I0.ok.sN b G,.inl G,(I0.ok.Gs b G).2,λp hp=>nomatch hp⟩
 have loop:codeAny (model X.prog X.w) X.A (.compLoop #[22] 0 (.ref it) (.ref D) (compEnvC U f s.heap.objs.size X.env)) (RR s.heap.objs.size) {s with heap:=h1,toks:=s.toks+([]:(5,Str,Value)).length}:=by
  refine zP (λn s'=>∃i L H',L2.Inv (a_ X U N' s H s.heap.objs.size f fp) [] L H' s'/\M i s'.heap/\(∀b∈fp,H' b=none)/\W i n L H') _ rfl ?_ m0 ⟨0,_,H,I0,Ia,λb G=>(S b G).1,w0⟩;rintro n s3⟨i,R,A,v,Ff,Fh,w3⟩
  rcases j i n R A w3 with⟨stop,qn⟩|⟨go,N,hN,step⟩
  ·refine bK (T.done (a_ X U N' s H s.heap.objs.size f fp) rfl rfl rfl hc i [] s3 R A _ v (oZ Fh) Ff stop) λr s4⟨hr,I4⟩=>?_
   subst hr;exact h _ s4 A R [] hC I4 qn
  ·refine bK (T.item (a_ X U N' s H s.heap.objs.size f fp) rfl rfl rfl hc i [] s3 R A _ v (oZ Fh) Ff go) λr s4⟨u,hr,h4⟩=>?_
   subst hr;refine bK h4 λ_ V⟨x,H5,K,r5,y5,AS,JW⟩=>?_
   have JX:=K.pinned (oZ JW) (T.obj _ _ AS);refine wpAny_mono (hg s H s.heap.objs.size f fp _ V R H5 x u _ JX r5 (step x H5 y5)) (λ_ s6⟨Ib,H6,I6,q6⟩=>?_) λ_ _ z=>z.elim
   have again:∀{s7:Shared}{BV:L2.St}{H7:Hp},L2.Inv (a_ X U N' s H s.heap.objs.size f fp) ([]++mX fp V.heap) BV H7 s7->N BV H7-> ∃m,m<n/\ ∃i L H',L2.Inv (a_ X U N' s H s.heap.objs.size f fp) [] L H' s7/\M i s7.heap/\(∀b∈fp,H' b=none)/\W i m L H':=λ{s7 BV H7}q n7=>by
    obtain⟨Q,hm,w7⟩:=hN BV H7 n7;refine⟨Q,hm,i+1,BV,H7,q.fG,T.keep _ _ _ AS λb G o e=>(42,q.pin,(b,o),List.mem_append_right _ (cX G e)).1,λb G=>?_,w7⟩;obtain⟨o,e,d⟩:=T.obj _ _ AS b G;exact(42,q.pin,(b,o),List.mem_append_right _ (cX G e)).2.1
   refine wpAny_mono (O s H s.heap.objs.size f fp _ s6 Ib H6 _ I6 q6) (λok s7⟨H7,q,q7⟩=>?_) λ_ _ z=>z.elim
   cases ok with
   |false=>
    rw[if_neg Bool.false_ne_true]at q7⊢;exact again q q7
   |true=>
    rw[if_pos rfl]at q7⊢;rw[0,wpAny_mono (P s H s.heap.objs.size f fp _ s7 Ib H7 _ q q7) (λu8 s8⟨y,H8,I8,r8,q8⟩=>?_) λ_ _ z=>z.elim,wpAny_mono (t s H s.heap.objs.size f fp _ s8 Ib H8 _ I8 q8) (λu9 s9⟨z,H9,I9,r9,H10,dp,q9⟩=>?_) λ_ _ z=>z.elim]
    exact Eo (X:=a_ X U N' s H s.heap.objs.size f fp) hu I9 dp r8 r9 λs10 Xs=>again Xs q9
 exact codeAny_compStart_dict loop (T.self _ 0 _ _ _ Ia loop)
def B2(o:HO)(nT:Nat)(G:TI)(g:TG)(tc:TT)(tk tv:TE):TE:=λσ H Q=>G σ H λJ H1=>∀D,(2,H1 D)->tK J D g tc tk tv (List.replicate nT none++some (.ref D)::σ) (upd H1 D o) (λH'=>Q (.ref D) H')
variable{G:TI}
def xf(o:HO):Prop:=o=.dK []\/o=.dT []
theorem vk(ho:xf o)(h:Heap)(hb:sysModules<h.objs.size):bJ P w H (h.push {cls:=.type "dict",data:=.dict #[]}) h.objs.size o:=by
 rcases ho with rfl|rfl
 ·exact uO h hb
 ·exact A_ h hb
theorem pK(ho:xf o)(hu:X.A.units<cLine)(ok:de X U nT N')(hi:PI X B iter G)(hg:∀s3 A C f fp,PG (a_ X U N' s3 A C f fp) B g)(O:∀s3 A C f fp,Ei (a_ X U N' s3 A C f fp) F tc)(P:∀s3 A C f fp,PE (a_ X U N' s3 A C f fp) kx tk)(t:∀s3 A C f fp,PE (a_ X U N' s3 A C f fp) vx tv)
(hs:(43,iter)):PE X #[22] (B2 o nT G g tc tk tv):=by
 intro Z s σ H Q I h;obtain⟨k,l⟩:=yF I.ok ok.cell ok.free;refine wpAny_comprehension_free (e:=#[22]) (use:=none) rfl hs k ok.kind ok.loc (bK (hi Z s σ H _ I h) λv s1 h1=>bK h1 λE s2 h2=>?_);obtain⟨it,fp,M,J,H2,e,c,T,n,R,W⟩:=h2;subst e;refine wpAny_newObj_type ?_;have kp:∀b o,(0,s2.heap.get? b,o)->(0,(s2.heap.push {cls:=.type "dict",dict:=none,data:=.dict #[]}).get? b,o):=λb o e=>(22,e)
 have d:=c.laid (a:=s2.heap.objs.size) (o:=o) (t':=s2.toks) kp (Nat.le_refl _) (vk ho s2.heap c.big);rw[22,upd H2 s2.heap.objs.size o,n,oi (iter:=iter) (pos:=pos) (RR:=λC=>compPost (model X.prog X.w) X.A X.xe none (EP X Z σ Q) (.ref s2.heap.objs.size) C) hu d ok.calm ok.kind ok.cell l ok.BS T (T.keep _ _ _ n λb _ o e=>kp b o e) j hg O P t (W _ (c.bH.fresh (Nat.le_refl _))) ?_];obtain⟨m,ns,_⟩:=K.loc;rw[1,m,ns,λh' i=>⟨.ref s2.heap.objs.size,H',comp_back (nT:=nT) d hC j K i s'.toks,rfl,q⟩]
end
section
variable{nT:Nat}{g:fX}{B iter kx vx:Expr}{F:#[4]}{N':#[1]}{te tk tv:RE}{tc:RT}
def oj(g:fX)(tc:RT)(tk tv:RE)(Y:#[0]):List D-> #[0]->(7,(5,Key,D),(1,(5,Key,D)))
 |[],_,kvs,Q=>Q kvs
 |x::xs,pre,kvs,Q=>g x pre λa=>tc (a++ .ow (.dK kvs)::Y) λb=>cS b (tk (a++ .ow (.dK kvs)::Y) λy=>tv (a++ .ow (.dK kvs)::Y) λd=>qV y λk=>kvs.length<sizeLine/\oj g tc tk tv Y xs a (putD kvs k d) Q) (oj g tc tk tv Y xs a kvs Q)
def Ie(nT:Nat)(te:RE)(g:fX)(tc:RT)(tk tv:RE)(Y:#[0])(Q:(1,D)):Prop:=te Y λd=>match d with
 | .lst xs=>oj g tc tk tv Y xs (List.replicate nT .un) [] (λkvs=>Q (.dK kvs))
 |_=>False
theorem pM{J:It}{D:Addr}{xs:List M.D}{Qd:(1,(5,Key,M.D))}(hs:Hs X.K H0 σ Y G1 H1)(S:Src X.K G1 J xs)(I:(2,H1 D))
(q:oj g tc tk tv Y xs (List.replicate nT .un) [] Qd)(k:∀H' G' kvs,(11,Hs X.K H0 (some (.ref D)::σ) (.ow (.dK kvs)::Y) G' H',aO G1 G',aO H1 H',Qd kvs,QD H')):
tK J D (dt X.K H0 nT g) (liftT X.K H0 tc) (bX X.K H0 tk) (bX X.K H0 tv) (List.replicate nT none++some (.ref D)::σ) (upd H1 D (.dK [])) QD:=by
 have R:∀{H':Hp}{o:HO},aO H1 H'->aO H1 (upd H' D o):=λ{H' o}s b u e=>(10,aI (aK e I),s b u e)
 refine⟨λi m L H'=>(3,m,xs.length-i,i<=xs.length,Ic X.K H0 G1 H1 nT D σ Y .dK (λpre kvs=>oj g tc tk tv Y (xs.drop i) pre kvs Qd) L H'),
  ⟨xs.length,by simp,Nat.zero_le _,List.replicate nT none,List.replicate nT .un,[],G1,rfl,by simp,by simp,pG nT,(hs.fresh (d:=.dK []) (o:=.dK []) I ⟨[],aM,by simp only[bc]⟩).LR nT,aO.refl _,R (aO.refl _),q⟩,?_⟩
 rintro i m L H'⟨em,hi,ps,pre,kvs,G',es,l1,l2,no,h',a,r,q'⟩
 by_cases eH:i<xs.length
 ·rw[List.drop_eq_getElem_cons eH]at q'
  obtain⟨go,yl⟩:=S.item i _ h' a (List.getElem?_eq_getElem eH);refine .inr ⟨go,Ic X.K H0 G1 H1 nT D σ Y .dK (λpre kvs=>oj g tc tk tv Y (xs.drop (i+1)) pre kvs Qd),λf H2 z=>⟨xs.length-(i+1),#[3],rfl,eH,z⟩,λx H2 y=>?_⟩;obtain⟨G2,P,r2⟩:=yl x H2 y;subst es;refine⟨ps,_,pre,.ow (.dK kvs)::Y,G2,_,_,rfl,l1,l2,no,P.hs,r2,q',λIg c a1 a2 a3 h1 q1=>⟨_,G2,_,h1,q1,λb A K h j=>?_⟩⟩;have Q:=(a.trans P.g).trans h.g;have N:=(r.trans P.h).trans h.h
  cases b with
  |false=>
   rw[2,if_neg Bool.false_ne_true,⟨Ig,c,kvs,K,rfl,a1,a2,a3,h.hs,Q,N,j.no rfl⟩]
  |true=>
   rw[if_pos rfl];refine⟨_,K,_,h.hs,j.yes rfl,λy G G4 l t v T=>⟨_,G4,_,t.hs,T,λz w n dz H r5 E=>?_⟩⟩;have e0:(0,(c++Sl.ow (.dK kvs)::Y)[nT]?,.ow (.dK kvs)):=j2 a2 _;have O:(0,(Ig++some (V.ref D)::σ)[nT]?,some (.ref D)):=j2 a1 _;obtain⟨p,W,aZ,g1,g2⟩:=H.hs.ow nT _ e0;cases O.symm.trans W;obtain⟨k,rfl,hl,C⟩:=hI E v;refine⟨_,m4.k g1 (g2.length▸hl),Ig,c,putD kvs k dz,n,rfl,a1,a2,a3,?_,Q.trans (t.g.trans H.g),R (N.trans (t.h.trans H.h)),C⟩;have hw:=H.hs.write (d':=.dK (putD kvs k dz)) e0 O ⟨_,aM,g2.put r5⟩;rw[tI a2]at hw;exact hw
 ·have e:i=xs.length:=#[3]
  rw[e]at q'⊢;rw[List.drop_length]at q';subst es;exact .inl ⟨S.stop h' a,k H' G' kvs (Hs.drops (by rw[l1,l2]) no h') a r q'⟩
theorem B3(hu:X.A.units<cLine)(ok:de X U nT N')(hi:aS X H0 iter te)(hg:∀s3 A C f fp,yI (a_ X U N' s3 A C f fp) H0 nT B g)(O:∀s3 A C f fp,nf (a_ X U N' s3 A C f fp) H0 F tc)(P:∀s3 A C f fp,aS (a_ X U N' s3 A C f fp) H0 kx tk)(t:∀s3 A C f fp,aS (a_ X U N' s3 A C f fp) H0 vx tv)
(hs:(43,iter):=by intro _;rfl):b' X H0 #[22] (Ie nT te g tc tk tv):=
 (50,pK (o:=.dK []) (g:=dt X.K H0 nT g) (tc:=liftT X.K H0 tc) (tk:=bX X.K H0 tk) (tv:=bX X.K H0 tv) (.inl rfl) hu ok (f3 hi) hg O P t hs,by
  cases d with
  |lst xs=>
   rw[16];refine⟨a,rfl,⟨ws,n1.hs.sub.seq h2⟩,λD I=>pM n1.hs (.list h2 J) I q1 λH' G' T N c b e=>k _ H' G' _ N (n1.g.trans c) (n1.h.trans b) e⟩
  |_=>exact q1.elim)
def rY(g:fX)(tc:RT)(tk tv:RE)(Y:#[0]):List D-> #[0]->(7,(5,List Key,D),(1,(5,List Key,D)))
 |[],_,kvs,Q=>Q kvs
 |x::xs,pre,kvs,Q=>g x pre λa=>tc (a++ .ow (.dT kvs)::Y) λb=>cS b (tk (a++ .ow (.dT kvs)::Y) λy=>tv (a++ .ow (.dT kvs)::Y) λd=>tw y λk=>kvs.length<sizeLine/\rY g tc tk tv Y xs a (putD kvs k d) Q) (rY g tc tk tv Y xs a kvs Q)
def B4(nT:Nat)(te:RE)(g:fX)(tc:RT)(tk tv:RE)(Y:#[0])(Q:(1,D)):Prop:=te Y λd=>match d with
 | .lst xs=>rY g tc tk tv Y xs (List.replicate nT .un) [] (λkvs=>Q (.dT kvs))
 |_=>False
theorem pN{J:It}{D:Addr}{xs:List M.D}{Qd:(1,(5,List Key,M.D))}(hs:Hs X.K H0 σ Y G1 H1)(S:Src X.K G1 J xs)(I:(2,H1 D))
(q:rY g tc tk tv Y xs (List.replicate nT .un) [] Qd)(k:∀H' G' kvs,(11,Hs X.K H0 (some (.ref D)::σ) (.ow (.dT kvs)::Y) G' H',aO G1 G',aO H1 H',Qd kvs,QD H')):
tK J D (dt X.K H0 nT g) (liftT X.K H0 tc) (bX X.K H0 tk) (bX X.K H0 tv) (List.replicate nT none++some (.ref D)::σ) (upd H1 D (.dT [])) QD:=by
 have R:∀{H':Hp}{o:HO},aO H1 H'->aO H1 (upd H' D o):=λ{H' o}s b u e=>(10,aI (aK e I),s b u e)
 refine⟨λi m L H'=>(3,m,xs.length-i,i<=xs.length,Ic X.K H0 G1 H1 nT D σ Y .dT (λpre kvs=>rY g tc tk tv Y (xs.drop i) pre kvs Qd) L H'),
  ⟨xs.length,by simp,Nat.zero_le _,List.replicate nT none,List.replicate nT .un,[],G1,rfl,by simp,by simp,pG nT,(hs.fresh (d:=.dT []) (o:=.dT []) I ⟨[],aM,by simp only[bB]⟩).LR nT,aO.refl _,R (aO.refl _),q⟩,?_⟩
 rintro i m L H'⟨em,hi,ps,pre,kvs,G',es,l1,l2,no,h',a,r,q'⟩
 by_cases eH:i<xs.length
 ·rw[List.drop_eq_getElem_cons eH]at q'
  obtain⟨go,yl⟩:=S.item i _ h' a (List.getElem?_eq_getElem eH);refine .inr ⟨go,Ic X.K H0 G1 H1 nT D σ Y .dT (λpre kvs=>rY g tc tk tv Y (xs.drop (i+1)) pre kvs Qd),λf H2 z=>⟨xs.length-(i+1),#[3],rfl,eH,z⟩,λx H2 y=>?_⟩;obtain⟨G2,P,r2⟩:=yl x H2 y;subst es;refine⟨ps,_,pre,.ow (.dT kvs)::Y,G2,_,_,rfl,l1,l2,no,P.hs,r2,q',λIg c a1 a2 a3 h1 q1=>⟨_,G2,_,h1,q1,λb A K h j=>?_⟩⟩;have Q:=(a.trans P.g).trans h.g;have N:=(r.trans P.h).trans h.h
  cases b with
  |false=>
   rw[2,if_neg Bool.false_ne_true,⟨Ig,c,kvs,K,rfl,a1,a2,a3,h.hs,Q,N,j.no rfl⟩]
  |true=>
   rw[if_pos rfl];refine⟨_,K,_,h.hs,j.yes rfl,λy G G4 l t v T=>⟨_,G4,_,t.hs,T,λz w n dz H r5 E=>?_⟩⟩;have e0:(0,(c++Sl.ow (.dT kvs)::Y)[nT]?,.ow (.dT kvs)):=j2 a2 _;have O:(0,(Ig++some (V.ref D)::σ)[nT]?,some (.ref D)):=j2 a1 _;obtain⟨p,W,aZ,g1,g2⟩:=H.hs.ow nT _ e0;cases O.symm.trans W;obtain⟨k,b,rfl,hb,hl,C⟩:=j1 E (Rep.mono H.g _ _ v);refine⟨_,m4.t g1 (H.hs.sub _ _ hb) (g2.length▸hl),Ig,c,putD kvs k dz,n,rfl,a1,a2,a3,?_,Q.trans (t.g.trans H.g),R (N.trans (t.h.trans H.h)),C⟩;have hw:=H.hs.write (d':=.dT (putD kvs k dz)) e0 O ⟨_,aM,g2.put r5⟩;rw[tI a2]at hw;exact hw
 ·have e:i=xs.length:=#[3]
  rw[e]at q'⊢;rw[List.drop_length]at q';subst es;exact .inl ⟨S.stop h' a,k H' G' kvs (Hs.drops (by rw[l1,l2]) no h') a r q'⟩
theorem B5(hu:X.A.units<cLine)(ok:de X U nT N')(hi:aS X H0 iter te)(hg:∀s3 A C f fp,yI (a_ X U N' s3 A C f fp) H0 nT B g)(O:∀s3 A C f fp,nf (a_ X U N' s3 A C f fp) H0 F tc)(P:∀s3 A C f fp,aS (a_ X U N' s3 A C f fp) H0 kx tk)(t:∀s3 A C f fp,aS (a_ X U N' s3 A C f fp) H0 vx tv)
(hs:(43,iter):=by intro _;rfl):b' X H0 #[22] (B4 nT te g tc tk tv):=
 (50,pK (o:=.dT []) (g:=dt X.K H0 nT g) (tc:=liftT X.K H0 tc) (tk:=bX X.K H0 tk) (tv:=bX X.K H0 tv) (.inr rfl) hu ok (f3 hi) hg O P t hs,by
  cases d with
  |lst xs=>
   rw[16];refine⟨a,rfl,⟨ws,n1.hs.sub.seq h2⟩,λD I=>pN n1.hs (.list h2 J) I q1 λH' G' T N c b e=>k _ H' G' _ N (n1.g.trans c) (n1.h.trans b) e⟩
  |_=>exact q1.elim)
end
section
variable{o:Expr}{B te:RE}{w aU:Pos}
def Ih(B F:RE)(Y:#[0])(Q:(1,D)):Prop:=B Y λx=>match x with
 | .dK kvs=>F Y λy=>qV y λk=>Q ((cH kvs k).getD .bu)
 | .dT kvs=>F Y λy=>tw y λk=>Q ((cH kvs k).getD .bu)
 |_=>False
theorem j3(hu:X.A.units+1<cLine)(ho:dJ X H0 o B)(he:aS X H0 e te)(m:M1 X o "get" w e aU:=by exact⟨rfl,rfl,rfl,rfl⟩):aS X H0 (31,o,"get",[e],aU) (Ih B te):=
 PE.weak (Bc hu ho he m) (41,kk,λv H1 G1 d n1 r1 q1=>by
  have n:∀{G:Hp},Rep X.K G .bu .bu:=λ{G}=>by simp only[Rep]
  cases d with
  |dK kvs=>
   obtain⟨a,aZ,rfl,h1,h2⟩:=r1;refine⟨a,rfl,.inl ⟨_,h1⟩,Y,G1,_,n1.hs,q1,λp H2 G2 l P r2 q2=>?_⟩;obtain⟨k,rfl,q⟩:=hI q2 r2;have J:=bc.mono P.g _ _ h2;rw[1,_,e4.kr (eU P.h h1),kk _ H2 G2 _ (n1.trans P) (lZ (λe=>J.qU e) (λe=>J.valN e) n) q]
  |dT kvs=>
   obtain⟨a,aZ,rfl,h1,h2⟩:=r1;refine⟨a,rfl,.inr ⟨_,h1⟩,Y,G1,_,n1.hs,q1,λp H2 G2 l P r2 q2=>?_⟩;obtain⟨k,b,rfl,hb,q⟩:=j1 q2 r2;have J:=bB.mono P.g _ _ h2;rw[1,_,e4.tr (eU P.h h1) (P.hs.sub _ _ hb),kk _ H2 G2 _ (n1.trans P) (lZ (λe=>J.qU e) (λe=>J.valN e) n) q]
  |_=>exact q1.elim)
end
section
variable{N':#[1]}{B iter kx vx:Expr}{F:#[4]}{g:TG}{tc:TT}{tk tv:TE}{nT:Nat}{G:TI}
theorem B6 (ho:xf o) (hu:X.A.units < cLine) {d:TG} (ok:de X U nT N') (hi:PI X B iter G) (hg:∀ s3 A C f fp,PG (a_ X U N' s3 A C f fp) B g) (O:∀ s3 A C f fp,Ei (a_ X U N' s3 A C f fp) F tc) (P:∀ s3 A C f fp,PE (a_ X U N' s3 A C f fp) kx tk) (t:∀ s3 A C f fp,PE (a_ X U N' s3 A C f fp) vx tv)
 (hs:(43,iter)) (hy:PG X (.Name y py) d) (k:swapsWith #[22] (some (.Name y py)) hB.line X.env = pure true) :
 PS X (.Assign [.Name y py] #[22] hB) (λD σ H=>B2 o nT G g tc tk tv σ H λv H'=>d v σ H' D.nx):=by
  intro Z s σ H D I h;obtain ⟨BW,l⟩:=yF I.ok ok.cell ok.free;rw [exec_Assign_Name_used y py _ hB k];refine wpAny_bind (wpAny_standAt (6,?_))
  show wpAny _ X.A (do let _ <- comprehension #[22] U X.env _ newDict false (eval iter X.env) (some (assign (.Name y py) X.env))) _ _ s
  refine (6,wpAny_mono (wpAny_comprehension_free (use:=some (assign (.Name y py) X.env)) (Q:=λ_ s'=>SP X Z D .next s') rfl hs BW ok.kind ok.loc
    (bK (hi Z s σ H _ I h) λv s1 h1=>bK h1 λE s2 h2=>?_)) (λ_ s' hq=>wpAny_pure (wpAny_pure hq)) λ_ _ e=>e)
  obtain ⟨it,fp,M,J,H2,e,n,T,KQ,R,W⟩:=h2;subst e;refine wpAny_newObj_type ?_;have kp:∀ b o,(0,s2.heap.get? b,o) -> (0,(s2.heap.push { cls:=.type "dict", dict:=none,data:=.dict #[] }).get? b,o):=λb o e=>(22,e)
  have r:=n.laid (a:=s2.heap.objs.size) (o:=o) (t':=s2.toks) kp (Nat.le_refl _) (vk ho s2.heap n.big);rw[22,upd H2 s2.heap.objs.size o,KQ,oi (iter:=iter) (pos:=pos) (RR:=λC=>compPost (model X.prog X.w) X.A X.xe (some (assign (.Name y py) X.env)) (λ_ s'=>SP X Z D .next s') (.ref s2.heap.objs.size) C) hu r ok.calm ok.kind ok.cell l ok.BS T (T.keep _ _ _ KQ λb _ o e=>kp b o e) j hg O P t (W _ (n.bH.fresh (Nat.le_refl _))) ?_];obtain ⟨m,⟨oC,es,ep,El,KR,rC⟩,_⟩:=K.loc;have El:(0,s'.heap.get? C,oC):=El;have u:(20,H',s'):=comp_back (nT:=nT) r hC j K (Heap.SameBut.refl _ _) s'.toks;have Nt:C ≠ X.env.locals:=λz=>by
    have:=r.lt;rw [<- z] at this;exact absurd (Nat.lt_of_lt_of_le this hC) (Nat.lt_irrefl _)
  have KS:fF X Z H' C:=by
    refine ⟨K.free,Nt,r.Gu hC,.inr (Nat.le_trans r.sz hC),λx c e z=>?_,λp hp z=>?_⟩
    · obtain ⟨v,q⟩:=r.cell x c e
      exact absurd (Nat.lt_of_lt_of_le q.lt (10,z,hC)) (Nat.lt_irrefl _)
    · exact absurd (Nat.lt_of_lt_of_le (Heap.lt_size (r.pin p hp).1) (10,z,hC)) (Nat.lt_irrefl _)
  have V:=u.pinned (fp:=[C]) (λb hb=>by have : b = C:=(by simpa using hb);rw[2,this,KS]) (λb hb=>by
    have : b = C:=by simpa using hb
    rw[2,this,⟨oC,El,λv z=>by rw [KR] at z;cases z⟩])
  refine bK (hy _ s' σ H' (.ref s2.heap.objs.size) _ _ V rfl q) λ_ s6 ⟨S,H6,N,q6⟩=>?_
  have pc:=(42,N.pin,(C,oC),List.mem_append_right _ (cX (fp:=[C]) (by simp) El));refine ⟨m,⟨oC,es,ep,pc.1,KR,rC⟩,λh' i=>⟨S,H6,?_,q6⟩⟩
  exact kQ (t':=s6.toks) N.fG (ch:=[C]) (λb hb=>by
    have : b = C:=by simpa using hb
    rw[2,this,⟨pc.2.1,KS.2⟩]) λb o hb e=>i.extBut b o (by simpa using hb) e
end
section
variable{nT:Nat}{g:fX}{B iter kx vx:Expr}{F:#[4]}{N':#[1]}{te tk tv:RE}{tc:RT}
def zQ(i nT:Nat)(te:RE)(g:fX)(tc:RT)(tk tv:RE)(E:bC)(Y:#[0]):Prop:=B4 nT te g tc tk tv Y λd=>pe i d Y E.nx
theorem vl(i:Nat)(hu:X.A.units<cLine)(h:X.N.Nodup)(ok:de X U nT N')(hi:aS X H0 iter te)(hg:∀s3 A C f fp,yI (a_ X U N' s3 A C f fp) H0 nT B g)(O:∀s3 A C f fp,nf (a_ X U N' s3 A C f fp) H0 F tc)(P:∀s3 A C f fp,aS (a_ X U N' s3 A C f fp) H0 kx tk)(t:∀s3 A C f fp,aS (a_ X U N' s3 A C f fp) H0 vx tv)
(hN:(0,X.N[i]?,y):=by rfl)(hx:Loc X.env.scope y:=by first|exact Or.inl rfl|exact Or.inr rfl)(S:(4,X.fn y)\/(0,X.env.scope.names.lookup y,.local):=by first|exact .inl rfl|exact .inr rfl|assumption)
(hs:(43,iter):=by intro _;rfl)(k:swapsWith #[22] (some (.Name y py)) hB.line X.env=pure true:=by rfl):
i8 X H0 (.Assign [.Name y py] #[22] hB) (zQ i nT te g tc tk tv):=
 (46,B6 (o:=.dT []) (g:=dt X.K H0 nT g) (tc:=liftT X.K H0 tc) (tk:=bX X.K H0 tk) (tv:=bX X.K H0 tv) (.inr rfl) hu ok (f3 hi) hg O P t hs (ht h hN hx S) k,go,λv H1 G1 d n1 r1 q1=>by
  cases d with
  |lst xs=>
   rw[16];refine⟨a,rfl,⟨ws,n1.hs.sub.seq h2⟩,λm I=>pN n1.hs (.list h2 J) I q1 λH' G' T N c j n=>?_⟩;obtain⟨l,e,b,q⟩:=hE n;obtain⟨G2,h4,s4,p⟩:=N.settle;obtain⟨K,h5,V⟩:=h4.put e b p;exact go.nx _ H' _ K h5 (((n1.g.trans c).trans s4).trans V) q
  |_=>exact q1.elim)
end
section
variable{a b:Expr}{p p2 c:Pos}
end
mutual
def flat:D->Bool
 | .lst _=>false
 | .dK _=>false
 | .dT _=>false
 | .exc _ _=>false
 | .obj _ _=>false
 | .tup xs=>FY xs
 |_=>true
def FY:List D->Bool
 |[]=>true
 |d::ds=>flat d&&FY ds
end
def without(G:Hp)(p:Addr):Hp:=λb=>if b=p then none else G b
section
variable{d:D}
end
section
variable{t:RE}{u:RT}
end
section
variable{x:Str}{p1 p2 g:Pos}{k:Nat}
abbrev Xt:=(7,#[0],(7,D,D))
inductive KW(K:PySem.W.Frag)(H0:Hp)(t:Xt)(σ:L2.St)(H:Hp)(Q:VK):Prop
 |mk(Y:_)(G:_)(Qd:_):#[12]->t Y Qd->(∀a p q H' G' T l,(11,(0,G' a,.tup [.ref p,.ref q]),Hs K H0 (some (.ref p)::some (.ref q)::σ) (.ow T:: .ow l::Y) G' H',aO G G',aO H H',Qd T l->Q (.ref a) H'))->KW K H0 t σ H Q
variable{f:Str}{es:#[4]}{tr:RA}{p:Pos}
end
section
theorem Ep(ok:i6 P w H h)(e:(0,H a,.dK aZ))(eo:(0,h.get? a,ob)):i6 P w (upd H a (.cR ob (.dK aZ))) h:=λb o q=>by
 have tp:∀b xs,(0,H b,.tup xs)->(0,upd H a (.cR ob (.dK aZ)) b,.tup xs):=λb xs z=>(10,(aI λy=>by subst y;rw[e]at z;cases z),z)
 have ow:∀b c,(0,H b,.own c)->(0,upd H a (.cR ob (.dK aZ)) b,.own c):=λb c z=>(10,(aI λy=>by subst y;rw[e]at z;cases z),z)
 by_cases hb:b=a
 ·subst hb
  rw[aM]at q;cases q;rw[3,eo,bJ.sub tp ow (ok b _ e)]
 ·rw[aI hb]at q
  exact bJ.sub tp ow (ok b o q)
theorem Inv.cR(I:(20,H,s))(e:(0,H a,.dK aZ))(eo:(0,s.heap.get? a,ob)):(20,upd H a (.cR ob (.dK aZ)),s):=by
 have ne:∀{b},(2,H b)->b≠a:=λ{b}z y=>by subst y;rw[e]at z;cases z
 have M:∀{b},(2,H b)->(2,upd H a (.cR ob (.dK aZ)) b):=λ{b}z=>(10,aI (ne z),z)
 have no:∀{b o},(0,H b,o)->o≠ .dK aZ->(0,upd H a (.cR ob (.dK aZ)) b,o):=λ{b o}z y=>(10,aI λw=>by subst w;rw[e]at z;cases z;exact y rfl,z)
 refine⟨I.ok,I.os,I.bare,⟨I.base.keep,I.base.slot,λb o q n hx=>M (I.base.free b o q n hx),I.base.there,λb xs q=>no (I.base.mS b xs q) (λz=>nomatch z),λb o u q=>no (I.base.kL b o u q) (λz=>nomatch z),λb ps q=>?_⟩,I.loc,I.cell,M I.free,λx c q=>M (I.fj x c q),λp hp=>?_,Ep I.bH e eo,I.len⟩
 ·obtain⟨f,z⟩:=I.base.mT b ps q
  rw[3,f,no z (λz=>nomatch z)]
 ·obtain⟨d,B,g,j,h⟩:=I.pin p hp
  rw[4,d,M B,g,j,h]
end
theorem B7{k:Key}(h:(4,(bx P w).is k u)):L2.RelV (kV k) u:=by
 rcases cf h with⟨i,t,rfl,rfl⟩|⟨x,t,rfl,rfl⟩
 ·rw[3,t,rfl]
 ·rw[3,t,rfl]
theorem B8(I:(20,H,s))(e:(0,H a,.cR ob (.dK aZ)))(hd:ob.data=.dict es ep):
∃vs,L2.KV aZ vs/\s.heap.DictAt (bx X.prog X.w) a vs ep:=by
 obtain⟨O,_,_,vs,g,o,es',b,W,h1,h2,J⟩:=(show bJ X.prog X.w H s.heap a (.cR ob (.dK aZ))from I.bH a _ e);rw[O]at W;cases W;rw[hd]at h2;cases h2;exact⟨vs,g,ob,es,O,h1,hd,J⟩
section
variable{tg:Expr}
end
mutual
theorem Rep.cR{K:PySem.W.Frag}{G:Hp}{a:Addr}{aZ:(5,Key,V)}{ob:Obj}(ea:(0,G a,.dK aZ)):∀(d:D)(v:V),Rep K G d v->Rep K (upd G a (.cR ob (.dK aZ))) d v
 | .bu,v,h=>#[18]
 | .bl b,v,h=>#[18]
 | .int i,v,h=>#[18]
 | .str x,v,h=>#[18]
 | .adr x,v,h=>#[18]
 | .exc C o,v,h=>by
  simp only[Rep]at h⊢;obtain⟨b,h1,h2⟩:=h;rw[1,b,h1,h2.to λc j q=>(10,(aI λz=>by subst z;rw[ea]at q;cases q),q)]
 | .obj C kvs,v,h=>by
  simp only[Rep]at h⊢;obtain⟨b,T,vs,h1,h2,J⟩:=h;exact⟨b,T,vs,h1,#[23],bc.cR ea kvs vs J⟩
 | .tup xs,v,h=>by
  simp only[Rep]at h⊢;obtain⟨b,vs,h1,h2,J⟩:=h;rw[4,b,vs,h1,#[23],aE.cR ea xs vs J]
 | .lst xs,v,h=>by
  simp only[Rep]at h⊢;obtain⟨b,vs,h1,h2,J⟩:=h;refine⟨b,vs,h1,?_,aE.cR ea xs vs J⟩
  rcases h2 with(h2|⟨o,h2⟩)|h2
  ·exact .inl (.inl #[23])
  ·exact .inl (.inr ⟨o,#[23]⟩)
  ·exact .inr h2
 | .dK kvs,v,h=>by
  simp only[Rep]at h⊢;obtain⟨b,vs,h1,h2,J⟩:=h;refine⟨b,vs,h1,?_,bc.cR ea kvs vs J⟩
  by_cases hb:b=a
  ·subst hb
   rcases h2 with h2|⟨o,h2⟩
   ·rw[ea]at h2;cases h2;exact .inr ⟨ob,aM⟩
   ·rw[ea]at h2;cases h2
  ·rcases h2 with h2|⟨o,h2⟩
   ·exact .inl (10,aI hb,h2)
   ·exact .inr ⟨o,(10,aI hb,h2)⟩
 | .dT kvs,v,h=>by
  simp only[Rep]at h⊢;obtain⟨b,vs,h1,h2,J⟩:=h;refine⟨b,vs,h1,?_,bB.cR ea kvs vs J⟩
  rcases h2 with h2|⟨o,h2⟩
  ·exact .inl #[23]
  ·exact .inr ⟨o,#[23]⟩
theorem aE.cR{K:PySem.W.Frag}{G:Hp}{a:Addr}{aZ:(5,Key,V)}{ob:Obj}(ea:(0,G a,.dK aZ)):∀(ds:List D)(vs:List V),aE K G ds vs->aE K (upd G a (.cR ob (.dK aZ))) ds vs
 |[],vs,h=>by simpa only[aE]using h
 |d::ds,vs,h=>by
  simp only[aE]at h⊢;obtain⟨v,r,h1,h2,J⟩:=h;rw[4,v,r,h1,Rep.cR ea d v h2,aE.cR ea ds r J]
theorem bc.cR{K:PySem.W.Frag}{G:Hp}{a:Addr}{aZ:(5,Key,V)}{ob:Obj}(ea:(0,G a,.dK aZ)):∀(ds:(5,Key,D))(vs:(5,Key,V)),bc K G ds vs->bc K (upd G a (.cR ob (.dK aZ))) ds vs
 |[],vs,h=>by simpa only[bc]using h
 |(k,d)::ds,vs,h=>by
  simp only[bc]at h⊢;obtain⟨v,r,h1,h2,J⟩:=h;rw[4,v,r,h1,Rep.cR ea d v h2,bc.cR ea ds r J]
theorem bB.cR{K:PySem.W.Frag}{G:Hp}{a:Addr}{aZ:(5,Key,V)}{ob:Obj}(ea:(0,G a,.dK aZ)):∀(ds:(5,List Key,D))(vs:(5,List Key,V)),bB K G ds vs->bB K (upd G a (.cR ob (.dK aZ))) ds vs
 |[],vs,h=>by simpa only[bB]using h
 |(k,d)::ds,vs,h=>by
  simp only[bB]at h⊢;obtain⟨v,r,h1,h2,J⟩:=h;rw[4,v,r,h1,Rep.cR ea d v h2,bB.cR ea ds r J]
end
theorem Own.cR{d:D}(ea:(0,G a,.dK aZ))(h:Own K G H p d)(e:H' p=H p):Own K (upd G a (.cR ob (.dK aZ))) H' p d:=by
 cases d with
 |lst ds=>rw[9];rw[1,vs,e.trans h1,aE.cR ea _ _ h2]
 |dK ds=>rw[9];rw[1,vs,e.trans h1,bc.cR ea _ _ h2]
 |dT ds=>rw[9];rw[1,vs,e.trans h1,bB.cR ea _ _ h2]
 |obj C ds=>obtain⟨T,vs,h1,h2⟩:=h;exact⟨T,vs,e.trans h1,bc.cR ea _ _ h2⟩
 |_=>exact h.elim
theorem Hs.KX(h:#[12])(ea:(0,G a,.dK aZ))(M:(2,H0 a)):
Hs K H0 σ Y (upd G a (.cR ob (.dK aZ))) (upd H a (.cR ob (.dK aZ))):=by
 have x:∀i,¬At σ Y i a:=λi z=>by
  rcases h.ex a with⟨_,y⟩|⟨y,_⟩
  ·exact y i z
  ·rw[ea]at y;cases y
 have ne:∀{i b},At σ Y i b->b≠a:=λ{i b}z y=>by subst y;exact x i z
 refine⟨h.len,λb o q=>?_,λb=>?_,λi d e=>?_,λi d e=>?_,λi p d e=>?_,h.ne⟩
 ·rw[2,(aI λz=>by subst z;rw[M]at q;cases q),h.base b o q]
 ·by_cases hb:b=a
  ·subst hb;exact .inl ⟨by rw[aM,aM],x⟩
  ·rw[aI hb,aI hb];exact h.ex b
 ·obtain⟨v,O,r⟩:=h.fr i d e
  rw[1,v,O,Rep.cR ea _ _ r]
 ·obtain⟨p,O,o⟩:=h.ow i d e
  rw[1,p,O,Own.cR ea o (aI (ne ⟨_,e,True.intro,O⟩))]
 ·obtain⟨O,o⟩:=h.lk i p d e
  rw[3,O,Own.cR ea o (aI (ne ⟨_,e,True.intro,O⟩))]
section
variable{tg:Expr}{g:RG}{body:List Stmt}{F:RS}{p:Pos}{x:Str}
theorem Ij(k:Key):Rep K G (kD k) (kV k):=by cases k<;>simp only[kD,kV,Rep]
end
section
theorem tL{knd:KeyKind prog w Key}{d:Addr}{kvs:(5,Key,Value)}{Q:(18,#[5])}(lo:(d==sysModules)=false)(hm:s.heap.DictAt knd d kvs ep)(N:(2,A.handled))(hn:(8,kvs.length))
 (h:∀vs h' tk,(∀b o,(0,s.heap.get? b,o)->(0,h'.get? b,o))->vs.length=kvs.length->(∀(j:Nat)v,(0,vs[j]?,v)-> ∃k x,(0,kvs[j]?,(k,x))/\(4,knd.is k v))->Q vs {s with heap:=h',toks:=tk}):(27,collect (.ref d)):=by
  unfold collect;refine wpAny_bind (wpAny_runValue (codeAny_builtin entry_proto_collect' ?_))
  show wpAny _ _ (do again (.builtin "list.__iadd__" ⟨[<-newList [],.ref d],[]⟩)) _ _ s
  refine wpAny_bind (wpAny_newList (wpAny_pure ⟨Code.quiet_builtin _ #[10],codeAny_builtin entry_list_iadd' ?_⟩));have eH:d<s.heap.objs.size:=hm.lt_size
  show wpAny _ _ (Builtin.List.listExtendWith #[14] (.ref d) #[14]) _ _ {s with heap:=s.heap.push (21,#[],0)}
  rw[0,PySem.W.kdl_extend (A:=A) (R:=λr s'=>match r with
      | .ok (.ret v)=>wpAny (model prog w) A (match v with
            |Value.ref a=>do
              let o<-load a
              match o.data with
                | .seq xs _=>pure xs.toList
                |_=>unsupported "internal:collect"
            |_=>unsupported "internal:collect") Q E s'
      | .ok _=>False
      | .error e=>E e s') (s:={s with heap:=s.heap.push (21,#[],0)}) (T:= "dict") (r:=d) (d:=d) (n:=kvs.length) (PySem.W.kdl_dict (knd:=knd) (kvs:=kvs) (ep:=ep) lo) N (hm.push _) s.heap.objs.size (Nat.ne_of_gt eH) (Nat.ne_of_gt eH) #[14] 0 #[15] (λh' tk f F hk C c=>?_) hn,(6,wpAny_load C ?_)];refine wpAny_pure (h f.toList h' tk (λb o e=>hk b o (Nat.ne_of_lt (Heap.lt_size e)) (22,e)) (10,Array.length_toList,c.1) λj v e=>c.2 j v (26,Array.getElem?_toList,e))
end
theorem zR{kvs:(5,Key,Value)}(r:L2.KV aZ kvs):∀(vs:#[5]),vs.length=kvs.length->(∀(j:Nat)v,(0,vs[j]?,v)-> ∃k x,(0,kvs[j]?,(k,x))/\(4,(bx P w).is k v))->Vals (aZ.map λq=>kV q.1) vs:=by
 induction r with
 |nil=>
  intro vs hl _
  cases vs with
  |nil=>exact .nil
  |cons v vs=>cases hl
 | @cons p q ps R hq t ih=>
  intro vs hl N
  cases vs with
  |nil=>cases hl
  |cons v vs=>
   obtain⟨k,x,e,hk⟩:=N 0 v rfl;simp at e;subst e;refine .cons ?_ (ih vs (by simpa using hl) λj u g=>by simpa using N (j+1) u (by simpa using g))
   show L2.RelV (kV p.1) v
   rw[hq.1];exact B7 hk
section
variable{es:#[4]}{tr:RA}{p:Pos}
end
section
variable{value:Expr}{te tv:RE}{R aU w p:Pos}{x:Str}
end
section
variable{ts:#[4]}{k:Nat}{tp p p2 c:Pos}{a:Expr}{B:RE}{g:RG}{F:RS}{body:List Stmt}{x:Str}
end
section
end
section
variable{O W:Expr}{t i j:RE}{p1 g:Pos}{k3:Nat}{x:Str}
end
section
variable{f x:Str}{es:#[4]}{tr:RA}{k:Nat}{p p1 h:Pos}
abbrev Xu:=(7,#[0],(7,D,D))
inductive Ik(K:PySem.W.Frag)(H0:Hp)(t:Xu)(σ:L2.St)(H:Hp)(Q:VK):Prop
 |mk(Y:_)(G:_)(Qd:_):#[12]->t Y Qd->(∀a vx q H' G' T l,(11,(0,G' a,.tup [vx,.ref q]),Rep K G' T vx,Hs K H0 (some (.ref q)::σ) (.ow l::Y) G' H',aO G G',aO H H'->Qd T l->Q (.ref a) H'))->Ik K H0 t σ H Q
end
section
variable{k g:Nat}{q:Addr}{y:D}
end
section
variable{t:RE}{u:RT}
end
section
variable{te:RE}{aU w p ps pk:Pos}{x:Str}{kc:Nat}
end
section
variable{f x:Str}{es:#[4]}{tr:RA}{k:Nat}{p p1 h:Pos}
end
section
variable{a:Expr}{te B:RE}{R aU w p p2 g l h p6:Pos}{x f:Str}
structure Nu(i:Nat)(t:RT)(B:RE)(sp:cN)(F te:RS)(E:bC)(Y:#[0]):Prop where
 run:t Y λk=>cS k (F E Y) (B Y λT=>match Y[i]? with
  |some (.ow (.lst ys))=>∃y,(0,ys[ys.length-1]?,y)/\sp [y] (lX λr=>(3,aN 60 T,true,(4,aN 60 r),cS (true !=eV T r) (F E (Y.set i (.ow (.lst ys.dropLast)))) (te E (Y.set i (.ow (.lst ys.dropLast))))))
  |_=>False)
end
def kz(h h':Heap):Prop:=∀b o,(0,h.get? b,o)-> ∃o',(0,h'.get? b,o')/\o'.dict=o.dict
theorem kz.refl(h:Heap):kz h h:=λ_ o e=>⟨o,e,rfl⟩
theorem kz.trans{a b c:Heap}(x:kz a b)(y:kz b c):kz a c:=λp o e=>let⟨_,O,d⟩:=x p o e;let⟨M,W,l⟩:=y p _ O;⟨M,W,l.trans d⟩
def KD{α:Type}(t:Sem α):Prop:=∀(n:Model)(b:PySem.Ctx)(Q:α->Pos->(1,Shared))(E:Value->Pos->(1,Shared))(p:Pos)(s:Shared),Sem.wp n b t Q E p s->Sem.wp n b t (λa w s'=>Q a w s'/\kz s.heap s'.heap) (λe w s'=>E e w s'/\kz s.heap s'.heap) p s
theorem b0(a:α):KD (pure a:Sem α):=λn b Q E p s h=>⟨h,.refl _⟩
theorem fL(w:String):KD (unsupported w:Sem α):=λn b Q E p s h=>(show False from h).elim
theorem b5{m:Sem α}{f:α->Sem β}(hm:KD m)(S:∀a,KD (f a)):KD (m>>=f):=λn c Q E p s h=>by
 rw[Sem.wp_bind']at h⊢;refine Sem.wp_mono n c m (λa w s'⟨h1,k1⟩=>?_) (λe w s' h1=>h1) p s (hm n c _ _ p s h);exact Sem.wp_mono n c (f a) (λb p2 s2⟨h2,k2⟩=>⟨h2,k1.trans k2⟩) (λe p2 s2⟨h2,k2⟩=>⟨h2,k1.trans k2⟩) w s' (S a n c _ _ w s' h1)
theorem tM(a:Addr):KD (load a):=λn b Q E p s⟨o,e,h⟩=>⟨o,e,h,.refl _⟩
theorem pO:KD stack:=λn b Q E p s h=>⟨h,.refl _⟩
theorem B9(o:Obj):KD (alloc o):=λn a Q E p s h=>⟨h,λb ob e=>⟨ob,(22,e),rfl⟩⟩
theorem rZ{f:Obj->Obj}(S:∀o,(f o).dict=o.dict/\(f o).isFreed=o.isFreed):KD (update a f):=λn c Q E p s⟨hs,h⟩=>⟨hs,h,λb ob e=>by
 by_cases hb:b=a
 ·subst hb
  rw[1,_,Heap.get?_update_self f e ((S ob).2.trans (Heap.get?_some_iff.mp e).2),(S ob).1]
 ·rw[1,ob,(Heap.get?_update_ne _ _ _ _ hb).trans e,rfl]⟩
theorem hP{c:Prop} [Decidable c]{t u:Sem α}(M:KD t)(hu:KD u):KD (if c then t else u):=by split;exact M;exact hu
theorem vm{o:Obj}:o.isFreed=match o.data with| .freed=>true|_=>false:=by
 obtain⟨a,b,c,d⟩:=o;cases c<;>rfl
theorem B_(f:Array Value->Array Value)(o:Obj):(Obj.mapFields f o).dict=o.dict/\(Obj.mapFields f o).isFreed=o.isFreed:=by
 obtain⟨a,b,c,d⟩:=o;cases c<;>exact⟨rfl,rfl⟩
theorem vn(v:Value):KD (fieldsOf v):=by
 unfold fieldsOf
 split
 ·refine b5 (tM _) λo=>?_
  split
  ·exact b0 _
  ·exact fL _
 ·exact fL _
theorem mc(v:Value)(i:Nat):KD (field v i):=by
 unfold field;refine b5 (vn v) λo=>?_
 split
 ·exact b0 _
 ·exact fL _
theorem jf(v:Value)(i:Nat)(x:Value):KD (setField v i x):=by
 unfold setField
 split
 ·unfold updateField
  refine b5 (tM _) λo=>?_
  split
  ·exact hP (rZ (B_ _)) (fL _)
  ·exact fL _
 ·exact fL _
theorem Es(env:Env)(b:Bool):∀l:List Env,KD (keptBack env b l)
 |[]=>by
  unfold keptBack underTheClaimsCaller;exact hP (b0 _) (b5 (b5 pO λ_=>b0 _) λ_=>b0 _)
 |_::_=>by unfold keptBack;exact b0 _
theorem vo:∀l:List Env,KD (readyFrames l)
 |[]=>b0 _
 |env::outer=>by
  unfold readyFrames
  split
  ·refine b5 (tM _) λo=>hP (b0 _) (b5 ?_ λb=>b5 (Es _ _ _) λ_=>b5 (rZ λo=>⟨rfl,by rw[vm,vm]⟩) λ_=>vo outer)
   unfold behindIsImport;exact hP (b0 _) (hP (b0 _) (b5 (mc _ _) λ_=>b0 _))
  ·exact fL _
theorem xg(env:Env):KD (PySem.frameOf env):=by
 unfold PySem.frameOf frameEnvs;refine b5 (b5 pO λ_=>b0 _) λl=>b5 ?_ λo=>?_
 ·cases h:l.dropWhile (·.frame !=env.frame)with
  |nil=>exact b0 _
  |cons e r=>exact b5 (vo _) λ_=>b0 _
 ·split
  ·exact b0 _
  ·exact fL _
theorem B'(a b c d e:Value)(pl:#[5]):KD (EntryCells.newEntry a b c d e pl):=by
 have f:∀vs:Array Value,KD (newObjAsIs (.type "traceback") (.fields vs)):=λvs=>by
  unfold newObjAsIs;exact b5 (B9 _) λ_=>b0 _
 unfold EntryCells.newEntry newFields newObj;exact hP (b5 (fL _) λ_=>f _) (f _)
theorem Ca(f:Addr)(b:Bool):KD (entryPlaceOf f b):=by
 unfold entryPlaceOf;refine b5 pO λl=>?_
 split
 ·exact b0 _
 ·exact b0 _
theorem yM(e:Value)(env:Env):KD (noteFrame e env):=by
 unfold noteFrame
 split
 ·repeat' first|exact b0 _|exact fL _|exact mc _ _|exact jf _ _ _|exact xg _|exact Ca _ _|exact B' _ _ _ _ _ _|(refine b5 ?_ λ_=>?_)|refine hP ?_ ?_
 ·exact fL _
theorem pP(e:Value)(env:Env):KD (leaving env e):=by
 unfold leaving;exact b5 (yM e env) λ_=>by
  unfold setFlight;exact b5 (mc _ _) λF=>hP (jf _ _ _) (b0 _)
theorem md{n:Model}{t:Sem α}{Q:(18,α)}(k:KD t)(h:wpAny n A t Q E s):wpAny n A t (λa s'=>Q a s'/\kz s.heap s'.heap) E s:=
 λb p c=>Sem.wp_mono n b t (λa w s' h=>h) (λe w s' h=>h.1) p s (k n b _ _ p s (h b p c))
theorem zS(e:Value)(f:Option Addr):KD (setFlight e f):=by
 unfold setFlight;exact b5 (mc _ _) λF=>hP (jf _ _ _) (b0 _)
def xh(h:Heap)(e:Addr)(m:Option Addr):Prop:=∃o,(0,h.get? e,o)/\o.dict=m
theorem xh.keep{h':Heap}{e:Addr}{m:Option Addr}(x:xh h e m)(k:kz h h'):xh h' e m:=let⟨o,a,b⟩:=x;let⟨o',c,d⟩:=k e o a;⟨o',c,d.trans b⟩
def dN(P:Program)(w:World):Fl:=λouter H s E e s'=>∃(ea C t:Addr)(B:Heap)(H':Hp)(m:Option Addr),(3,e,.ref ea,s'.os=s.os,AllBare s'.gens/\Heap.FlyingW B outer ea (.ref C) (.ref t) s'.heap/\
 (∀h6,B.StaysIn h6->s'.heap.UpToSlots h6->Un (qK outer) [] H H' s.heap h6/\i6 P w H' h6)/\(2,H' ea)/\(3,s.heap.get? ea,none,xh s'.heap ea m,E (.ref C) m H'))
section
variable{mg:#[11]}{base:Heap}{g:Str}{f:Addr}{cd:Value}{outer:List Env}{s1:Shared}{E:XK}
theorem Et{e C:Addr}{vs:#[5]}{h':Heap}(I:Inv (gk (dN P w) P w K mg base N g U f cd A outer s H E) Z σ H1 s1)(hx:Heap.MadeExcOf s1.heap h' e (.ref C) vs)(D:∀m,E (.ref C) m H1):
(gk (dN P w) P w K mg base N g U f cd A outer s H E).xe (.ref e) {s1 with heap:=h'}:=by
 let X:=gk (dN P w) P w K mg base N g U f cd A outer s H E
 have iT:X.stack=X.env::outer:=rfl;have l:∀env∈X.stack,∀b,(0,env.frame,b)->b∈X.stack.filterMap (·.frame):=λenv he b hb=>List.mem_filterMap.mpr ⟨env,he,hb⟩
 have p:(PySem.W.hideAll s1.heap (qK X.stack)).StaysIn s1.heap:=λb o q=>PySem.W.of_hideAll _ q
 obtain⟨F,B,_⟩:=hx.there
 refine wpAny_mono (md (pP _ _) (wpAny_leaves_madeW (Q:=λ_ s'=>∃k t,(3,s',{s1 with heap:=k},Heap.FlyingW (PySem.W.hideAll s1.heap (qK X.stack)) outer e (.ref C) (.ref t) k,h'.UpToSlots k)) (base:=PySem.W.hideAll s1.heap (qK X.stack)) (h:=s1.heap) I.ok.frames rfl p (PySem.W.funFrames_hide I.stack l) hx λk t x1 x2 x3 r=>⟨k,t,rfl,x1,r⟩)) (λ_ s'⟨⟨k,t,es',x1,r⟩,kp⟩=>?_) λ_ _ z=>z
 subst es';refine⟨e,C,t,_,H1,_,rfl,I.os,I.bare,x1,λh6 st up=>?_,?_,?_,xh.keep ⟨_,B,rfl⟩ kp,D _⟩
 rotate_left
 ·cases q:H1 e with
  |none=>rfl
  |some o=>
   obtain⟨ob,z⟩:=bJ.there (I.bH e o q);rw[hx.new]at z;cases z
 ·cases q:s.heap.get? e with
  |none=>rfl
  |some o=>
   obtain⟨ob,z⟩:=I.base.there e o q (by intro z;cases z);rw[hx.new]at z;cases z
 have x:h'.UpToSlots h6:=r.trans up;have v:∀b o,(0,s1.heap.get? b,o)->b∉qK X.stack->(0,h6.get? b,o):=λb o q n=>st b o (PySem.W.hideAll_get _ q n)
 have low:∀b o,(0,s.heap.get? b,o)->b∉qK outer->b∉qK X.stack:=λb o q n z=>by
  rcases List.mem_filterMap.mp z with⟨env,he,S⟩
  rcases List.mem_cons.mp he with rfl|he
  ·have O:b=s.heap.objs.size:=(Option.some.inj S).symm
   have z:=Heap.lt_size q;rw[O]at z;exact Nat.lt_irrefl _ z
  ·exact n (List.mem_filterMap.mpr ⟨env,he,S⟩)
 have fr:∀b o,(0,s1.heap.get? b,o)->(∀vs,o.data≠ .fields vs)-> ∃sl,(0,h6.get? b,{o with slots:=sl}):=λb o q n=>x b o (hx.keeps b o q) n
 refine⟨⟨λb o q n i nx=>?_,λb o q n i nx=>?_,I.base.free,λb o q nx=>?_,I.base.mS,I.base.kL,I.base.mT⟩,λa o q=>?_⟩
 ·exact v b o (I.base.keep b o q n i nx) (low b o q i)
 ·obtain⟨sl,q1⟩:=I.base.slot b o q n i nx
  obtain⟨_,M,q2,nd⟩:=I.ok.i3.mem i;have:M=o:=by
   have:=q2.symm.trans q;exact Option.some.inj this
  subst this;obtain⟨d,c⟩:=fr b _ q1 nd;rw[3,d,c]
 ·obtain⟨o',q1⟩:=I.base.there b o q nx
  by_cases i:b∈qK outer
  ·obtain⟨_,M,q2,nd⟩:=(I.stack).mem (show b∈qK X.stack from List.mem_filterMap.mpr (by
    obtain⟨env,he,S⟩:=List.mem_filterMap.mp i
    rw[1,env,List.mem_cons_of_mem _ he,S]))
   obtain⟨d,c⟩:=fr b _ q2 nd;rw[3,_,c]
  ·rw[3,o',v b o' q1 (low b o q i)]
 ·refine(I.bH a o q).km (λb u z y=>v b u y λj=>?_) (λ_ z=>z) λ_ _ z=>z
  have hn:=I.oE b j
  rcases z with rfl|z
  ·rw[hn]at q;cases q
  ·rw[hn]at z;cases z
end
abbrev RJ:=(7,#[0],(1,Str))
inductive FZ(K:PySem.W.Frag)(H0:Hp)(t:RJ)(σ:L2.St)(H:Hp)(Q:(7,Str,Hp)):Prop
 |mk(Y:_)(G:_)(Qd:_):#[12]->t Y Qd->(∀y H' G',Nx K H0 σ Y G H G' H'->Qd y->Q y H')->FZ K H0 t σ H Q
def Eu(X:Cx)(H0:Hp)(es:#[4])(t:RJ):Prop:=∀(Z:#[9])(s:Shared)(σ:L2.St)(H:Hp)(T:Str)(Q:(7,Str,Hp)),#[6]->(8,T.length+2000*es.length)->FZ X.K H0 t σ H Q->
 Joins (model X.prog X.w) X.A X.xe (evalEach es X.env) T (λC s1=>∃y H',(3,C,T++y,(8,C.length),Inv X Z σ H' s1/\Q y H')) s
abbrev KY(Y:#[0])(Q:(1,Str)):Prop:=Q Str.empty
abbrev KZ(c:Str)(t:RJ)(Y:#[0])(Q:(1,Str)):Prop:=t Y λy=>Q (c++y)
abbrev K0(te:RE)(t:RJ)(Y:#[0])(Q:(1,Str)):Prop:=te Y λd=>∃n:Int,(3,d,.int n,n.natAbs.log2<1920,t Y λy=>Q (Str.ofString (toString n)++y))
section
variable{es:#[4]}{te:RE}{g:RJ}{c:Str}
theorem fM{M:Model}{A:Around}{E:#[8]}:∀(a:List (Sem Value))(T:Str){Q Q':(18,Str)}{s:Shared},Joins M A E a T Q s->(∀y s',Q y s'->Q' y s')->Joins M A E a T Q' s
 |[],_,_,_,_,h,k=>k _ _ h
 |x::rest,T,_,_,_,h,k=>wpAny_mono h (λv s1⟨y,t,e,l,j⟩=>⟨y,t,e,l,fM rest _ j k⟩) λ_ _ z=>z
theorem dH:Eu X H0 [] KY:=λZ s σ H T Q I hl⟨Y,G,Qd,hs,M,k⟩=>by
 exact⟨Str.empty,H,(Str.append_empty T).symm,by simpa using hl,I,k _ _ _ (Nx.refl hs) M⟩
theorem cg(h:Eu X H0 es g)(hc:c.length<=2000:=by decide):Eu X H0 (.Constant (.str c) j pos::es) (KZ c g):=λZ s σ H T Q I hl⟨Y,G,Qd,hs,M,k⟩=>by
 have f:(8,T.length+2000*es.length+2000):=by simpa[Nat.mul_add,Nat.add_assoc]using hl
 rw[0,Calls.Constant_str ⟨c,_,rfl,by rw[strLen_append];omega,?_⟩,fM _ _ (h Z _ σ H (T++c) (λy=>Q (c++y)) (I.tok (s.toks+1)) (by rw[strLen_append];omega) ⟨Y,G,_,hs,M,λy H' G' n q=>k _ _ _ n q⟩) λC s1⟨y,H',e,l,K,q⟩=>⟨c++y,H',by rw[e,Str.append_assoc],l,K,q⟩]
theorem cD(he:aS X H0 e te)(h:Eu X H0 es g):Eu X H0 (.FormattedValue e (-1) none pos::es) (K0 te g):=λZ s σ H T Q I hl⟨Y,G,Qd,hs,M,k⟩=>by
 have f:(8,T.length+2000*es.length+2000):=by simpa[Nat.mul_add,Nat.add_assoc]using hl
 refine wpAny_FormattedValue_plain ?_;have D:bX X.K H0 te σ H (λv H'=>∃(n:Int)(G':Hp),(3,v,.int n,n.natAbs.log2<1920,Nx X.K H0 σ Y G H G' H'/\g Y λy=>Qd (Str.ofString (toString n)++y))):=
  ⟨Y,G,_,hs,M,λv H' G' d n r⟨i,e,hi,q⟩=>by subst e;exact⟨i,G',by simpa only[Rep]using r,hi,n,q⟩⟩
 refine bK (he Z s σ H _ I D) λu s1⟨v,H1,I1,rv,i,G',b,hi,n,q⟩=>?_
 subst b;obtain⟨t,rfl⟩:=rv;have len:(Str.ofString (toString i)).length<=2000:=by
  have e:=int_text_length_le (k:=1920) #[2] hi;rw[PySem.ofString_length];omega
 rw[0,wpAny_formatField_int hi ⟨Str.ofString (toString i),_,rfl,by rw[strLen_append];omega,?_⟩,fM _ _ (h Z _ σ H1 (T++Str.ofString (toString i)) (λy=>Q (Str.ofString (toString i)++y)) (I1.tok _) (by rw[strLen_append];omega) ⟨Y,G',_,n.hs,q,λy H' G2 P q=>k _ _ _ (n.trans P) q⟩) λC s1⟨y,H',e,l,K,q⟩=>⟨Str.ofString (toString i)++y,H',by rw[e,Str.append_assoc],l,K,q⟩]
abbrev F0(t:RJ)(Y:#[0])(Q:(1,D)):Prop:=t Y λy=>Q (.str y)
theorem cJ{O W:Expr}(h:Eu X H0 (O::W::es) g)(hl:(8,2000*(O::W::es).length):=by decide):aS X H0 (.JoinedStr (O::W::es) pos) (F0 g):=λZ s σ H Q I⟨Y,G,Qd,hs,M,k⟩=>by
 refine wpAny_JoinedStr (fM _ _ (h Z s σ H Str.empty (λy H'=>∃G',Nx X.K H0 σ Y G H G' H'/\Qd (.str y)) I (by rw[show Str.empty.length=0 from rfl,Nat.zero_add];exact hl) ⟨Y,G,_,hs,M,λy H' G' n q=>⟨G',n,q⟩⟩) λC s1⟨y,H',e,l,K,G',n,q⟩=>⟨l,?_⟩);rw[Str.empty_append]at e;subst e;rw[4,.str C,H',K.tok _,⟨_,rfl⟩,k _ _ _ _ n (by simp only[Rep]) q]
end
def LS(X:Cx)(H0:Hp)(C:Addr):Prop:=∀(Z:#[9])(σ:L2.St)(Y:#[0])(G H:Hp)(s:Shared)(e:Addr)(vs:#[5])(h':Heap),#[6]->Hs X.K H0 σ Y G H->Heap.MadeExcOf s.heap h' e (.ref C) vs->X.xe (.ref e) {s with heap:=h'}
theorem Il{mg:#[11]}{base:Heap}{g:Str}{f:Addr}{cd:Value}{outer:List Env}{E:XK}{C:Addr}
(D:∀m H',aO H H'->E (.ref C) m H'):LS (gk (dN P w) P w K mg base N g U f cd A outer s H E) H C:=
 λZ σ Y G H1 s1 e vs h' I hs hx=>Et I hx λm=>D m _ (hs.base.trans hs.sub)
structure Im(K:PySem.W.Frag)(mg:#[11])(base:Heap)(x:Str)(C:Addr)(bm:#[5]):Prop where
 ex:∃B c h,ExcBaseFacts B c h bm/\OwnCls x C bm c mg base
section
variable{x:Str}{C:Addr}{bm:#[5]}{es:#[4]}{tr:RA}{J aU:Pos}{R:Prop}
abbrev Io(tr:RA)(R:Prop)(E:bC)(Y:#[0]):Prop:=tr Y λds=>ds.length<=9/\R
theorem hQ(Er:Im X.K X.mg X.base x C bm)(L:R->LS X H0 C)(ha:pb X H0 (e::es) tr)(hc:(4,X.calm))(hg:Gl X x:=by rfl)(j:(23,x):=by decide)
(he:#[13]:=by rfl)(cU:(28,aU,e::es):=by rfl):i8 X H0 (.Raise (some (.Call (.Name x J) (e::es) [] aU)) none pos) (Io tr R):=by
 intro Z s σ H D I⟨Y,G,E,hs,M,g⟩;obtain⟨B,c,h,f,O⟩:=Er.ex;have a:iV X.K H0 tr σ H (λvs H'=>∃G' ds,Nx X.K H0 σ Y G H G' H'/\aE X.K G' ds vs/\ds.length<=9/\R):=⟨Y,G,_,hs,M,λvs H' G' ds n r q=>⟨G',ds,n,r,q⟩⟩;obtain⟨S,N,nm,q,bs,hdct,sn,sub,ab,col,dd,k0,k1,k2,k3,k5,mN,hC,hN,d,T⟩:=O.obj;refine wpAny_Raise_call_subT (C:=C) (nm:=nm) (q:=q) (N:=N) (bs:=bs) (bm:=S) (hdct:=hdct) (sn:=sn) (sub:=sub) (ab:=ab) (col:=col) (dd:=dd) (k0:=k0) (k1:=k1) (k2:=k2) (k3:=k3) (k5:=k5)
  f (mN:=mN) (T.hasType f.hasBase) (I.ok.hd hc) cU d (cc I hg O.bound ⟨rfl,?_⟩ j)
 have hw:=ha aU Z s σ H _ I a;rw[he]at hw⊢;refine Calls.evalArgs_plain (wpAny_mono hw (λus s1⟨vs,H1,I1,r,G',ds,n,rd,i,hR⟩=>?_) λ_ _ y=>y);have kp:∀b o,(0,X.base.get? b,o)->(0,s1.heap.get? b,o):=I1.bk;exact⟨rfl,by show us.length<=_;rw[<-r.length,<-rd.length];exact Nat.le_trans i #[2],kp _ _ hC,hN.keeps kp,T.keeps kp,λh' ea hm=>L hR Z σ Y G' H1 s1 ea _ h' I1 n.hs hm⟩
end
abbrev Er:=Str×List Int
def Nv(is:List Int):(5,Str,V):=(["number", "year", "day"]:#[1]).zip (is.map V.int)
def Ip(H:Hp)(m:Option Addr)(is:List Int):Prop:=is≠[]-> ∃T,(0,m,T)/\(0,H T,.ext (Fq T (Nv is)))
abbrev dO:=List D->(1,uD)->(1,(1,Er))
inductive bM(K:PySem.W.Frag)(mg:#[11])(sp:dO)(vs:List V)(H:Hp)(Q:VK)(E:XK):Prop
 |mk(ds:_)(Qd:_)(Xd:_):(11,aE K H ds vs,sp ds Qd Xd,∀v H' r,cV K H H' v r->Qd r->Q v H',∀(x:Er)C m H',(11,Xd x,(0,mg x.1,.ref C),aO H H',Ip H' m x.2,E (.ref C) m H'),bM K mg sp vs H Q E)
section
variable{mg:#[11]}{base:Heap}
end
structure uE(P:Program)(w:World)(K:PySem.W.Frag)(mg:#[11])(base:Heap)(k:Nat)(x:Str)(sp:dO):Prop where
 ex:(56,aQ P w K mg base (dN P w) k f fd ps (bM K mg sp),(0,mg x,.ref f),(4,keepIn K (.ref f)))
structure Nz(K:PySem.W.Frag)(H0:Hp)(σ:L2.St)(Y:#[0])(G G' H':Hp):Prop where
 hs:Hs K H0 σ Y G' H'
 g:aO G G'
inductive Ew(X:Cx)(H0:Hp)(Z:#[9])(σ:L2.St)(Y:#[0])(G H:Hp)(x:Er)(ea:Addr)(s':Shared):Prop
 |mk(C t:Addr)(B:Heap)(G2 H2:Hp):(11,(0,X.mg x.1,.ref C),Heap.FlyingW B X.stack ea (.ref C) (.ref t) s'.heap,X.ex=[]->(2,X.ey.heap.get? ea),∃m,xh s'.heap ea m/\Ip H2 m x.2,(∀h6,B.StaysIn h6->s'.heap.UpToSlots h6->Inv X Z σ H2 {s' with heap:=h6}/\Nz X.K H0 σ Y G G2 H2/\(2,H2 ea))->Ew X H0 Z σ Y G H x ea s')
section
variable{k:Nat}{x:Str}{sp:dO}{es:#[4]}{tr:RA}{p:Pos}
theorem oQ{f:Addr}{Xd:(1,Er)}{w:#[8]}
(F:aQ X.prog X.w X.K X.mg X.base (dN X.prog X.w) k f fd ps (bM X.K X.mg sp))(hr:bT k X.A)(hb:Binds X.K fd ps [])(hs:Hs X.K H0 σ Y G H)(I:#[6])(r:Vals vs us)(rd:aE X.K G ds vs)(h:sp ds Qd Xd)
(q:∀v G1 r u s',(11,Inv X Z σ (mix σ Y H G1) s',RelV v u,∀i b,At σ Y i b->(2,G1 b),cV X.K G G1 v r,Qd r->Q u s'))
(qx:∀x ea s',Xd x->Ew X H0 Z σ Y G H x ea s'->w (.ref ea) s'):wpAny (model X.prog X.w) X.A (call (.ref f) us) Q w s:=by
 have N:bM X.K X.mg sp vs (fB G) (λv G1=>∃r,cV X.K (fB G) G1 v r/\Qd r) (λc m H'=>∃(x:Er)(C:Addr),(3,c,.ref C,(0,X.mg x.1,.ref C),Xd x/\aO (fB G) H'/\Ip H' m x.2)):=⟨ds,Qd,Xd,aE.near (uS G) _ _ rd,h,λv H' r ok q=>⟨r,ok,q⟩,λx C a H' xd hm sm py=>⟨x,C,rfl,hm,xd,sm,py⟩⟩;have hl:us.length=ps.length:=(26,r.length,F.len _ _ _ _ N)
 have l:BindsTo s fd ⟨us,[]⟩ (ps.zip us):=by simpa using hb s us I.kM (by simpa using hl)
 refine wpAny_call (codeAny_mono (F.run X.A X.stack s (fB G) ⟨us,[]⟩ us vs _ _ hr (hs.wO I) l r N) λr s' hq=>?_)
 cases r with
 |error e=>
  obtain⟨ea,C,t,B,G1,m,rfl,ho,bare,j,un,n1,P,p,x,C',J,hm,xd,sm,py⟩:=hq;cases J;have ow:∀i b,At σ Y i b->(2,G1 b):=λi b a=>by
   obtain⟨o,e,_⟩:=hs.soft a;obtain⟨ob,eo⟩:=bJ.there (I.bH b o e);exact(un s'.heap j.1 (.refl _)).1.free b ob eo (dU (hs.gone a)) (by simp)
  refine qx x ea s' xd ⟨C,t,B,i4 G G1,mix σ Y H (i4 G G1),hm,j,λz=>?_,⟨m,p,λE=>?_⟩,λh6 st up=>?_⟩
  rotate_left
  ·obtain⟨T,O,W⟩:=py E
   refine⟨T,O,?_⟩;rw[2,(bW λi a=>by rw[ow i T a]at W;cases W),cY _ _ W]
  rotate_left
  ·cases q:X.ey.heap.get? ea with
   |none=>rfl
   |some o=>
    obtain⟨ob,z⟩:=I.base.there ea o q (by rw[z];intro y;cases y);rw[P]at z;cases z
  obtain⟨u1,K⟩:=un h6 st up
  have D:CE X.stack X.prog X.w (fB G) s (λv H'=>v=.bu/\H'=G1) .none {s' with heap:=h6}:=⟨.bu,G1,ho,bare,u1,K,rfl,rfl,rfl⟩;obtain⟨v,G2,I1,rv,⟨g,rfl⟩,A,lV⟩:=hs.behind I D λv G2⟨_,W⟩b e=>by subst W;exact sm.free e
  subst g;obtain⟨n,_⟩:=hs.fI (d:=.bu) (v:=.bu) A ⟨Hid.same ⟨sm,lV⟩,by simp only[Rep]⟩;refine⟨I1,⟨n.hs,n.g⟩,?_⟩;unfold mix
  split
  ·rename_i z
   obtain⟨i,a⟩:=z;obtain⟨o,e,_⟩:=hs.soft a;obtain⟨ob,z⟩:=bJ.there (I.bH ea o e);rw[P]at z;cases z
  ·rw[dh n1]
   cases q:G ea with
   |none=>rfl
   |some o=>
    obtain⟨ob,z⟩:=bJ.there (I.bH ea o (hs.sub ea o q));rw[P]at z;cases z
 |ok fl=>
  cases fl with
  |ret u=>
   obtain⟨v,G1,I1,rv,⟨r,ok,q1⟩,A,lV⟩:=hs.behind I hq (λv G1⟨r,ok,_⟩b e=>ok.same.free e);exact q v (i4 G G1) r u s' I1 rv A (ok.i4 ⟨ok.same,lV⟩) q1
  |next=>exact False.elim hq
  |brk=>exact False.elim hq
  |cont=>exact False.elim hq
end
abbrev marked(X:Cx)(e:Addr):Cx:={X with A:=X.A.mark (some (.ref e)),calm:=false}
theorem Inv.mark(I:#[6])(e:Addr):Inv (marked X e) Z σ H s:=
 ⟨⟨I.ok.mod,I.ok.kind,I.ok.glob,I.ok.blt,I.ok.above,I.ok.inj,I.ok.has,I.ok.E',λz=>(by cases z),I.ok.frames,I.ok.Gr,I.ok.Gs,I.ok.bs,I.ok.x6,I.ok.uH,I.ok.sN,I.ok.i3,I.ok.AA⟩,I.os,I.bare,I.base,I.loc,I.cell,I.free,I.fj,I.pin,I.bH,I.len⟩
theorem Inv.unmark{e:Addr}(ok:X.Ok)(I:Inv (marked X e) Z σ H s):#[6]:=
 ⟨ok,I.os,I.bare,I.base,I.loc,I.cell,I.free,I.fj,I.pin,I.bH,I.len⟩
theorem SP.unmark{e:Addr}(ok:X.Ok){D:Ends}{f:Flow}(h:SP (marked X e) Z D f s'):SP X Z D f s':=by
 cases f with
 |next=>obtain⟨L,H',I,q⟩:=h;exact⟨L,H',Inv.unmark ok I,q⟩
 |brk=>obtain⟨L,H',I,q⟩:=h;exact⟨L,H',Inv.unmark ok I,q⟩
 |cont=>obtain⟨L,H',I,q⟩:=h;exact⟨L,H',Inv.unmark ok I,q⟩
 |ret u=>obtain⟨v,L,H',I,r,q⟩:=h;exact⟨v,L,H',Inv.unmark ok I,r,q⟩
def yN(X:Cx)(x y:Str):Prop:=∃C',(0,X.mg y,.ref C')/\ ∀C,(0,X.mg x,.ref C)-> ∀(A:Around)(V:Shared)(ea:Addr)(ob:Obj)(Q:(18,Bool))(E:#[8]),(11,∀b o,(0,X.base.get? b,o)->(0,V.heap.get? b,o),(0,V.heap.get? ea,ob),ob.cls=.ref C,Q true V,(40,A,excMatches (.ref ea) (.ref C'),Q,E,V))
theorem yN.self{x:Str}{C:Addr}{bm:#[5]}(Er:Im X.K X.mg X.base x C bm):yN X x x:=by
 obtain⟨B,c,h,f,O⟩:=Er.ex;refine⟨C,O.bound,λb hm A V ea ob Q E kp ho hc q=>?_⟩;have:b=C:=by
  have:=hm.symm.trans O.bound;cases this;rfl
 subst this;obtain⟨S,N,nm,qn,bs,hdct,sn,sub,ab,col,dd,k0,k1,k2,k3,k5,mN,hC,hN,a,T⟩:=O.obj;obtain⟨h5,g,d,t,os⟩:=V;exact wpAny_excMatches_sub_self (kp _ _ hC) ho hc (T.hasType f.hasBase) q
section
variable{x:Er}{ea:Addr}{b:Stmt}{d:List Stmt}{J a:Pos}{rest:List ExceptHandler}{Q:(18,Flow)}
end
section
variable{k:Nat}{f:Str}{sp:dO}{es:#[4]}{tr:RA}{p J aU h a:Pos}{b:Stmt}{d:List Stmt}{F:RS}
end
end M
namespace PySem.W
open PySem PySem.Spec PySem.Calls PyProof.Rows Builtin Builtin.ObjectAttr Builtin.Getset_descriptor
section
variable{prog:Program}{w:World}{A:Around}{E:#[8]}{s:Shared}{K:Frag}{x D:Addr}{name:Str}
end
end PySem.W
namespace M
open PySem PySem.Spec PyProof.Rows L2
variable{A:Around}{E Q:#[8]}{G H:Hp}{K:PySem.W.Frag}{P prog:Program}{a l:Addr}{es:#[4]}{g:Str}{aZ:(5,Key,V)}{mg:#[11]}{ob:Obj}{p:Pos}{s:Shared}{tab:(5,Str,Addr)}{w:World}{xs:Array Value}
section
variable{n:Model}
variable{nm q s q':Str}{C N C' N':Addr}{bs bm v m:#[5]}{hdct k:Bool}{sn D:#[1]}{sub p:#[5]}{ab F:Bool}{col o:Option Bool}{dd i:Option Addr}{k0 k1 k2 k3 k5 j0 r H I j5:Option Value}{c j:String}
end
section
variable{X:Cx}{Z:#[9]}{σ:L2.St}
end
section
variable{X:Cx}{H0:Hp}{k:Nat}{f y c n:Str}{sp:dO}{e:Expr}{tr:RA}{J aU h a pos:Pos}{b:Stmt}{d:List Stmt}{F:Addr->RS}{i:Nat}
end
structure Xv(K:PySem.W.Frag)(C:Addr):Prop where
 c:(4,PySem.W.hasDictIn K C)
 ga:(0,PySem.W.findIn K (.ref C) "__getattribute__",some (.builtin "BaseException.__getattribute__"))
 gt:(0,PySem.W.findIn K (.ref C) "__getattr__",none)
 a:(0,PySem.W.findIn K (.ref C) "__class__",some (.builtin "object.__class__"))
 n:(0,PySem.W.specialIn K (.builtin "object.__class__") "__get__",some (.builtin "getset_descriptor.__get__"))
 t:(0,PySem.W.takesIn K (.builtin "object.__class__"),true)
 m:(0,PySem.W.mroIn K C (.type "object"),true)
 mb:(0,PySem.W.mroIn K C (.type "BaseException"),true)
section
variable{X:Cx}{H0:Hp}{ea C:Addr}{e:Expr}{te:RE}{c:Str}{T:String}{C':Addr}{b:Bool}{p2 pos:Pos}
end
theorem jg{base:Heap}{x:Str}{C:Addr}{bm:#[5]}{B c h:String}(X:K.In base)(G:base.Ns mainGlobals mg)(f:ExcBaseFacts B c h bm)
(e:(0,nsIn K mainGlobals x,some (.ref C)))(q:(4,PySem.W.excIn K C bm c)):Im K mg base x C bm:=by
 refine⟨B,c,h,f,mg_of X G e,?_⟩;unfold PySem.W.excIn at q
 split at q
 ·rename_i dd cd sl ho
  split at q
  ·rename_i C' m k0 k1 k2 k3 n k5 hm hs
   simp only[Bool.and_eq_true,beq_iff_eq,Bool.not_eq_true']at q;obtain⟨⟨⟨⟨⟨rfl,rfl⟩,a⟩,M⟩,bH⟩,d⟩:=q;obtain⟨nm,bs,g,ns,qn,hd,sn,sub,ab,col,i⟩:=cd;dsimp only at hm a bH d;subst hm a;have b:sl= #[k0,k1,k2,k3,some (.builtin n),k5]:=by
    obtain⟨l⟩:=sl;simp only at hs;rw[hs]
   subst b;exact⟨m,ns,nm,qn,bs,hd,sn,sub,ab,col,dd,k0,k1,k2,k3,k5,_,X _ _ ho,.of_isNs (PySem.W.isNs_of_in X bH),PySem.W.nsMap_none_of_in X bH d,PySem.W.tail_of_in X M⟩
  ·cases q
 ·cases q
def Pass(X:Cx)(H0:Hp)(x:Er):Prop:=∀(Z:#[9])(σ:L2.St)(Y:#[0])(G H:Hp)(ea:Addr)(s':Shared),Ew X H0 Z σ Y G H x ea s'->X.xe (.ref ea) s'
section
variable{base:Heap}{N:#[1]}{g:Str}{U:Scope}{f:Addr}{cd:Value}{outer:List Env}{E:XK}{x:Er}
theorem Ex(D:∀C m H',(0,mg x.1,.ref C)->aO H H'->Ip H' m x.2->E (.ref C) m H'):Pass (gk (dN P w) P w K mg base N g U f cd A outer s H E) H x:=by
 intro Z σ Y G H1 ea s'⟨C,t,B,G2,H2,hm,j,l,⟨m,p,py⟩,b⟩;have e:s'.heap.UpToSlots s'.heap:=.refl _;obtain⟨I,n,hn⟩:=b s'.heap j.1 e
 refine wpAny_mono (md (pP _ _) (wpAny_leaves_onW (Q:=λ_ s2=>∃h',(3,s2,{s' with heap:=h'},Heap.FlyingW B outer ea (.ref C) (.ref t) h',s'.heap.UpToSlots h')) (base:=B) I.ok.frames rfl j λh' c up=>⟨h',rfl,c,up⟩)) (λ_ s2⟨⟨h',W,c,up⟩,kp⟩=>?_) λ_ _ z=>z
 subst W;refine⟨ea,C,t,B,H2,m,rfl,I.os,I.bare,c,λh6 st d=>?_,hn,l rfl,p.keep kp,D C m H2 hm (n.hs.base.trans n.hs.sub) py⟩;obtain⟨a,_,_⟩:=b h6 st (up.trans d);rw[3,a.base,a.bH]
end
section
variable{X:Cx}{H0:Hp}{k:Nat}{f:Str}{sp:dO}{e:Expr}{tr:RA}{aU:Pos}{R:(1,Er)}
end
def Ey(P:Program)(w:World)(K:PySem.W.Frag)(mg:#[11])(g:Str)(tab:(5,Str,Addr)):Prop:=
 ∃(a:Addr)(es:Array DictEntry)(n:Nat),(0,mg g,.ref a)/\(0,K.lookup a,⟨.type "dict",none,.dict es n,#[]⟩)/\KeysOf (bx P w) es/\Pairs (bx P w) es.toList (tab.map λp=>(.inr p.1,.ref p.2))/\(tab.map (·.1)).Nodup
theorem yO:∀(tab:(5,Str,Addr))(x:Str)(p:Addr),(0,tab.lookup x,p)->(0,valueAt (tab.map λp=>((.inr p.1:Key),Value.ref p.2)) (.inr x),.ref p)
 |[],x,p,h=>by cases h
 |(y,q)::tab,x,p,h=>by
  rw[List.lookup_cons]at h
  by_cases e:x=y
  ·subst e
   rw[beq_self_eq_true]at h;cases h;simp[valueAt]
  ·rw[beq_eq_false_iff_ne.mpr e]at h
   have:=yO tab x p h;have ne:¬y=x:=λz=>e z.symm
   simp only[valueAt,List.map_cons,List.find?_cons]at this⊢;rw[2,decide_eq_false (λz=>ne (Sum.inr.inj z)),this]
section
variable{X:Cx}{H0:Hp}{e a:Expr}{te B:RE}{J pos c:Pos}
def Nw(tab:(5,Str,Addr))(te:RE)(Y:#[0])(Q:(1,D)):Prop:=te Y λd=>∃x p,(3,d,.str x,(0,tab.lookup x,p),Q (.adr p))
theorem pQ(T:Ey X.prog X.w X.K X.mg g tab)(he:aS X H0 e te)(hs:DP e:=by intro _ _;rfl)(hg:Gl X g:=by rfl)(j:(23,g):=by decide):aS X H0 (.Subscript (.Name g J) e pos) (Nw tab te):=by
 obtain⟨a,es,n,hm,hk,l,i,nd⟩:=T;intro Z s σ H Q I⟨Y,G,Qd,f,M,k⟩;refine yh PySem.F.slot_dict_getitem.lookup hs (cc I hg hm ?_ j);have D:bX X.K H0 te σ H (λv H'=>∃x p G',(3,v,.str x,(0,tab.lookup x,p),Nx X.K H0 σ Y G H G' H'/\Qd (.adr p))):=
  ⟨Y,G,_,f,M,λv H' G' d n r⟨x,p,e,hl,q⟩=>by subst e;exact⟨x,p,G',by simpa only[Rep]using r,hl,n,q⟩⟩
 refine bK (he Z s σ H _ I D) λu s1⟨v,H1,I1,rv,x,p,G',b,hl,n1,q⟩=>?_
 subst b;obtain⟨t,rfl⟩:=rv
 have dd:s1.heap.DictOf (bx X.prog X.w) a (tab.map λp=>(.inr p.1,.ref p.2)):=⟨_,es,n,I1.kM _ _ hk,⟨rfl,rfl,rfl⟩,rfl,l,i,by
  rw[List.map_map];unfold List.Nodup at nd⊢;rw[List.pairwise_map]at nd⊢
  exact nd.imp λh e=>h (Sum.inr.inj e)⟩
 refine⟨dd.mapOf.typeIs,?_⟩;exact wpAny_getItem_of (k:=.inr x) (dC X.prog X.w x t) dd.mapOf (yO tab x p hl) ⟨.ref p,H1,I1.tok _,rfl,k _ _ _ _ n1 (by simp only[Rep]) q⟩
def vq(K:PySem.W.Frag)(p:Addr)(xs:#[1]):Prop:=∃(o:Obj)(its:Array Value)(n:Nat),(0,K.lookup p,o)/\o.cls=.type "tuple"/\(3,o.data,.seq its n,(8,its.size),Vals (xs.map V.str) its.toList)
def Ny(K:PySem.W.Frag)(neg:Bool)(x y:D)(Q:(1,D)):Prop:=∃h p xs,(3,x,.str h,y=.adr p,vq K p xs/\Q (.bl (neg !=xs.any λz=>z==h)))
theorem yP(h:Str):∀xs:#[1],LK (.str h) (xs.map V.str)=xs.any λz=>z==h
 |[]=>rfl
 |x::xs=>by
  have:=yP h xs;unfold LK at this⊢;rw[List.map_cons,List.any_cons,List.any_cons,this];rfl
theorem vr:∀xs:#[1],(4,(xs.map V.str).all lM)
 |[]=>rfl
 |x::xs=>by rw[List.map_cons,List.all_cons,vr xs];rfl
theorem Cb{neg:Bool}:i7 K (MZ K neg) (Ny K neg):=λH0 σ Y G H x y T l Qd Q hs L N h k=>by
 obtain⟨z,p,xs,rfl,rfl,O,q⟩:=h;have L:x=.str z:=L;have N:y=.ref p:=N;subst L N;rw[0,⟨p,xs.map V.str,rfl,.inr (.inr O),rfl,vr xs,?_⟩,k _ H G (.bl (neg !=xs.any λw=>w==z)) (Nx.refl hs) ?_ q];rw[yP];simp only[Rep]
 cases neg<;>cases(xs.any λw=>w==z)<;>rfl
end
abbrev Ez(w:World)(x:Str)(t:Nat)(p:Addr):DictEntry:=⟨PyData.keyHash w.params x,.str x t,.ref p⟩
theorem dX{P:Program}{w:World}:∀(tab:(5,Str,Addr))(ts:List Nat),ts.length=tab.length->KeysOf (bx P w) ((tab.zip ts).map λq=>Ez w q.1.1 q.2 q.1.2).toArray/\Pairs (bx P w) ((tab.zip ts).map λq=>Ez w q.1.1 q.2 q.1.2) (tab.map λp=>(.inr p.1,.ref p.2))
 |[],[],_=>⟨λe he=>by simp at he,.nil⟩
 |(x,p)::tab,t::ts,h=>by
  obtain⟨h1,h2⟩:=dX (P:=P) (w:=w) tab ts (by simpa using h);refine⟨λe he=>?_,.cons (dC P w x t) rfl h2⟩;have he:e=Ez w x t p\/e∈(tab.zip ts).map λq=>Ez w q.1.1 q.2 q.1.2:=by simpa using he
  rcases he with rfl|he
  ·rw[1,.inr x,dC P w x t,rfl]
  ·exact h1 e (by simpa using he)
mutual
theorem Rep.cK{K:PySem.W.Frag}{G:Hp}{a:Addr}{aZ:(5,Key,V)}{ob:Obj}(ea:(0,G a,.cR ob (.dK aZ))):∀(d:D)(v:V),Rep K G d v->Rep K (upd G a (.dK aZ)) d v
 | .bu,v,h=>#[18]
 | .bl b,v,h=>#[18]
 | .int i,v,h=>#[18]
 | .str x,v,h=>#[18]
 | .adr x,v,h=>#[18]
 | .exc C o,v,h=>by
  simp only[Rep]at h⊢;obtain⟨b,h1,h2⟩:=h;rw[1,b,h1,h2.to λc j q=>(10,(aI λz=>by subst z;rw[ea]at q;cases q),q)]
 | .obj C kvs,v,h=>by
  simp only[Rep]at h⊢;obtain⟨b,T,vs,h1,h2,J⟩:=h;exact⟨b,T,vs,h1,#[23],bc.cK ea kvs vs J⟩
 | .tup xs,v,h=>by
  simp only[Rep]at h⊢;obtain⟨b,vs,h1,h2,J⟩:=h;rw[4,b,vs,h1,#[23],aE.cK ea xs vs J]
 | .lst xs,v,h=>by
  simp only[Rep]at h⊢;obtain⟨b,vs,h1,h2,J⟩:=h;refine⟨b,vs,h1,?_,aE.cK ea xs vs J⟩
  rcases h2 with(h2|⟨o,h2⟩)|h2
  ·exact .inl (.inl #[23])
  ·exact .inl (.inr ⟨o,#[23]⟩)
  ·exact .inr h2
 | .dK kvs,v,h=>by
  simp only[Rep]at h⊢;obtain⟨b,vs,h1,h2,J⟩:=h;refine⟨b,vs,h1,?_,bc.cK ea kvs vs J⟩
  by_cases hb:b=a
  ·subst hb
   rcases h2 with h2|⟨o,h2⟩
   ·rw[ea]at h2;cases h2
   ·rw[ea]at h2;cases h2;exact .inl aM
  ·rcases h2 with h2|⟨o,h2⟩
   ·exact .inl (10,aI hb,h2)
   ·exact .inr ⟨o,(10,aI hb,h2)⟩
 | .dT kvs,v,h=>by
  simp only[Rep]at h⊢;obtain⟨b,vs,h1,h2,J⟩:=h;refine⟨b,vs,h1,?_,bB.cK ea kvs vs J⟩
  rcases h2 with h2|⟨o,h2⟩
  ·exact .inl #[23]
  ·exact .inr ⟨o,#[23]⟩
theorem aE.cK{K:PySem.W.Frag}{G:Hp}{a:Addr}{aZ:(5,Key,V)}{ob:Obj}(ea:(0,G a,.cR ob (.dK aZ))):∀(ds:List D)(vs:List V),aE K G ds vs->aE K (upd G a (.dK aZ)) ds vs
 |[],vs,h=>by simpa only[aE]using h
 |d::ds,vs,h=>by
  simp only[aE]at h⊢;obtain⟨v,r,h1,h2,J⟩:=h;rw[4,v,r,h1,Rep.cK ea d v h2,aE.cK ea ds r J]
theorem bc.cK{K:PySem.W.Frag}{G:Hp}{a:Addr}{aZ:(5,Key,V)}{ob:Obj}(ea:(0,G a,.cR ob (.dK aZ))):∀(ds:(5,Key,D))(vs:(5,Key,V)),bc K G ds vs->bc K (upd G a (.dK aZ)) ds vs
 |[],vs,h=>by simpa only[bc]using h
 |(k,d)::ds,vs,h=>by
  simp only[bc]at h⊢;obtain⟨v,r,h1,h2,J⟩:=h;rw[4,v,r,h1,Rep.cK ea d v h2,bc.cK ea ds r J]
theorem bB.cK{K:PySem.W.Frag}{G:Hp}{a:Addr}{aZ:(5,Key,V)}{ob:Obj}(ea:(0,G a,.cR ob (.dK aZ))):∀(ds:(5,List Key,D))(vs:(5,List Key,V)),bB K G ds vs->bB K (upd G a (.dK aZ)) ds vs
 |[],vs,h=>by simpa only[bB]using h
 |(k,d)::ds,vs,h=>by
  simp only[bB]at h⊢;obtain⟨v,r,h1,h2,J⟩:=h;rw[4,v,r,h1,Rep.cK ea d v h2,bB.cK ea ds r J]
end
theorem Own.cK{H':Hp}{p:Addr}{d:D}(ea:(0,G a,.cR ob (.dK aZ)))(h:Own K G H p d)(e:H' p=H p):Own K (upd G a (.dK aZ)) H' p d:=by
 cases d with
 |lst ds=>rw[9];rw[1,vs,e.trans h1,aE.cK ea _ _ h2]
 |dK ds=>rw[9];rw[1,vs,e.trans h1,bc.cK ea _ _ h2]
 |dT ds=>rw[9];rw[1,vs,e.trans h1,bB.cK ea _ _ h2]
 |obj C ds=>obtain⟨T,vs,h1,h2⟩:=h;exact⟨T,vs,e.trans h1,bc.cK ea _ _ h2⟩
 |_=>exact h.elim
theorem Hs.cK{H0 H1:Hp}{σ:L2.St}{Y:#[0]}(h:Hs K H1 σ Y G H)(ea:(0,G a,.cR ob (.dK aZ)))(hb:aO H0 (upd G a (.dK aZ))):
Hs K H0 σ Y (upd G a (.dK aZ)) (upd H a (.dK aZ)):=by
 have x:∀i,¬At σ Y i a:=λi z=>by
  rcases h.ex a with⟨_,y⟩|⟨y,_⟩
  ·exact y i z
  ·rw[ea]at y;cases y
 have ne:∀{i b},At σ Y i b->b≠a:=λ{i b}z y=>by subst y;exact x i z
 refine⟨h.len,hb,λb=>?_,λi d e=>?_,λi d e=>?_,λi p d e=>?_,h.ne⟩
 ·by_cases hb:b=a
  ·subst hb;exact .inl ⟨by rw[aM,aM],x⟩
  ·rw[aI hb,aI hb];exact h.ex b
 ·obtain⟨v,O,r⟩:=h.fr i d e
  rw[1,v,O,Rep.cK ea _ _ r]
 ·obtain⟨p,O,o⟩:=h.ow i d e
  rw[1,p,O,Own.cK ea o (aI (ne ⟨_,e,True.intro,O⟩))]
 ·obtain⟨O,o⟩:=h.lk i p d e
  rw[3,O,Own.cK ea o (aI (ne ⟨_,e,True.intro,O⟩))]
theorem Hs.rebase{H0 H1:Hp}{σ:L2.St}{Y:#[0]}(h:#[12])(b:aO H1 G):Hs K H1 σ Y G H:=⟨h.len,b,h.ex,h.fr,h.ow,h.lk,h.ne⟩
section
variable{X:Cx}{Z:#[9]}{σ:L2.St}
theorem zT{h:Heap}(ok:i6 P w H h)(e:(0,H a,.cR ob (.dK aZ))):i6 P w (upd H a (.dK aZ)) h:=λb o q=>by
 have tp:∀b xs,(0,H b,.tup xs)->(0,upd H a (.dK aZ) b,.tup xs):=λb xs z=>(10,(aI λy=>by subst y;rw[e]at z;cases z),z)
 have ow:∀b c,(0,H b,.own c)->(0,upd H a (.dK aZ) b,.own c):=λb c z=>(10,(aI λy=>by subst y;rw[e]at z;cases z),z)
 by_cases hb:b=a
 ·subst hb
  rw[aM]at q;cases q;exact bJ.sub tp ow (ok b _ e).2
 ·rw[aI hb]at q
  exact bJ.sub tp ow (ok b o q)
theorem Inv.cK(I:(20,H,s))(e:(0,H a,.cR ob (.dK aZ)))(hx:∀o u,X.wx a≠some (.cR o u)):(20,upd H a (.dK aZ),s):=by
 have ne:∀{b},(2,H b)->b≠a:=λ{b}z y=>by subst y;rw[e]at z;cases z
 have M:∀{b},(2,H b)->(2,upd H a (.dK aZ) b):=λ{b}z=>(10,aI (ne z),z)
 have no:∀{b o},(0,H b,o)->o≠ .cR ob (.dK aZ)->(0,upd H a (.dK aZ) b,o):=λ{b o}z y=>(10,aI λw=>by subst w;rw[e]at z;cases z;exact y rfl,z)
 refine⟨I.ok,I.os,I.bare,⟨I.base.keep,I.base.slot,λb o q n hx=>M (I.base.free b o q n hx),I.base.there,λb xs q=>no (I.base.mS b xs q) (λz=>nomatch z),λb o u q=>?_,λb ps q=>?_⟩,I.loc,I.cell,M I.free,λx c q=>M (I.fj x c q),λp hp=>?_,zT I.bH e,I.len⟩
 ·rw[2,aI λz=>by subst z;exact hx o u q,I.base.kL b o u q]
 ·obtain⟨f,z⟩:=I.base.mT b ps q
  rw[3,f,no z (λz=>nomatch z)]
 ·obtain⟨d,B,g,j,h⟩:=I.pin p hp
  rw[4,d,M B,g,j,h]
end
section
variable{X:Cx}{tg:Expr}
end
section
variable{X:Cx}{H0:Hp}{tg:Expr}{g:RG}{body:List Stmt}{F:RS}{pos:Pos}{x:Str}
end
section
variable{X:Cx}{H0:Hp}{nT:Nat}{g:fX}{e:Expr}{pos p2:Pos}
variable{B iter t:Expr}{F:#[4]}{U:Scope}{N':#[1]}{te tel:RE}{tc:RT}
def Iq(nT:Nat)(te:RE)(g:fX)(tc:RT)(tel:RE)(Y:#[0])(Q:(1,D)):Prop:=te Y λd=>match d with
 | .tup xs=>iX g tc tel Y xs (List.replicate nT .un) [] (λT=>Q (.lst T))
 |_=>False
theorem tN(ok:de X U nT N')(hi:aS X H0 iter te)(hg:∀s3 A C f fp,yI (a_ X U N' s3 A C f fp) H0 nT B g)(O:∀s3 A C f fp,nf (a_ X U N' s3 A C f fp) H0 F tc)(P:∀s3 A C f fp,aS (a_ X U N' s3 A C f fp) H0 t tel)
(hs:(43,iter):=by intro _;rfl):b' X H0 #[19] (Iq nT te g tc tel):=
 (50,yG (g:=dt X.K H0 nT g) (tc:=liftT X.K H0 tc) (tel:=bX X.K H0 tel) ok (AQ hi) hg O P hs,by
  cases d with
  |tup xs=>
   rw[16];refine⟨a,rfl,⟨ws,qP n1.hs.sub (dg.of h2)⟩,λD I=>fD n1.hs (.tup (dg.of h2) J) I q1 λH' G' T N c b e=>k _ H' G' _ N (n1.g.trans c) (n1.h.trans b) e⟩
  |_=>exact q1.elim)
end
section
variable{X:Cx}{H0:Hp}{a b e o:Expr}{B F te to:RE}{tr:RA}{g:RJ}{pos w aU p2:Pos}
def Cc(x y:D)(Q:(1,D)):Prop:=match x,y with
 | .str i,.str j=>(8,i.length+j.length)/\Q (.str (i++j))
 |_,_=>False
theorem EA:i7 K (λx y H Q=>∃i j,(3,x,.str i,y=.str j,(8,i.length+j.length)/\Q (.str (i++j)) H)) Cc:=λH0 σ Y G H x y T l Qd Q hs L N h k=>by
 unfold Cc at h
 split at h
 ·rename_i i j
  obtain rfl:x=.str i:=L;obtain rfl:y=.str j:=N;exact⟨i,j,rfl,rfl,h.1,(52,h.2)⟩
 ·exact h.elim
theorem Ir(ha:dJ X H0 a B)(hb:dJ X H0 b F):aS X H0 (.BinOp a .Add b pos) (rK Cc B F):=uR wI EA ha hb
theorem zU:eZ X (.type "str") (λxs H Q=>(∃i,(3,xs,[.int i],i.natAbs.log2<1920,Q (.str (toString i)) H))\/ ∃x,xs=[.str x]/\Q (.str x) H):=by
 intro Z s σ H xs us Q I r h
 rcases h with h|⟨x,rfl,q⟩
 ·exact sQ Z s σ H xs us Q I r h
 ·obtain⟨u,rfl,t,rfl⟩:=vals1 r
  exact PySem.P.str_of_str ⟨.str x,H,I,⟨_,rfl⟩,q⟩
def Cd(ds:List D)(Q:(1,D)):Prop:=match ds with
 |[.int i]=>i.natAbs.log2<1920/\Q (.str (Str.ofString (toString i)))
 |[.str x]=>Q (.str x)
 |_=>False
theorem Iu:Dr K (λxs H Q=>(∃i,(3,xs,[.int i],i.natAbs.log2<1920,Q (.str (toString i)) H))\/ ∃x,xs=[.str x]/\Q (.str x) H) Cd:=λH0 σ Y G H vs ds Qd Q hs r h k=>by
 unfold Cd at h
 split at h
 ·rename_i i
  obtain⟨v,a,rfl,h1,h4⟩:=r;obtain rfl:a=[]:=h4;obtain rfl:v=.int i:=h1;exact .inl ⟨i,rfl,h.1,(52,h.2)⟩
 ·rename_i x
  obtain⟨v,a,rfl,h1,h4⟩:=r;obtain rfl:a=[]:=h4;obtain rfl:v=.str x:=h1;exact .inr ⟨x,rfl,(52,h)⟩
 ·exact h.elim
theorem yQ(hm:(2,X.mg "str"))(ha:jc X H0 (e::es) tr)(hg:Gl X "str":=by rfl)
(he:#[13]:=by rfl)(cU:(28,pos,es):=by rfl):aS X H0 (.Call (.Name "str" p) (e::es) [] pos) (uT Cd tr):=
 pj zU Iu hm rfl ha hg #[2] #[2] he cU
theorem r_:∀{xs:#[1]}{us:#[5]},Vals (xs.map V.str) us-> ∃l:List (Str×Tok),us=strValues l/\l.map (·.1)=xs
 |[],us,h=>by cases h;rw[1,[],rfl,rfl]
 |x::xs,us,h=>by
  cases h with
  |cons r t=>
   obtain⟨tk,rfl⟩:=r;obtain⟨l,rfl,e⟩:=r_ t;rw[1,(x,tk)::l,rfl,by simp[e]]
theorem sd{K:PySem.W.Frag}{H:Hp}:∀{xs:#[1]}{vs:List V},aE K H (xs.map D.str) vs->vs=xs.map V.str
 |[],vs,h=>by simpa only[aE,List.map_nil]using h
 |x::xs,vs,h=>by
  simp only[List.map_cons,aE]at h;obtain⟨v,r,rfl,h1,h2⟩:=h;rw[sd h2];simp only[Rep]at h1;rw[h1];rfl
def rJoin(sep:Str)(te:RE)(Y:#[0])(Q:(1,D)):Prop:=te Y λd=>∃xs:List Str,(3,d,.lst (xs.map D.str),(4,JoinOk sep xs),Q (.str (Txt.join sep xs)))
theorem Iv{sep:Str}{j:Nat}(he:dJ X H0 e te)(m:M1 X (.Constant (.str sep) j p) "join" w e aU:=by exact⟨rfl,rfl,rfl,rfl⟩):aS X H0 (31,.Constant (.str sep) j p,"join",[e],aU) (rJoin sep te):=by
 intro Z s σ H Q I⟨Y,G,Qd,hs,M,k⟩;refine wpAny_Call_method m.base m.LL m.line PySem.F.plainAttrs_str PySem.F.slot_str_join PySem.F.type_str_join (Calls.Constant_str ⟨typeIs_str _ _ _,(λ_ e=>nomatch e),?_⟩);rw[m.trees];have f:f7 X.K H0 te σ H (λv H'=>∃G' xs,Nx X.K H0 σ Y G H G' H'/\ox X.K G' H' (.lst (xs.map D.str)) v/\(4,JoinOk sep xs)/\Qd (.str (Txt.join sep xs))):=
  ⟨Y,G,_,hs,M,λv H' G' d n r⟨xs,e,ok,q⟩=>by subst e;exact⟨G',xs,n,r,ok,q⟩⟩
 refine Calls.callWith_builtin rfl (Calls.evalArgs_plain (Calls.spliced_cons (bK (he Z _ σ H _ (I.tok _) f) λc s2⟨y,H2,b,N,G',xs,n,h,ok,q⟩=>Calls.spliced_nil ?_)));obtain⟨a,vs,rfl,h2,J⟩:=h;obtain rfl:=sd J;cases N;obtain⟨its,r,pl,hz⟩:=b.list h2;obtain⟨l,rfl,e⟩:=r_ r;exact SC.join pl.isList e ok λt' kk=>⟨.str _,H2,b.tok _,⟨_,rfl⟩,k _ _ _ _ n (by simp only[Rep]) q⟩
abbrev K1(te:RE)(t:RJ)(Y:#[0])(Q:(1,Str)):Prop:=te Y λd=>∃x:Str,(3,d,.str x,x.length<=2000,t Y λy=>Q (x++y))
theorem Ce(he:aS X H0 e te)(h:Eu X H0 es g):Eu X H0 (.FormattedValue e (-1) none pos::es) (K1 te g):=λZ s σ H T Q I hl⟨Y,G,Qd,hs,M,k⟩=>by
 have f:(8,T.length+2000*es.length+2000):=by simpa[Nat.mul_add,Nat.add_assoc]using hl
 refine wpAny_FormattedValue_plain ?_;have D:bX X.K H0 te σ H (λv H'=>∃(x:Str)(G':Hp),(3,v,.str x,x.length<=2000,Nx X.K H0 σ Y G H G' H'/\g Y λy=>Qd (x++y))):=
  ⟨Y,G,_,hs,M,λv H' G' d n r⟨i,e,hi,q⟩=>by subst e;exact⟨i,G',by simpa only[Rep]using r,hi,n,q⟩⟩
 refine bK (he Z s σ H _ I D) λu s1⟨v,H1,I1,rv,x,G',b,hi,n,q⟩=>?_
 subst b;obtain⟨t,rfl⟩:=rv
 have fin:∀(j:Tok)(tk:Nat),∃(y:Str)(t':Tok),(3,Value.str x j,.str y t',(8,(T++y).length),Joins (model X.prog X.w) X.A X.xe (evalEach es X.env) (T++y) (λC s1=>∃y H',(3,C,T++y,(8,C.length),Inv X Z σ H' s1/\Q y H')) {s1 with toks:=tk}):=λj tk=>
  ⟨x,j,rfl,by rw[strLen_append];omega,fM _ _ (h Z _ σ H1 (T++x) (λy=>Q (x++y)) (I1.tok _) (by rw[strLen_append];omega) ⟨Y,G',_,n.hs,q,λy H' G2 P q=>k _ _ _ (n.trans P) q⟩) λC s1⟨y,H',e,l,K,q⟩=>⟨x++y,H',by rw[e,Str.append_assoc],l,K,q⟩⟩
 exact wpAny_formatField_str (fin _ _) (fin _ _) #[3]
end
section
variable{X:Cx}{H0:Hp}{e:Expr}{te:RE}{lo hi:Option Expr}{S c:RO}{pos p2:Pos}
end
section
variable{R:(18,Result)}
variable{t i i1 j i2:Expr}{U:Scope}{pos:Pos}{it T:Value}{env:Env}
end
section
variable{Y:Cx}{Z:#[9]}{σ:L2.St}{fp:List Addr}{t i i1 j i2:Expr}{U:Scope}{pos:Pos}{g:TG}{tel:TE}{J:It}{it D:Addr}{M:(7,Nat,Heap)}{QN:(7,L2.St,Hp)}
end
section
variable{X:Cx}{Z:#[9]}{σ:L2.St}{U:Scope}{N':#[1]}{f:(5,Str,Addr)}{fp:List Addr}{t i i1 j i2:Expr}{pos:Pos}{g1 g2:TG}{G:TI}{tel:TE}{nT:Nat}{J:It}{it D:Addr}{M:(7,Nat,Heap)}
end
section
variable{X:Cx}{H0:Hp}{nT:Nat}{g1 g2:fX}{te a tel:RE}{pos:Pos}{t i i1 j i2:Expr}{U:Scope}{N':#[1]}
end
section
variable{X:Cx}{H0:Hp}{e a:Expr}{tr:RA}{te:RE}{pos:Pos}
def K2(te:RE)(Y:#[0])(Q:(1,Bool)):Prop:=te Y λd=>match d with
 | .lst xs=>Q (!xs.isEmpty)
 |_=>False
theorem xi{xs:List D}{ws:List V}(h:aE K H xs ws):ws.isEmpty=xs.isEmpty:=by
 have:=h.length
 cases xs<;>cases ws<;>simp_all
theorem K3(ha:aS X H0 a te)(he:∀b,isTrue a X.env b=(do let v<-b;standAt a.pos;holding [v] (truthy v)):=by intro _;rfl):qR X H0 a (K2 te):=
 PT.weak (AZ ha he) (41,k,λv H1 G1 d n1 r1 q1=>by
  cases d with
  |lst xs=>
   rw[16];rw[1,!xs.isEmpty,.inl ⟨ws,n1.hs.sub.seq h2,by rw[xi J]⟩,k _ H1 G1 n1 q1]
  |_=>exact q1.elim)
end
section
variable{X:Cx}{U:Scope}{N':#[1]}{t i i1 j i2:Expr}{pos:Pos}{g1 g2:TG}{G:TI}{tel:TE}{nT:Nat}
end
section
variable{X:Cx}{H0:Hp}{nT:Nat}{g1 g2:fX}{te a tel:RE}{pos:Pos}{t i i1 j i2:Expr}{U:Scope}{N':#[1]}
end
section
variable{X:Cx}{H0:Hp}{e:Expr}{tr:RA}{pos:Pos}
end
section
variable{X:Cx}{H0:Hp}{e value:Expr}{te tv:RE}{pos R aU w:Pos}{x:Str}
end
section
variable{X:Cx}{H0:Hp}{nT:Nat}{pos:Pos}{g:fX}{B t:Expr}{F:#[4]}{U:Scope}{N':#[1]}{tel:RE}{tc:RT}
end
section
variable{X:Cx}{H0:Hp}{o e:Expr}{te B:RE}{tr:RA}{pos w aU:Pos}
theorem xj:Ha X "str.isdigit" (λx vs H Q=>∃i,(3,x,.str i,vs=[],Q (.bl (Txt.isdigit i)) H)):=by
 intro Z s σ H x xs v us Q I L rv h;obtain⟨i,rfl,rfl,q⟩:=h;rw[8];cases rv;exact SC.isdigit ⟨.bl _,H,I,rfl,q⟩
theorem zV:Ha X "str.startswith" (λx vs H Q=>∃i j,(3,x,.str i,vs=[.str j],Q (.bl (Txt.startswith i j)) H)):=by
 intro Z s σ H x xs v us Q I L rv h;obtain⟨i,j,rfl,rfl,q⟩:=h;rw[8];obtain⟨u,rfl,t',rfl⟩:=vals1 rv;exact SC.startswith ⟨.bl _,H,I,rfl,q⟩
theorem zW:Ha X "str.removeprefix" (λx vs H Q=>∃i j,(3,x,.str i,vs=[.str j],(8,i.length)/\Q (.str (Txt.removeprefix i j)) H)):=by
 intro Z s σ H x xs v us Q I L rv h;obtain⟨i,j,rfl,rfl,hz,q⟩:=h;rw[8];obtain⟨u,rfl,t',rfl⟩:=vals1 rv;exact SC.removeprefix (λt' k=>⟨.str _,H,I.tok k,⟨_,rfl⟩,q⟩) hz
theorem se:∀l:(5,Str,Tok),Vals ((l.map (·.1)).map V.str) (strValues l)
 |[]=>.nil
 |(x,t)::l=>.cons ⟨t,rfl⟩ (se l)
theorem Cf:Ha X "str.split" (λx vs H Q=>∃i j,(3,x,.str i,vs=[.str j],(3,j.length==0,false,i.length<=16384,∀l,(2,H l)->Q (.ref l) (upd H l (.lst ((Txt.split i j).map V.str)))))):=by
 intro Z s σ H x xs v us Q I L rv h;obtain⟨i,j,rfl,rfl,hy,hz,q⟩:=h;rw[8];obtain⟨u,rfl,t',rfl⟩:=vals1 rv;have a:(8,i.length):=Nat.le_trans hz #[2];have hn:(8,(Builtin.Str.partsBetween i (Builtin.Str.occurrences i j 0 i.length (i.length+1)) j.length).length):=by
  rw[length_partsBetween];have:=StrLaws.occ_length_le i j 0 i.length (i.length+1);exact Nat.le_trans (show _<=16386 by omega) #[2]
 have fin:∀(l:(5,Str,Tok))(k:Nat),l.map (·.1)=Txt.split i j->(8,l.length)->EP X Z σ Q #[14] {s with heap:=s.heap.push {cls:=.type "list",data:=.seq (strValues l).toArray},toks:=k}:=λl k e hl=>by
  refine⟨#[14],_,I.laid (t':=k) (λb o e=>(22,e)) (Nat.le_refl _) (show bJ X.prog X.w _ _ _ (.lst ((Txt.split i j).map V.str))from ?_),rfl,q _ (I.bH.fresh (Nat.le_refl _))⟩;rw[<-e];rw[4,by rw[List.length_map,List.length_map];exact hl,strValues l,0,se l,#[15]]
 cases h1:(decide (i.length<j.length)||decide (Builtin.Str.strKind i<Builtin.Str.strKind j))with
 |true=>exact call_meets F.slot_str_split (typeIs_str _ _ _) F.entry_str_split (F.args_str_split_2 _ _) (meets_str_split_cannot_occur i j t t' h1) (fin [(i,t)] s.toks (if_pos h1).symm (15,(8,1)))
 |false=>
  cases S:(Builtin.Str.occurrences i j 0 i.length (i.length+1)).isEmpty with
  |true=>exact call_meets F.slot_str_split (typeIs_str _ _ _) F.entry_str_split (F.args_str_split_2 _ _) (meets_str_split_not_found i j t t' h1 hy S) (fin [(i,t)] s.toks ((if_neg (ne_true_of_eq_false h1)).trans (if_pos S)).symm (15,(8,1)))
  |false=>
   refine call_meets F.slot_str_split (typeIs_str _ _ _) F.entry_str_split (F.args_str_split_2 _ _) (meets_str_split_sep i j t t' h1 hy S a hn) ?_
   show EP X Z σ Q _ {s with toks:=_,heap:=s.heap.push {cls:=.type "list",data:=.seq (strsFrom s.toks (Builtin.Str.partsBetween i (Builtin.Str.occurrences i j 0 i.length (i.length+1)) j.length)).toArray}}
   rw[strsFrom_eq];refine fin (numbered s.toks _) _ ((numbered_texts _ _).trans ((if_neg (ne_true_of_eq_false h1)).trans (if_neg (ne_true_of_eq_false S))).symm) ?_;have:=congrArg List.length (numbered_texts s.toks (Builtin.Str.partsBetween i (Builtin.Str.occurrences i j 0 i.length (i.length+1)) j.length));rw[List.length_map]at this;rw[2,this,hn]
def NA(f:Str->D)(te:RE)(Y:#[0])(Q:(1,D)):Prop:=te Y λd=>∃x:Str,d=.str x/\Q (f x)
def EB(f:Str->Str->D)(C:(7,Str,Str))(te B:RE)(Y:#[0])(Q:(1,D)):Prop:=te Y λd=>∃x:Str,d=.str x/\B Y λa=>∃y:Str,(3,a,.str y,C x y,Q (f x y))
theorem zX(ho:aS X H0 o te)(l:attributeBase o "isdigit" X.env (eval o X.env)=eval o X.env:=by rfl)(c:(4,w.endLine==aU.line):=by rfl):
aS X H0 (31,o,"isdigit",[],aU) (NA (λx=>.bl (Txt.isdigit x)) te):=
 (50,Hj PySem.F.plainAttrs_str PySem.F.slot_str_isdigit PySem.F.type_str_isdigit xj ho l c,by
  obtain⟨x,rfl,q⟩:=q1;have r1:v=.str x:=r1;subst r1
  rw[4,rfl,x,rfl,rfl,k _ H1 G1 _ n1 (by simp only[Rep]) q])
abbrev LU(X:Cx)(o e:Expr)(m:Str)(w aU:Pos):Prop:=(3,attributeBase o m X.env (eval o X.env),eval o X.env,(60,[e],[e]),(4,w.endLine==aU.line)/\(51,[e],e,[]))
theorem F1{m:Str}{id:String}{f:Str->Str->D}{g:Str->Str->V}{C:(7,Str,Str)}(slot:Slot "str" m id)(a:typeOf (.builtin id)=pure (.type "method_descriptor"))(hg:∀K G x y,Rep K G (f x y) (g x y))
(hm:Ha X id (λx vs H Q=>∃i j,(3,x,.str i,vs=[.str j],C i j/\Q (g i j) H)))(ho:aS X H0 o te)(ha:aS X H0 e B)(sm:LU X o e m w aU):
aS X H0 (31,o,m,[e],aU) (EB f C te B):=
 (50,A7 PySem.F.plainAttrs_str slot a hm ho (cZ ha gj sm.2.2.2) sm.1 sm.2.1 sm.2.2.1 sm.2.2.2 rfl,by
  obtain⟨x,rfl,q1⟩:=q1;have r1:v=.str x:=r1;subst r1;refine⟨rfl,Y,G1,_,n1.hs,q1,λv2 H2 G2 l P r2 q2=>?_⟩;obtain⟨y,rfl,hC,q2⟩:=q2;have r2:v2=.str y:=r2;subst r2
  exact⟨x,y,rfl,rfl,hC,k _ H2 G2 _ (n1.trans P) (hg _ _ _ _) q2⟩)
theorem Cg(ho:aS X H0 o te)(ha:aS X H0 e B)(sm:LU X o e "startswith" w aU:=by exact⟨rfl,rfl,rfl,rfl⟩):aS X H0 (31,o,"startswith",[e],aU) (EB (λx y=>.bl (Txt.startswith x y)) (λ_ _=>True) te B):=
 F1 (g:=λx y=>.bl (Txt.startswith x y)) PySem.F.slot_str_startswith PySem.F.type_str_startswith (λ_ _ _ _=>by simp only[Rep]) (λZ s σ H x xs v us Q I L rv⟨i,j,O,W,_,q⟩=>zV Z s σ H x xs v us Q I L rv ⟨i,j,O,W,q⟩) ho ha sm
theorem Ci(ho:aS X H0 o te)(ha:aS X H0 e B)(sm:LU X o e "removeprefix" w aU:=by exact⟨rfl,rfl,rfl,rfl⟩):aS X H0 (31,o,"removeprefix",[e],aU) (EB (λx y=>.str (Txt.removeprefix x y)) (λx _=>(8,x.length)) te B):=
 F1 (g:=λx y=>.str (Txt.removeprefix x y)) PySem.F.slot_str_removeprefix PySem.F.type_str_removeprefix (λ_ _ _ _=>by simp only[Rep]) zW ho ha sm
theorem hS{K:PySem.W.Frag}{G:Hp}:∀xs:#[1],aE K G (xs.map D.str) (xs.map V.str)
 |[]=>aE.nil
 |x::xs=>by rw[List.map_cons,List.map_cons];exact aE.cons (by simp only[Rep]) (hS xs)
theorem yR(ho:aS X H0 o te)(ha:aS X H0 e B)(sm:LU X o e "split" w aU:=by exact⟨rfl,rfl,rfl,rfl⟩):b' X H0 (31,o,"split",[e],aU) (EB (λx y=>.lst ((Txt.split x y).map D.str)) (λx y=>(y.length==0)=false/\x.length<=16384) te B):=
 (50,A7 PySem.F.plainAttrs_str PySem.F.slot_str_split PySem.F.type_str_split Cf ho (cZ ha gj sm.2.2.2) sm.1 sm.2.1 sm.2.2.1 sm.2.2.2 rfl,by
  obtain⟨x,rfl,q1⟩:=q1;have r1:v=.str x:=r1;subst r1;refine⟨rfl,Y,G1,_,n1.hs,q1,λv2 H2 G2 a P r2 q2=>?_⟩;obtain⟨y,rfl,hC,q2⟩:=q2;have r2:v2=.str y:=r2;subst r2;refine⟨x,y,rfl,rfl,hC.1,hC.2,λl hl=>?_⟩
  exact k _ _ G2 (.lst ((Txt.split x y).map D.str)) (P.hs.fresh hl ⟨_,aM,hS _⟩) (n1.g.trans P.g) ((n1.h.trans P.h).trans (bO hl)) q2)
def F2(ds:List D)(Q:(1,D)):Prop:=∃x:Str,(3,ds,[.str x],(8,x.length),Q (.int x.length))
theorem EC:Dr K (λxs H Q=>∃z,(3,xs,[.str z],(8,z.length),Q (.int z.length) H)) F2:=λH0 σ Y G H vs ds Qd Q hs r h k=>by
 obtain⟨x,rfl,hz,q⟩:=h;obtain⟨v,a,rfl,h1,h4⟩:=r;obtain rfl:a=[]:=h4;obtain rfl:v=.str x:=h1;exact⟨x,rfl,hz,(52,q)⟩
theorem Iw(hm:(2,X.mg "len"))(ha:jc X H0 (e::es) tr)(hg:Gl X "len":=by rfl)
(he:#[13]:=by rfl)(cU:(28,pos,es):=by rfl):aS X H0 (.Call (.Name "len" p) (e::es) [] pos) (uT F2 tr):=
 oN sX EC hm PySem.boot_len ha hg #[2] #[2] he cU
theorem zY:eZ X (.type "int") (λxs H Q=>∃z n,(3,xs,[.str z],(0,intText? z,n),z.length<=640/\Q (.int n) H)):=by
 intro Z s σ H xs us Q I r h;obtain⟨z,n,rfl,hn,hl,q⟩:=h;obtain⟨u,rfl,t,rfl⟩:=vals1 r;exact PySem.W.KIN.call_text hn hl ⟨.int n,H,I.tok _,⟨_,rfl⟩,q⟩
def F3(ds:List D)(Q:(1,D)):Prop:=∃(x:Str)(n:Int),(3,ds,[.str x],(0,intText? x,n),x.length<=640/\Q (.int n))
theorem ED:Dr K (λxs H Q=>∃z n,(3,xs,[.str z],(0,intText? z,n),z.length<=640/\Q (.int n) H)) F3:=λH0 σ Y G H vs ds Qd Q hs r h k=>by
 obtain⟨x,n,rfl,hn,hl,q⟩:=h;obtain⟨v,a,rfl,h1,h4⟩:=r;obtain rfl:a=[]:=h4;obtain rfl:v=.str x:=h1;exact⟨x,n,rfl,hn,hl,(52,q)⟩
theorem Cj(hm:(2,X.mg "int"))(ha:jc X H0 (e::es) tr)(hg:Gl X "int":=by rfl)
(he:#[13]:=by rfl)(cU:(28,pos,es):=by rfl):aS X H0 (.Call (.Name "int" p) (e::es) [] pos) (uT F3 tr):=
 pj zY ED hm rfl ha hg #[2] #[2] he cU
def Ck(ds:List D)(Q:(1,D)):Prop:=∃xs:List D,ds=[.lst xs]/\Q (.tup xs)
theorem Cm:Dr K (λxs H Q=>∃p ys,xs=[.ref p]/\((c_ K H p ys/\ ∀l,(2,H l)->Q (.ref l) (upd H l (.tup ys)))\/(dg K H p ys/\Q (.ref p) H))) Ck:=λH0 σ Y G H vs ds Qd Q hs r h k=>by
 obtain⟨xs,rfl,q⟩:=h;rw[18];refine⟨a,ws,rfl,.inl ⟨h2,λl hl=>?_⟩⟩;obtain⟨P,s2⟩:=hs.laid (o:=.tup ws) hl;exact k _ _ _ (.tup xs) ⟨P,s2,bO hl⟩ (by simp only[Rep];rw[4,l,ws,rfl,aM,aE.mono s2 _ _ J]) q
theorem EE(hm:(2,X.mg "tuple"))(ha:jc X H0 (e::es) tr)(hg:Gl X "tuple":=by rfl)
(he:#[13]:=by rfl)(cU:(28,pos,es):=by rfl):aS X H0 (.Call (.Name "tuple" p) (e::es) [] pos) (uT Ck tr):=
 pj qO Cm hm rfl ha hg #[2] #[2] he cU
def F4(x y:D)(Q:(1,D)):Prop:=∃xs ys:List D,(3,x,.tup xs,y=.tup ys,xs≠[]/\ys≠[]/\(8,xs.length+ys.length)/\Q (.tup (xs++ys)))
theorem EG:i7 K (A4 K) F4:=λH0 σ Y G H x y T l Qd Q hs L N h k=>by
 obtain⟨xs,ys,rfl,rfl,lG,c,hz,q⟩:=h;obtain⟨a,vs,rfl,h2,J⟩:=L;obtain⟨b,ws,rfl,h4,h5⟩:=N;have l1:=J.length;have l2:=h5.length;refine⟨a,b,vs,ws,rfl,rfl,dg.of h2,dg.of h4,?_,#[3],λe=>?_,λ_ p hp=>?_⟩
 ·intro e
  rw[e]at l1;exact lG (List.length_eq_zero_iff.mp (by simpa using l1))
 ·subst e
  exact absurd (List.length_eq_zero_iff.mp (by simpa using l2)) c
 ·obtain⟨P,s2⟩:=hs.laid (o:=.tup (vs++ws)) hp
  exact k _ _ _ (.tup (xs++ys)) ⟨P,s2,bO hp⟩ (by simp only[Rep];rw[4,p,_,rfl,aM,aE.append (aE.mono s2 _ _ J) (aE.mono s2 _ _ h5)]) q
theorem Cn{a b:Expr}{B F:RE}(ha:dJ X H0 a B)(hb:dJ X H0 b F):aS X H0 (.BinOp a .Add b pos) (rK F4 B F):=uR DH EG ha hb
end
structure LV(prog:Program)(w:World)(i l:Addr)(n:Nat)(Xw:(7,Nat,Value))(St:(7,Nat,Heap))(Sq:(1,Heap)):Prop where
 item:∀{A:Around}{E:#[8]}{s:Shared}{Q:#[8]}{k:Nat},(11,k<n,St k s.heap,Sq s.heap,∀v h' t',Xw k v->St (k+1) h'->Heap.SameBut i s.heap h'->Q v {s with heap:=h',toks:=t'},(27,Builtin.SmallTypes.nextOf (.ref i)))
 fin:∀{A:Around}{E:#[8]}{s:Shared}{Q:#[8]}{k:Nat},(11,(2,A.handled),n<=k,St k s.heap,Sq s.heap,(∀h' e,Heap.ExtBut i s.heap h'->(∃o,(0,h'.get? e,o)/\o.cls=.type "StopIteration")->E (.ref e) {s with heap:=h'})->(27,Builtin.SmallTypes.nextOf (.ref i)))
 EH:∀{k:Nat}{h h':Heap},St k h->(∀o,(0,h.get? i,o)->(0,h'.get? i,o))->St k h'
 K4:∀{h h':Heap},Sq h->(∀o,(0,h.get? l,o)->(0,h'.get? l,o))->Sq h'
 obj:∀{k:Nat}{h:Heap},St k h-> ∃o,(0,h.get? i,o)/\ ∃vs,o.data=.fields vs
theorem vt{i:Addr}:LV prog w i l xs.size (λk v=>(0,xs[k]?,v)) (λk h=>h.IsListIter i l k) (λh=>h.IsList l xs)where
 item:=λhk st sq q=>wpAny_nextOf_list_item st sq (Array.getElem?_eq_getElem hk) λh' a b=>q _ h' _ (Array.getElem?_eq_getElem hk) a b
 fin:=λN hk st sq q=>wpAny_nextOf_list_end N st sq (Array.getElem?_eq_none hk) q
 EH:=λst e=>st.at e
 K4:=λ⟨o,ho,r⟩e=>⟨o,e _ ho,r⟩
 obj:=λ⟨o,ho,_,hd⟩=>⟨o,ho,_,hd⟩
theorem Co{i:Addr}{k:Nat}(st:IsTupIter s.heap i l k)(sq:IsTup s.heap l xs)
(h1:∀x h',(0,xs[k]?,x)->IsTupIter h' i l (k+1)->Heap.SameBut i s.heap h'->Q x {s with heap:=h'})
(h2:(2,xs[k]?)->(2,A.handled)/\ ∀h' e,Heap.ExtBut i s.heap h'->(∃o,(0,h'.get? e,o)/\o.cls=.type "StopIteration")->E (.ref e) {s with heap:=h'}):(27,Builtin.SmallTypes.nextOf (.ref i)):=by
 obtain⟨g,c,d,b⟩:=id st;obtain⟨lo,v,_,h,f⟩:=sq;unfold Builtin.SmallTypes.nextOf;refine(6,wpAny_callSpecial?_slot (name:=Str.ofString "__next__") st.typeIs slot_tupleiter_next (wpAny_call_entry slot_tupleiter_next st.typeIs entry_tupleiter_next ?go (args_tupleiter_next _)))
 case go=>
 show wpAny _ _ (field (.ref i) 0>>=_) _ _ _
 refine(6,wpAny_field c b (x:=.ref l) rfl ?_)
 show wpAny _ _ (ite _ _ _) _ _ _
 rw[if_neg (show¬(4,Value.ref l==Value.none)from λz=>Bool.false_ne_true z)]
 show wpAny _ _ (field (.ref i) 1>>=_) _ _ _
 rw[0,(6,wpAny_field c b (x:=.int k 0) rfl ?_),wpAny_bind (m:=seqItems? (.ref l)) (wpAny_seqItems v f ?_)]
 cases hx:xs[k]? with
 |some x=>
  simp only[Int.toNat_natCast,hx];refine(6,wpAny_setField c b (by simp) (wpAny_pure ⟨x,rfl,wpAny_pure (h1 x _ hx ⟨_,Heap.get?_update_self _ c (Obj.isFreed_of_fields (Obj.data_mapFields b _)),(Obj.cls_mapFields ..).trans d,?_⟩ (Heap.SameBut.update ..))⟩));rw[Obj.data_mapFields b];simp[rawInt]
 |none=>
  obtain⟨N,D⟩:=h2 hx;simp only[Int.toNat_natCast,hx];rw[0,wpAny_bind (wpAny_rule (6,wpAny_setField c b (by simp) ?_)),wpAny_bind (m:=newExc (.type "StopIteration") []) ?_];simp only[newExc,newTuple];rw[0,(6,wpAny_newObj_type ?_ (by size_fits)),wpAny_bind (m:=firstArgMember _ _) (wpAny_of_eq (a:=Value.none) (by first|rfl|(simp only[firstArgMember];rfl)) (wpAny_newObj_type ?_ (by size_fits)))];simp only[raiseNew];refine wpAny_bind (wpAny_handled ?_)
  first|rw[N]|rw[show(2,A.in1.handled)from N]
  exact wpAny_bind (wpAny_pure (wpAny_throw (D _ _ (((Heap.SameBut.update ..).extBut.push _).push _) ⟨_,#[15],rfl⟩)))
theorem yS{i:Addr}:LV prog w i l xs.size (λk v=>(0,xs[k]?,v)) (λk h=>IsTupIter h i l k) (λh=>IsTup h l xs)where
 item:=λhk st sq q=>Co st sq (λx h' e a b=>q x h' _ e a b) λe=>by rw[6,Array.getElem?_eq_getElem hk]
 fin:=λN hk st sq q=>Co st sq (λx h' e _ _=>by rw[6,Array.getElem?_eq_none hk]) λ_=>⟨N,q⟩
 EH:=λ⟨o,ho,r⟩e=>⟨o,e _ ho,r⟩
 K4:=λ⟨o,ho,r⟩e=>⟨o,e _ ho,r⟩
 obj:=λ⟨o,ho,_,hd⟩=>⟨o,ho,_,hd⟩
structure xk(z TI TO i1 i2 l1 l2:Addr):Prop where
 ti:TI≠z/\TI≠TO/\TI≠i1/\TI≠i2
 to:TO≠z/\TO≠i1/\TO≠i2
 it:i1≠z/\i2≠z/\i1≠i2
 la:l1≠z/\l1≠TO/\l1≠i1/\l1≠i2
 lb:l2≠z/\l2≠TO/\l2≠i1/\l2≠i2
section
variable{z TI TO i1 i2 l1 l2:Addr}{n1 P k1 k2:Nat}{v B:(7,Nat,Value)}{f d:(7,Nat,Heap)}{u p:(1,Heap)}{a b:Value}
theorem yT{Q:(18,Option Value)}(D:xk z TI TO i1 i2 l1 l2)(k:LV prog w i1 l1 n1 v f u)(q:LV prog w i2 l2 P B d p)
(hz:IsZip s.heap z TI TO .none)(Xx:IsPair s.heap TI (.ref i1) (.ref i2))(Xy:IsPair s.heap TO a b)(i:f k1 s.heap)(j:d k2 s.heap)(q1:u s.heap)(q2:p s.heap)
(h1:k1<n1->k2<P-> ∀x y h' t',(11,v k1 x,B k2 y,IsZip h' z TI TO (rawInt s.heap.objs.size),IsPair h' TO x y,(11,f (k1+1) h',d (k2+1) h',IsPair h' s.heap.objs.size x y,h'.objs.size= #[16],(58,h'.get?)->Q (some (.ref s.heap.objs.size)) {s with heap:=h',toks:=t'})))
(h2:n1<=k1\/P<=k2->(2,A.handled)/\ ∀h' t',(58,h'.get?)->Q none {s with heap:=h',toks:=t'}):(27,pyNext (.ref z)):=by
 have O:s.TypeIs (.ref z) "zip":=⟨_,hz,rfl⟩;obtain⟨d1,K,d3,d4⟩:=D.ti;obtain⟨o1,M,o3⟩:=D.to;obtain⟨r,H,I⟩:=D.it;obtain⟨a1,a2,a3,a4⟩:=D.la;obtain⟨b1,b2,b3,b4⟩:=D.lb;unfold pyNext;refine wpAny_bind (wpAny_attempt (wpAny_callSpecial?_slot (name:=Str.ofString "__next__") O F.slot_zip_next (wpAny_call_entry F.slot_zip_next O F.entry_zip_next ?go (F.args_zip_next_1 _))))
 case go=>
 rw[0,wpAny_bind (m:=field (.ref z) 2) (wpAny_field hz rfl (x:=.bool false) rfl ?_),wpAny_bind (m:=field (.ref z) 3) (wpAny_field hz rfl (x:=.ref TI) rfl ?_)];rw[0,(6,wpAny_seqItems Xx rfl ?_),wpAny_bind (m:=Builtin.SmallTypes.ownedTupleIsFree (.ref z)) ?_];unfold Builtin.SmallTypes.ownedTupleIsFree;refine(6,wpAny_field hz rfl (x:=.none) rfl (wpAny_pure ?_));simp only[if_true];rw[0,wpAny_bind (wpAny_rule ?_),(6,wpAny_field hz rfl (x:=.ref TO) rfl ?_)];refine(6,wpAny_setField_rec hz (by simp) λg1 G s1=>?_);replace G:IsZip g1 z TI TO .ellipsis:=G;refine(6,?_);simp only[List.zipIdx_cons,List.zipIdx_nil,List.forIn_cons,List.forIn_nil]
 have ends:∀{h4:Heap}{e:Addr}{t':Nat},(11,(58,h4.get?),IsZip h4 z TI TO .ellipsis,∃o,(0,h4.get? e,o)/\o.cls=.type "StopIteration",∀h' t',(58,h'.get?)->Q none {s with heap:=h',toks:=t'},∀(h5:Heap),Heap.SameBut z h4 h5->(58,h5.get?)/\ ∃o,(0,h5.get? e,o)/\o.cls=.type "StopIteration"):=λ{h4 e t'}kp zz⟨oe,he,hc⟩hq h5 sb=>by
  have Xz:e≠z:=λx=>by subst x;rw[zz]at he;cases he;simp at hc
  exact⟨λc o U L c3 n x=>sb.extBut _ _ U (kp c o U L c3 n x),oe,sb.extBut _ _ Xz he,hc⟩
 rw[0,wpAny_bind (wpAny_bind (wpAny_onRaise ?_)),wpAny_bind (m:=Builtin.SmallTypes.nextOf (.ref i1)) ?_]
 rcases Nat.lt_or_ge k1 n1 with R|ge1
 rotate_left
 ·obtain⟨N,hq⟩:=h2 (.inl ge1)
  refine k.fin N ge1 (k.EH i λo e=>s1.extBut _ _ r e) (k.K4 q1 λo e=>s1.extBut _ _ a1 e) λg2 e s2 he=>?_
  have zz:IsZip g2 z TI TO .ellipsis:=s2 _ _ r.symm G;refine wpAny_setField_rec zz (by simp) λC _ s3=>?_
  obtain⟨kp,o,ho,hc⟩:=ends (e:=e) (t':=0) (λc o U L c3 n x=>s2 _ _ c3 (s1.extBut _ _ U x)) zz he hq C s3;refine(6,wpAny_isInstance (T:= "StopIteration") (b:=true) ⟨o,ho,hc⟩ isSubtype_stop ?_);exact wpAny_pure (hq _ _ kp)
 refine k.item R (k.EH i λo e=>s1.extBut _ _ r e) (k.K4 q1 λo e=>s1.extBut _ _ a1 e) λx g2 tk2 XA Ia s2=>wpAny_pure ?_
 have p2:IsPair g2 TO a b:=s2.extBut _ _ M (s1.extBut _ _ o1 Xy);rw[0,(6,wpAny_seqItems p2 rfl ?_),(6,wpAny_updateSeq_pair p2 λC g s3=>?_)];replace g:IsPair C TO x b:=g;rw[0,wpAny_bind (wpAny_letGo (wpAny_pure ?_)),wpAny_bind (wpAny_bind (wpAny_onRaise ?_))];refine wpAny_bind (m:=Builtin.SmallTypes.nextOf (.ref i2)) ?_;have LW:∀c o,(11,c≠z,c≠TO,c≠i1,(0,s.heap.get? c,o),(0,C.get? c,o)):=λc o U L c3 e=>s3.extBut _ _ L (s2.extBut _ _ c3 (s1.extBut _ _ U e))
 have t3:d k2 C:=q.EH j λo e=>LW _ o H o3.symm I.symm e
 have J:p C:=q.K4 q2 λo e=>LW _ o b1 b2 b3 e
 have S:IsZip C z TI TO .ellipsis:=s3.extBut _ _ o1.symm (s2.extBut _ _ r.symm G)
 rcases Nat.lt_or_ge k2 P with t|TV
 rotate_left
 ·obtain⟨N,hq⟩:=h2 (.inr TV)
  refine q.fin N TV t3 J λg4 e s4 he=>?_
  have zz:IsZip g4 z TI TO .ellipsis:=s4 _ _ H.symm S;refine wpAny_setField_rec zz (by simp) λW _ V=>?_
  obtain⟨kp,o,ho,hc⟩:=ends (e:=e) (t':=0) (λc o U L c3 n x=>s4 _ _ n (LW c o U L c3 x)) zz he hq W V;refine(6,wpAny_isInstance (T:= "StopIteration") (b:=true) ⟨o,ho,hc⟩ isSubtype_stop ?_);exact wpAny_pure (hq _ _ kp)
 refine q.item t t3 J λy g4 tk4 XB Y s4=>wpAny_pure ?_
 have l:IsPair g4 TO x b:=s4.extBut _ _ o3 g;rw[0,(6,wpAny_seqItems l rfl ?_),(6,wpAny_updateSeq_pair l λW h V=>?_)];replace h:IsPair W TO x y:=h;rw[0,wpAny_bind (wpAny_letGo (wpAny_pure (wpAny_pure ?_))),(6,wpAny_seqItems h rfl ?_)];refine wpAny_bind (wpAny_newTuple ?_);have sz:W.objs.size=s.heap.objs.size:=by rw[V.1,s4.1,s3.1,s2.1,s1.1]
 have z5:IsZip W z TI TO .ellipsis:=V.extBut _ _ o1.symm (s4.extBut _ _ H.symm S);have XC:(58,W.get?):=λc o U L c3 n e=>V.extBut _ _ L (s4.extBut _ _ n (LW c o U L c3 e))
 have u1:f (k1+1) W:=k.EH Ia λo e=>V.extBut _ _ M.symm (s4.extBut _ _ I (s3.extBut _ _ M.symm e))
 have u2:d (k2+1) W:=q.EH Y λo e=>V.extBut _ _ o3.symm e
 have TX:z<W.objs.size:=Heap.lt_size z5;refine wpAny_bind (m:=Builtin.SmallTypes.ownedTupleHandOut (.ref z) (.ref W.objs.size)) ?_;unfold Builtin.SmallTypes.ownedTupleHandOut;have z6:IsZip (W.push {cls:=.type "tuple",data:=.seq #[x,y]}) z TI TO .ellipsis:=(22,z5);refine(6,wpAny_setField_rec z6 (by simp) λg7 z7 X=>?_);replace z7:IsZip g7 z TI TO (rawInt W.objs.size):=z7;refine wpAny_setField_rec z7 (by simp) λg8 z8 s8=>?_
 replace z8:IsZip g8 z TI TO (rawInt W.objs.size):=z8;have up:∀c o,c≠z->(0,W.get? c,o)->(0,g8.get? c,o):=λc o U e=>s8.extBut _ _ U (X.extBut _ _ U (22,e))
 have p8:IsPair g8 W.objs.size x y:=s8.extBut _ _ (Nat.ne_of_gt TX) (X.extBut _ _ (Nat.ne_of_gt TX) #[15]);have LP:g8.objs.size=W.objs.size+1:=by rw[s8.1,X.1,Heap.size_push]
 rw[sz]at z8 p8 LP;refine wpAny_pure ⟨_,rfl,wpAny_pure ?_⟩
 show Q (some (.ref W.objs.size)) _
 rw[2,sz,h1 R t x y g8 _ XA XB z8 (up _ _ o1 h) (k.EH u1 λo e=>up _ o r e) (q.EH u2 λo e=>up _ o H e) p8 LP λc o U L c3 n e=>up c o U (XC c o U L c3 n e)]
end
theorem Cp{I l1 l2:Nat}(h1:l1<I)(h2:l2<I):xk (I+4) (I+2) (I+3) I (I+1) l1 l2:=by
 constructor<;>refine⟨?_,?_⟩<;>(try refine⟨?_,?_⟩)<;>(try refine⟨?_,?_⟩)<;>(first|(exact Nat.ne_of_lt #[3])|(exact Nat.ne_of_gt #[3]))
def Iy(K:PySem.W.Frag)(a b:Addr):It:=
  ⟨λi H=>∃xs x ys y,c_ K H a xs/\(0,xs[i]?,x)/\dg K H b ys/\(0,ys[i]?,y),
   λi H x H'=>∃p u v,(3,H p,none,x=.ref p,(∀xs,c_ K H a xs->(0,xs[i]?,u))/\(∀xs,dg K H b xs->(0,xs[i]?,v))/\H'=upd H p (.tup [u,v])),
   λi H=>∃xs ys,c_ K H a xs/\dg K H b ys/\(xs.length<=i\/ys.length<=i)⟩
theorem zZ{ts:#[4]}{k:Nat}{tp:Pos}(z TI TO i1 i2 a b:Addr)(D:xk z TI TO i1 i2 a b):
Turn P w K (.Tuple ts k tp) (Iy K a b) [z,TI,TO,i1,i2] z (λi h=>IsZip h z TI TO .none/\IsPair h TI (.ref i1) (.ref i2)/\(∃u v,IsPair h TO u v)/\h.IsListIter i1 a i/\IsTupIter h i2 b i)where
 mem:=by simp
 obj:=λi h st c hc=>by
  obtain⟨h1,h2,⟨u,v,J⟩,⟨o4,h4,n,d4⟩,⟨g,h5,c5,d5⟩⟩:=st;simp only[List.mem_cons,List.not_mem_nil,or_false]at hc
  rcases hc with q|q|q|q|q<;>subst q
  ·rw[1,_,h1,λv z=>by cases z]
  ·rw[1,_,h2,λv z=>by cases z]
  ·rw[1,_,J,λv z=>by cases z]
  ·rw[1,_,h4,λv z=>by rw[d4]at z;cases z]
  ·rw[1,_,h5,λv z=>by rw[d5]at z;cases z]
 keep:=λi h h' st k=>by
  obtain⟨h1,h2,⟨u,v,J⟩,h4,⟨g,h5,r5⟩⟩:=st;rw[4,k _ (by simp) _ h1,k _ (by simp) _ h2,⟨u,v,k _ (by simp) _ J⟩,h4.at λo q=>k i1 (by simp) o q,⟨g,k i2 (by simp) g h5,r5⟩]
 item:=by
  rw[13];obtain⟨xs,x,ys,y,hq,hx,f,hy⟩:=hg;obtain⟨its,rv,p,hz⟩:=I.list hq;obtain⟨m,JC,p2,T⟩:=I.tuple f;obtain⟨u,hu,ru⟩:=rv.get hx;obtain⟨u2,l,XD⟩:=JC.get hy;obtain⟨h1,h2,⟨oa,ob,J⟩,h4,h5⟩:=st;have R:i<its.toArray.size:=by have:=(33,hu).1;simpa using this
  have t:i<m.toArray.size:=by have:=(33,l).1;simpa using this
  have fr:(2,H s.heap.objs.size):=I.bH.fresh (Nat.le_refl _);refine yT D (vt (xs:=its.toArray)) (yS (xs:=m.toArray)) h1 h2 J h4 h5 p.isList p2 (λ_ _ v1 v2 h' t' O W a1 a2 a3 a4 a5 a6 hk=>⟨_,rfl,?_⟩) (λz=>#[3]);obtain rfl:u=v1:=by
   have O:(0,its[i]?,v1):=by simpa using O
   rw[hu]at O;exact Option.some.inj O
  obtain rfl:u2=v2:=by
   have W:(0,m[i]?,v2):=by simpa using W
   rw[l]at W;exact Option.some.inj W
  have lt:∀{c o},(0,s.heap.get? c,o)->c≠s.heap.objs.size:=λe=>Nat.ne_of_lt (Heap.lt_size e)
  refine wpAny_letOwnedTupleGo_zip a1 λh6 XE d=>?_
  replace d:Heap.SameBut z h' h6:=d;have kk:∀c o,c∉[z,TI,TO,i1,i2]->(0,s.heap.get? c,o)->(0,h6.get? c,o):=λc o hc q=>by
   simp only[List.mem_cons,List.not_mem_nil,or_false,not_or]at hc;exact(d.2 c hc.1).trans (hk c o hc.1 hc.2.2.1 hc.2.2.2.1 hc.2.2.2.2 q)
  have XF:(0,h6.get? s.heap.objs.size,{cls:=.type "tuple",data:=.seq #[u,u2]}):=(d.2 _ (lt h1).symm).trans a5;refine⟨#[14],upd H s.heap.objs.size (.tup [x,y]),?_,rfl,⟨_,x,y,fr,rfl,(λzs hy=>(10,I.lI hy hq,hx)),(λzs hz=>(10,I.mV hz f,hy)),rfl⟩,?_,λc hc=>?_⟩
  ·exact w8 (t':=t') I S kk (15,(8,2)) (.cons ru (.cons XD .nil)) XF
  ·obtain⟨g,e5,r5⟩:=a4
   refine⟨XE,(d.2 _ D.ti.1).trans (hk _ _ D.ti.1 D.ti.2.1 D.ti.2.2.1 D.ti.2.2.2 h2),⟨_,_,(d.2 _ D.to.1).trans a2⟩,a3.at λo q=>(d.2 _ D.it.1).trans q,⟨g,(d.2 _ D.it.2.1).trans e5,r5⟩⟩
  ·have G:c≠s.heap.objs.size:=by
    obtain⟨o4,h4,_⟩:=h4;obtain⟨g,h5,_⟩:=h5;simp only[List.mem_cons,List.not_mem_nil,or_false]at hc
    rcases hc with q|q|q|q|q<;>subst q
    ·exact lt h1
    ·exact lt h2
    ·exact lt J
    ·exact lt h4
    ·exact lt h5
   rw[2,aI G,(S c hc).1]
 done:=by
  rw[13];obtain⟨xs,ys,hq,f,hx⟩:=hg;obtain⟨its,rv,p,hz⟩:=I.list hq;obtain⟨m,JC,p2,T⟩:=I.tuple f;obtain⟨h1,h2,⟨oa,ob,J⟩,h4,h5⟩:=st;have hl:=rv.length;have j:=JC.length;refine yT D (vt (xs:=its.toArray)) (yS (xs:=m.toArray)) h1 h2 J h4 h5 p.isList p2 (λl1 l2=>by simp at l1 l2;omega) (λ_=>⟨I.ok.hd hc,λh' t' F=>⟨rfl,?_⟩⟩);exact kQ (t':=t') I S λc o hc q=>by
   simp only[List.mem_cons,List.not_mem_nil,or_false,not_or]at hc;exact F c o hc.1 hc.2.2.1 hc.2.2.2.1 hc.2.2.2.2 q
 self:=λ_ _ _ _ _ st h=>wpAny_pyIter_zip st.1 h
abbrev zA(g:Heap)(a:Addr):Heap:=g.push {data:=.fields #[.ref a,.int 0 0],cls:=.type "list_iterator"}
abbrev zB(g:Heap)(a b:Addr):Heap:=(zA g a).push {data:=.fields #[.ref b,.int 0 0],cls:=.type "tuple_iterator"}
abbrev zC(g:Heap)(a b:Addr):Heap:=(zB g a b).push {data:=.seq #[.ref g.objs.size,.ref (zA g a).objs.size],cls:=.type "tuple"}
abbrev zD(g:Heap)(a b:Addr):Heap:=(zC g a b).push {data:=.seq #[.none,.none],cls:=.type "tuple"}
abbrev zE(g:Heap)(a b:Addr):Heap:=(zD g a b).push {data:=.fields #[.none,.bool false,.bool false,.ref (zB g a b).objs.size,.ref (zC g a b).objs.size],cls:=.type "zip"}
theorem Cq(l1 l2:Addr)(xs ys:Array Value):Meets (Builtin.«zip.__new__» ⟨[.type "zip",.ref l1,.ref l2],[]⟩) (λ_ R s=>s.heap.IsList l1 xs/\IsTup s.heap l2 ys/\R (.ok (.ret (.ref (zD s.heap l1 l2).objs.size))) {s with heap:=zE s.heap l1 l2}):=
 .of_wp λprog w A R s h=>by
  obtain⟨hp,g,d,tk,os⟩:=s;obtain⟨b,j,h⟩:=h;have f:=PySem.sub_zip;have c:Heap.IsList (Shared.heap ⟨hp,g,d,tk,os⟩) l1 xs:=b;have a:IsTup (Shared.heap ⟨hp.push {cls:=.type "list_iterator",data:=.fields #[.ref l1,.int 0 0]},g,d,tk,os⟩) l2 ys:=by
   obtain⟨o,e,r⟩:=j;rw[1,o,(22,e),r]
  wp_walk using wpAny_pyIter_list c,iter_tuple a
  rw[1,_,rfl,h]
theorem EI{b:Addr}{ys:Array Value}(ha:s.heap.IsList a xs)(hb:IsTup s.heap b ys)
(h:∀h',(11,IsZip h' (s.heap.objs.size+4) (s.heap.objs.size+2) (s.heap.objs.size+3) .none,IsPair h' (s.heap.objs.size+2) #[14] (.ref #[16]),IsPair h' (s.heap.objs.size+3) .none .none,h'.IsListIter s.heap.objs.size a 0,IsTupIter h' #[16] b 0->(∀c o,(0,s.heap.get? c,o)->(0,h'.get? c,o))->Q (.ref (s.heap.objs.size+4)) {s with heap:=h'})):(27,call (.type "zip") [.ref a,.ref b]):=by
 refine callType_new PySem.F.called_zip #[2] (PySem.F.typeCall_zip_2 _ _) (PySem.F.newCall_zip_2 _ _) (λobj=>PySem.F.args_object_init_3 obj _ _) PySem.F.entry_zip_new (Cq a b xs ys) ⟨ha,hb,?_⟩;have n1:(zA s.heap a).objs.size= #[16]:=Heap.size_push ..;have P:(zB s.heap a b).objs.size=s.heap.objs.size+2:=by rw[Heap.size_push,n1]
 have d:(zC s.heap a b).objs.size=s.heap.objs.size+3:=by rw[Heap.size_push,P]
 have f:(zD s.heap a b).objs.size=s.heap.objs.size+4:=by rw[Heap.size_push,d]
 have up1:∀{g:Heap}{o:Obj}{c:Addr}{u:Obj},(0,g.get? c,u)->(0,(g.push o).get? c,u):=λe=>(22,e)
 have W:(0,(zE s.heap a b).get? (zD s.heap a b).objs.size,_):=#[15];have g4:(0,(zE s.heap a b).get? (zC s.heap a b).objs.size,_):=up1 #[15];have C:(0,(zE s.heap a b).get? (zB s.heap a b).objs.size,_):=up1 (up1 #[15]);have g2:(0,(zE s.heap a b).get? (zA s.heap a).objs.size,_):=up1 (up1 (up1 #[15]));have g1:(0,(zE s.heap a b).get? s.heap.objs.size,_):=up1 (up1 (up1 (up1 #[15])))
 show _/\_
 rw[P,d,f]at W;rw[n1,P]at C;rw[d]at g4;rw[n1]at g2;rw[2,f,⟨⟨_,W,rfl⟩,h _ W C g4 ⟨_,g1,rfl,rfl⟩ ⟨_,g2,rfl,rfl⟩ λc o x=>up1 (up1 (up1 (up1 (up1 x))))⟩]
section
variable{X:Cx}{H0:Hp}
def K5(K:PySem.W.Frag)(B:TA):TI:=λσ H R=>B σ H λvs H1=>∃a b,(3,vs,[.ref a,.ref b],∃xs,c_ K H1 a xs,(∃xs,dg K H1 b xs)/\R (Iy K a b) H1)
theorem EJ{ts:#[4]}{k:Nat}{tp:Pos}{a b:Expr}{B:TA}{pos:Pos}(hg:Gl X "zip")(hm:(2,X.mg "zip"))(ha:PA X [a,b] B)(hs:(51,[a,b],a,[b]):=by rfl)(cU:(28,pos,[b]):=by rfl):
PI X (.Tuple ts k tp) (.Call (.Name "zip" p) [a,b] [] pos) (K5 X.K B):=by
 intro Z s σ H R I h;rw[0,wpAny_Call_Name_kw (mU I hg hm (u:=.type "zip") rfl ?_),PyProof.Rows.callWith_type1 (bK (ha pos Z s σ H _ I h) λus s1⟨vs,H1,I1,r1,q1⟩=>?_) hs cU];obtain⟨l,l2,e,⟨xs,hq⟩,⟨ys,f⟩,q⟩:=q1;subst e;obtain⟨u,v,rfl,ru,r2⟩:=vals2 r1;cases ru;cases r2;obtain⟨its,rv,pl,hz⟩:=I1.list hq;obtain⟨m,JC,r,T⟩:=I1.tuple f;have g1:l<s1.heap.objs.size:=by obtain⟨o,e,_⟩:=pl.isList;exact Heap.lt_size e
 have g2:l2<s1.heap.objs.size:=by obtain⟨o,e,_⟩:=r;exact Heap.lt_size e
 rw[0,EI pl.isList r λh' i d n j t hk=>?_,wpAny_pyIter_zip i ?_]
 have g:(20,H1,{s1 with heap:=h'}):=I1.kept (t':=s1.toks) hk;refine⟨s1.heap.objs.size+4,[s1.heap.objs.size+4,s1.heap.objs.size+2,s1.heap.objs.size+3,s1.heap.objs.size,s1.heap.objs.size+1],_,_,H1,rfl,g,zZ _ _ _ _ _ l l2 (Cp g1 g2),⟨i,d,⟨_,_,n⟩,j,t⟩,λc hc=>?_,q⟩;have G:s1.heap.objs.size<=c:=by
  simp only[List.mem_cons,List.not_mem_nil,or_false]at hc
  rcases hc with q|q|q|q|q<;>subst q<;>first|exact Nat.le_refl _|exact Nat.le_add_right _ _
 exact I1.uK G (I1.bH.fresh G)
def Cr(K:PySem.W.Frag)(d:D)(ys:List D):Prop:=d=.tup ys\/ ∃p zs,(3,d,.adr p,vq K p zs,ys=zs.map D.str)
theorem Cr.sq{d:D}{v:V}{ys:List D}(h:Cr K d ys)(r:Rep K G d v):∃a vs,(3,v,.ref a,dg K G a vs,aE K G ys vs):=by
 rcases h with rfl|⟨p,zs,rfl,O,rfl⟩
 ·simp only[Rep]at r
  obtain⟨a,vs,rfl,h2,J⟩:=r;rw[4,a,vs,rfl,dg.of h2,J]
 ·have r:v=.ref p:=r
  rw[4,p,_,r,.inr O,hS zs]
theorem Src.NB{G1:Hp}{b:Addr}{ws n:List V}{xs ys:List D}(h2:c_ K G1 a ws)(J:aE K G1 xs ws)(f:dg K G1 b n)(j:aE K G1 ys n):Src K G1 (Iy K a b) (vd xs ys):=
 ⟨λi d h s e=>by
  obtain⟨x,y,O,W,rfl⟩:=ve e;obtain⟨v,c,r⟩:=J.get O;obtain⟨v2,m,r2⟩:=j.get W;have sq:=h.sub.seq (s.seq h2);have l:=qP h.sub (qP s f);refine⟨⟨ws,v,n,v2,sq,c,l,m⟩,λx H'⟨p,y,g,hp,ex,hy,o,k⟩=>?_⟩;cases(hy ws sq).symm.trans c;cases(o n l).symm.trans m;subst ex k
  exact h.pair hp (Rep.mono s _ _ r) (Rep.mono s _ _ r2),λh s=>⟨ws,n,h.sub.seq (s.seq h2),qP h.sub (qP s f),by rw[<-J.length,<-j.length];exact vf xs ys⟩⟩
def Iz(K:PySem.W.Frag)(tr:RA)(g:RG)(F:RS)(E:bC)(Y:#[0]):Prop:=tr Y λds=>∃xs d ys,(3,ds,[.lst xs,d],Cr K d ys,loop g F E (vd xs ys) Y)
variable{ts:#[4]}{k:Nat}{tp pos c:Pos}{a b:Expr}{tr:RA}{g:RG}{F:RS}{body:List Stmt}
theorem EK(hp:PassesOwn (model X.prog X.w) X.A X.env X.xe)(hc:(4,X.calm))(d:Gl X "zip")(hm:(2,X.mg "zip"))(ha:pb X H0 [a,b] tr)(hg:wq X H0 (.Tuple ts k tp) g)(hb:e3 X H0 body F)(iT:(51,[a,b],a,[b]):=by rfl)
(cU:(28,c,[b]):=by rfl)
(hs:(43,.Call (.Name "zip" p) [a,b] [] c):=by intro _;rfl):i8 X H0 (.For (.Tuple ts k tp) (.Call (.Name "zip" p) [a,b] [] c) body [] pos) (Iz X.K tr g F):=
 (46,mY hp hc (EJ d hm ha iT cU) hg hb hs,go,λvs H1 G1 ds n1 r1 q1=>by
  obtain⟨xs,i,ys,rfl,O,q2⟩:=q1;simp only[aE]at r1;obtain⟨v,r,rfl,e,v2,r2,rfl,h,rfl⟩:=r1;simp only[Rep]at e;obtain⟨l,ws,rfl,h2,J⟩:=e;obtain⟨l2,n,rfl,f,j⟩:=O.sq h
  exact⟨l,l2,rfl,⟨ws,n1.hs.sub.seq h2⟩,⟨n,qP n1.hs.sub f⟩,fC n1.hs (.NB h2 J f j) n1.g go q2⟩)
end
theorem xl{x:Value}{r:#[5]}{Q:(18,#[5])}(N:(2,A.handled))(hl:s.heap.IsList l (x::r).toArray)(hz:r.length<=16384)
(h:∀(D:Addr)(h':Heap)(tk:Nat),D=h'.objs.size->(∀b o,(0,s.heap.get? b,o)->(0,h'.get? b,o))->Q [x,.ref D] {s with heap:=h'.push {cls:=.type "list",data:=.seq r.toArray},toks:=tk}):(27,unpackItems (.ref l) 2 (some 1)):=by
 have ne:l≠s.heap.objs.size:=by obtain⟨o,ho,_⟩:=hl;exact Nat.ne_of_lt (Heap.lt_size ho)
 unfold unpackItems;refine(6,?_);unfold notIterableAtAll;refine(6,wpAny_specialOf hl.typeIs slot_list_iter.lookup (wpAny_pure ?_));simp only[Bool.false_eq_true,if_false];rw[0,wpAny_bind (wpAny_holding (wpAny_pyIter_list hl ?_)),wpAny_bind (wpAny_holding (PySem.W.kun_draw ne 1 0 _ _ ⟨_,#[15],rfl,rfl⟩ (hl.push _) (by simp) λg1 c s1=>?_))];have l1:g1.IsList l (x::r).toArray:=(hl.push _).extBut s1.extBut ne;rw[Nat.zero_add]at c;obtain⟨g,f,_⟩:=id c;obtain⟨i,a,_⟩:=id l1
 show wpAny _ _ (if([x]:#[5]).length<1 then _ else _) _ _ _
 rw[if_neg (show¬(([x]:#[5]).length<1)from Nat.lt_irrefl 1)]
 refine wpAny_bind (wpAny_holding (PySem.W.kun_collect (s:={s with heap:=g1}) (T:= "list_iterator") (.inr (.inr (.inl rfl))) (Walks.list (A:=A.in1) N s.heap.objs.size l ne (x::r).toArray) (λj u st=>st.1.typeIs) (k:=1) (by simp) ⟨c,l1⟩ (Heap.lt_size f) (Heap.lt_size a) (λg2 tk hk=>?_) (by rw[sizeLine_eq];simp;omega)))
 show wpAny _ _ (if r.length<2-1-1 then _ else _) _ _ _
 rw[if_neg #[3]]
 show wpAny _ _ (newList (r.take (r.length-0))>>=λd=>pure ([x]++[d]++r.drop (r.length-0))) _ _ _
 rw[Nat.sub_zero,List.take_length,List.drop_length];have ext:∀b o,(0,s.heap.get? b,o)->(0,g2.get? b,o):=λb o e=>hk b o (Nat.ne_of_lt (Heap.lt_size e)) (s1.extBut b o (Nat.ne_of_lt (Heap.lt_size e)) (22,e))
 refine(6,wpAny_newList (wpAny_pure ?_) (by rw[sizeLine_eq];omega));exact h _ g2 tk rfl ext
section
variable{X:Cx}{H0:Hp}{pos:Pos}{e:Expr}{te:RE}
def IA(K:PySem.W.Frag)(t:AB):TG:=λv σ H Q=>∃a x r,(3,v,.ref a,c_ K H a (x::r),r.length<=16384/\ ∀D,(2,H D)->t [x,.ref D] σ (upd H D (.lst r)) Q)
theorem EL{k:Nat}{t:AB}(hc:(4,X.calm))(h:wA X es t)(hn:(assignEach es X.env).length=2:=by rfl)(iT:(0,(assignEach es X.env).findIdx? (·.1),1):=by rfl):PG X (.Tuple es k pos) (IA X.K t):=by
 intro Z s σ H v u Q I r hw;obtain⟨a,x,xs,O,hq,hl,hw⟩:=hw;subst O;cases r;obtain⟨its,rv,M,hz⟩:=I.list hq
 cases rv with
 | @cons _ g _ us L f=>
 rw[assign_Tuple];refine wpAny_bind (wpAny_standAt ?_);unfold unpack;rw[hn,iT];have el:=f.length;refine wpAny_bind (wpAny_holding (xl (I.ok.hd hc) M.isList #[3] λD h' tk d ext=>?_));subst d
 have I1:(20,H,{s with heap:=h',toks:=tk}):=I.kept (t':=tk) ext;have fr:(2,H h'.objs.size):=I1.bH.fresh (Nat.le_refl _)
 have c:(20,upd H h'.objs.size (.lst xs),{s with heap:=h'.push {cls:=.type "list",data:=.seq us.toArray},toks:=tk}):=
  I1.laid (t':=tk) (λb o e=>(22,e)) (Nat.le_refl _) (show bJ X.prog X.w _ _ _ (.lst xs)from⟨by rw[List.length_cons]at hz;omega,us,0,f,#[15]⟩)
 exact h Z _ σ _ [x,.ref h'.objs.size] _ Q c (.cons L (.cons rfl .nil)) (hw _ fr)
def IB(gs:rP)(d:D)(Y:#[0])(Q:(1,#[0])):Prop:=∃x r,(3,d,.lst (x::r),r.length<=16384,gs [x,.lst r] Y Q)
theorem Cs{k:Nat}{gs:rP}(hc:(4,X.calm))(h:qT X H0 es gs)(hn:(assignEach es X.env).length=2:=by rfl)(iT:(0,(assignEach es X.env).findIdx? (·.1),1):=by rfl):wq X H0 (.Tuple es k pos) (IB gs):=
 PG.weak (EL hc h hn iT) λv σ H Q⟨Y,G,d,Qd,hs,r,h,k⟩=>by
  obtain⟨x,xs,rfl,hl,q⟩:=h;simp only[Rep]at r;obtain⟨a,vs,rfl,h2,J⟩:=r;simp only[aE]at J;obtain⟨v0,b,rfl,hx,hr⟩:=J;refine⟨a,v0,b,rfl,hs.sub.seq h2,(26,hr.length,hl),λD I=>?_⟩;obtain⟨P,s2⟩:=hs.laid (o:=.lst b) I;exact⟨Y,_,[x,.lst xs],Qd,P,aE.cons (Rep.mono s2 _ _ hx) (aE.cons (by simp only[Rep];rw[4,D,b,rfl,c_.of aM,aE.mono s2 _ _ hr]) aE.nil),q,λf H2 l G2 h4 s4 c=>k f H2 l G2 h4 (s2.trans s4) c⟩
theorem vu{g:RG}{gs:rP}(h1:wq X H0 e g)(h2:qT X H0 es gs)(hs:(assignEach (.Starred e p::es) X.env).map (·.2)=assign e X.env::(assignEach es X.env).map (·.2):=by rfl):qT X H0 (.Starred e p::es) (tf g gs):=by
 intro Z s σ H vs us Q I r⟨Y,G,ds,Qd,j,c,h,k⟩
 cases ds with
 |nil=>exact h.elim
 |cons d ds=>
  simp only[aE]at c;obtain⟨v,i,rfl,r1,r2⟩:=c
  cases r with
  |cons n m=>
   rw[hs];refine assignInOrder_cons (bK (h1 Z s σ H v _ (λσ1 H1=>∃a G1,Hs X.K H0 σ1 a G1 H1/\aO G G1/\gs ds a Qd) I n ⟨Y,G,d,_,j,r1,h,λσ1 H1 a G1 h1 s1 q1=>⟨a,G1,h1,s1,q1⟩⟩) λ_ s1⟨σ1,H1,I1,a,G1,N,b,q1⟩=>?_);exact h2 Z s1 σ1 H1 _ _ Q I1 m ⟨a,G1,ds,Qd,N,aE.mono b _ _ r2,q1,λf H2 l G2 h2 s2 q2=>k f H2 l G2 h2 (b.trans s2) q2⟩
theorem kR{n:Int}{t:Tok}(hm:(0,X.mg g,.int n t))(hg:Gl X g:=by rfl)(j:(23,g):=by decide):aS X H0 (.Name g pos) (rC (.int n)):=λZ s σ H Q I⟨Y,G,Qd,hs,M,k⟩=>
 cc I hg hm ⟨.int n,H,I,⟨t,rfl⟩,(52,M)⟩ j
theorem Ct{p:Addr}(hm:(0,X.mg g,.ref p))(hg:Gl X g:=by rfl)(j:(23,g):=by decide):aS X H0 (.Name g pos) (rC (.adr p)):=λZ s σ H Q I⟨Y,G,Qd,hs,M,k⟩=>
 cc I hg hm ⟨.ref p,H,I,rfl,(52,M)⟩ j
structure ni(P:Program)(w:World)(K:PySem.W.Frag)(mg:#[11])(g:Str)(tab:(5,Str,Addr)):Prop where
 tab:Ey P w K mg g tab
 not:∀a,(0,mg g,.ref a)->(a==sysModules)=false
theorem pR:∀(tab:(5,Str,Addr))(x:Str),(valueAt (tab.map λp=>((.inr p.1:Key),Value.ref p.2)) (.inr x)).isSome=(tab.lookup x).isSome
 |[],x=>rfl
 |(y,q)::tab,x=>by
  rw[List.lookup_cons]
  by_cases e:x=y
  ·subst e
   rw[beq_self_eq_true];simp[valueAt]
  ·rw[beq_eq_false_iff_ne.mpr e]
   have:=pR tab x;have ne:¬y=x:=λz=>e z.symm
   simp only[valueAt,List.map_cons,List.find?_cons]at this⊢;rw[2,decide_eq_false (λz=>ne (Sum.inr.inj z)),this]
def IC(neg:Bool)(tab:(5,Str,Addr))(te:RE)(Y:#[0])(Q:(1,D)):Prop:=te Y λd=>∃x:Str,d=.str x/\Q (.bl (neg !=(tab.lookup x).isSome))
def ID(neg:Bool)(tab:(5,Str,Addr))(t:TE):TE:=λσ H Q=>t σ H λy H1=>∃x:Str,y=.str x/\Q (.bl (neg !=(tab.lookup x).isSome)) H1
theorem yU(T:ni P w K mg g tab):∃a,(0,mg g,.ref a)/\(a==sysModules)=false/\ ∀h:Heap,K.In h->h.DictOf (bx P w) a (tab.map λp=>(.inr p.1,.ref p.2)):=by
 obtain⟨⟨a,es,n,hm,hk,l,i,nd⟩,G⟩:=T;refine⟨a,hm,G a hm,λh u=>⟨_,es,n,u _ _ hk,⟨rfl,rfl,rfl⟩,rfl,l,i,?_⟩⟩;rw[List.map_map];unfold List.Nodup at nd⊢;rw[List.pairwise_map]at nd⊢;exact nd.imp λh e=>h (Sum.inr.inj e)
theorem z0{i:Expr}{ty:TE}(T:ni X.prog X.w X.K X.mg g tab)(hi:PE X i ty)(hg:Gl X g:=by rfl)(j:(23,g):=by decide):PC X .NotIn i (.Name g p) (ID true tab ty):=by
 obtain⟨a,hm,G,hd⟩:=yU T;intro Z s σ H Q I h;refine bK (hi Z s σ H _ I h) λb s1⟨y,H1,I1,N,x,ex,q1⟩=>?_
 subst ex;obtain⟨t,rfl⟩:=N;rw[0,cc I1 hg hm ?_ j,wpAny_notIn_of (dC X.prog X.w x t) G (hd _ I1.kM).mapOf ⟨.bl (!(tab.lookup x).isSome),H1,I1.tok _,?_,?_⟩]
 ·rw[<-pR tab x];rfl
 ·have e:(!(tab.lookup x).isSome)=(true !=(tab.lookup x).isSome):=by cases(tab.lookup x).isSome<;>rfl
  rw[2,e,q1]
theorem IE{i:Expr}{ty:TE}(T:ni X.prog X.w X.K X.mg g tab)(hi:PE X i ty)(hg:Gl X g:=by rfl)(j:(23,g):=by decide):PC X .In i (.Name g p) (ID false tab ty):=by
 obtain⟨a,hm,G,hd⟩:=yU T;intro Z s σ H Q I h;refine bK (hi Z s σ H _ I h) λb s1⟨y,H1,I1,N,x,ex,q1⟩=>?_
 subst ex;obtain⟨t,rfl⟩:=N;rw[0,cc I1 hg hm ?_ j,wpAny_in_of (dC X.prog X.w x t) G (hd _ I1.kM).mapOf ⟨.bl ((tab.lookup x).isSome),H1,I1.tok _,?_,?_⟩]
 ·rw[<-pR tab x];rfl
 ·have e:(tab.lookup x).isSome=(false !=(tab.lookup x).isSome):=by cases(tab.lookup x).isSome<;>rfl
  rw[2,e,q1]
theorem vw{neg:Bool}:∀σ H Q,bX X.K H0 (IC neg tab te) σ H Q->ID neg tab (bX X.K H0 te) σ H Q:=(41,k,λv H1 G1 d n1 r1 q1=>by
 obtain⟨x,rfl,q⟩:=q1;have r1:v=.str x:=r1
 rw[1,x,r1,k _ H1 G1 _ n1 (by simp only[Rep]) q])
theorem Cu(T:ni X.prog X.w X.K X.mg g tab)(he:aS X H0 e te)(hg:Gl X g:=by rfl)(j:(23,g):=by decide):qR X H0 (.Compare e [.NotIn] [.Name g p] pos) (lT (IC true tab te)):=
 PT.weak (sO (z0 T he hg j) rfl) (eE vw)
theorem F5(T:ni X.prog X.w X.K X.mg g tab)(he:aS X H0 e te)(hg:Gl X g:=by rfl)(j:(23,g):=by decide):qR X H0 (.Compare e [.In] [.Name g p] pos) (lT (IC false tab te)):=
 PT.weak (sO (IE T he hg j) rfl) (eE vw)
def F6(K:PySem.W.Frag)(ds:List D)(Q:(1,D)):Prop:=∃d ys,(3,ds,[d],d=.lst ys\/Cr K d ys,Q (.int ys.length))
theorem EM:Dr K (λxs H Q=>∃p ys,(3,xs,[.ref p],c_ K H p ys\/dg K H p ys,Q (.int ys.length) H)) (F6 K):=λH0 σ Y G H vs ds Qd Q hs r h k=>by
 obtain⟨d,ys,rfl,hd,q⟩:=h;obtain⟨v,b,rfl,h1,h4⟩:=r;obtain rfl:b=[]:=h4;have fin:∀{p:Addr}{ws:List V},(c_ K H p ws\/dg K H p ws)->ys.length=ws.length->v=.ref p-> ∃p ys,(3,[v],[V.ref p],c_ K H p ys\/dg K H p ys,Q (.int ys.length) H):=λ{p ws}hq hl hv=>by
  subst hv;rw[4,p,ws,rfl,hq,(26,hl,(52,q))]
 rcases hd with rfl|rfl|⟨p,zs,rfl,O,rfl⟩
 ·obtain⟨a,ws,e,h2,J⟩:=h1
  exact fin (.inl h2) J.length e
 ·obtain⟨a,ws,e,h2,J⟩:=h1
  exact fin (.inr (dg.of h2)) J.length e
 ·have h1:v=.ref p:=h1
  exact fin (ws:=zs.map V.str) (.inr (.inr O)) (by simp) h1
theorem IF{tr:RA}(hm:(2,X.mg "len"))(ha:jc X H0 (e::es) tr)(hg:Gl X "len":=by rfl)
(he:#[13]:=by rfl)(cU:(28,pos,es):=by rfl):aS X H0 (.Call (.Name "len" p) (e::es) [] pos) (uT (F6 X.K) tr):=
 oN lN EM hm PySem.boot_len ha hg #[2] #[2] he cU
end
section
variable{X:Cx}{H0:Hp}{a b e o:Expr}{B F te:RE}{tr:RA}{lo hi:Option Expr}{S c:RO}{pos p2 w aU:Pos}
end
def NC(x:Str):It:=⟨λi _=>i<x.length,λi H v H'=>H'=H/\ ∃c,(0,x.cps[i]?,c)/\v=.str ⟨#[c]⟩,λi _=>x.length<=i⟩
theorem Cv{tg:Expr}{x:Str}{t:Tok}(it:Addr):Turn P w K tg (NC x) [it] it (λi h=>h.IsStrIter it "str_ascii_iterator" x t i)where
 mem:=by simp
 obj:=λi h st b hb=>by
  have e:b=it:=by simpa using hb
  subst e;obtain⟨o,e,c,d⟩:=st;rw[1,o,e,λv z=>by rw[d]at z;cases z]
 keep:=λi h h'⟨o,e,r⟩k=>⟨o,k it (by simp) o e,r⟩
 item:=by
  rw[13];have hg:i<x.cps.size:=hg;obtain⟨D,l,R,j,f4,N⟩:=S it (by simp);refine wpAny_pyNext_ascii_item st (Array.getElem?_eq_getElem hg) λh' g sb=>?_
  have I1:(20,H,{s with heap:=h',toks:=s.toks+1}):=I.turned (t':=s.toks+1) (λb o hb e=>(sb.2 b hb).trans e) D l j f4 N;obtain⟨o,e,c,d⟩:=id g
  rw[1,_,rfl,x_ (s:={s with heap:=h',toks:=s.toks+1}) e c d #[2] ⟨.str ⟨#[x.cps[i]]⟩,H,I1,⟨_,rfl⟩,⟨rfl,_,Array.getElem?_eq_getElem hg,rfl⟩,g,λb hb=>(S b hb).1⟩]
 done:=by
  rw[13];have hg:x.cps.size<=i:=hg;obtain⟨D,l,R,j,f4,N⟩:=S it (by simp);exact wpAny_pyNext_ascii_end (I.ok.hd hc) st (Array.getElem?_eq_none hg) λh' F=>⟨rfl,I.turned (t':=s.toks) (λb o hb e=>F b o hb e) D l j f4 N⟩
 self:=λ_ _ _ _ _ st h=>wpAny_pyIter_striter_ascii st h
section
variable{X:Cx}{H0:Hp}{tg iter e o:Expr}{te B:RE}{g:RG}{F:RS}{body:List Stmt}{pos w aU:Pos}
def ND(S:TE):TI:=λσ H R=>S σ H λx H1=>∃z:Str,(3,x,.str z,(4,z.cps.all (· <128)),R (NC z) H1)
theorem IG{l:Expr}{S:TE}(hl:PE X l S):PI X tg l (ND S):=by
 intro Z s σ H R I h;refine(49,hl,x,?_)
 obtain⟨z,rfl,ha,q⟩:=q1;obtain⟨t,rfl⟩:=r1;rw[0,wpAny_pyIter_ascii ha ?_,⟨s1.heap.objs.size,[s1.heap.objs.size],_,_,H1,rfl,I1.kept (t':=s1.toks) λb o e=>(22,e),Cv (t:=t) _,⟨_,#[15],rfl,rfl⟩,λb hb=>?_,q⟩];have e:b=s1.heap.objs.size:=by simpa using hb
 subst e;exact I1.uK (Nat.le_refl _) (I1.bH.fresh (Nat.le_refl _))
def nj(x:Str):List D:=x.cps.toList.map λc=>.str ⟨#[c]⟩
theorem Src.str{G1:Hp}{x:Str}:Src K G1 (NC x) (nj x):=
 ⟨λi d h s e=>by
  have W:(0,(x.cps.toList.map λc=>D.str ⟨#[c]⟩)[i]?,d):=e;rw[List.getElem?_map]at W
  cases f:x.cps.toList[i]? with
  |none=>rw[f]at W;cases W
  |some c=>
   rw[f]at W;cases W;rw[Array.getElem?_toList]at f;refine⟨(Array.getElem?_eq_some_iff.mp f).1,λv H'⟨O,a,A,b⟩=>?_⟩;subst O b;cases f.symm.trans A
   rw[1,_,Nx.refl h,by simp only[Rep]],λh s=>by show x.length<=_;simp[nj,Str.length]⟩
end
section
variable{X:Cx}{H0:Hp}
variable{ts:#[4]}{k:Nat}{tp pos c:Pos}{a b:Expr}{tr:RA}{g:RG}{F:RS}{body:List Stmt}
end
theorem Cw{base:Heap}{x g:Str}{st:Stmt}{f:Addr}{fd:FuncData}{N ps:#[1]}{k:Nat}{sp:dO}(F:(12,x,g,st))(S:aH N ps (az st))(len:∀ds Qd Xd,sp ds Qd Xd->ds.length=ps.length)
(c:∀(j:Value)(A:Around)(outer:List Env)(s:Shared)(H:Hp)(E:XK),bT k (A.deeper (envOfC g (az st) s.heap.objs.size f j))-> ∀ds Qd(Xd:(1,Er)),sp ds Qd Xd->
(∀x C,(0,mg x,.ref C)->Xd (x,[])->LS (gk (dN P w) P w K mg base N g (az st) f j A outer s H E) H C)->(∀x,Xd x->Pass (gk (dN P w) P w K mg base N g (az st) f j A outer s H E) H x)->
∃t,e3 (gk (dN P w) P w K mg base N g (az st) f j A outer s H E) H (c1 st) t/\t {nx:=λ_=>Qd (.val .bu),rt:=λr _=>Qd r} (m7 N ds)):aQ P w K mg base (dN P w) (k+1) f fd ps (bM K mg sp):=by
 obtain⟨oc,m,kV,p,pm,an,j,ct,d,rfl,lk,W⟩:=F.ex;refine Fm lk W S (λvs H Q E h=>?_) (λA outer s H vs Q E hr h=>?_)
 ·obtain⟨ds,Qd,Xd,r,h1,_⟩:=h
  rw[<-r.length];exact len ds Qd Xd h1
 ·obtain⟨ds,Qd,Xd,r,h1,h2,J⟩:=h
  obtain⟨t,M,q⟩:=c j A outer s H E hr ds Qd Xd h1 (λx C hm xd=>Il λa H' sm=>J (x,[]) C a H' xd hm sm λz=>absurd rfl z) λx xd=>Ex λC m H' hm sm py=>J x C m H' xd hm sm py
  refine⟨_,M,m7 N ds,H,_,?_,q,⟨λL H' T G' hs _ q=>h2 _ H' (.val .bu) ⟨hs.base.trans hs.sub,by simp only[Rep]⟩ q,λv H' r' T ok q=>h2 v H' r' ok.ok q,λ_ _ _ _ _ _ z=>z.elim,λ_ _ _ _ _ _ z=>z.elim⟩⟩;have e:=Hs.start r (N.length-ds.length)
  show Hs K H (vs.map some++List.replicate (N.length-vs.length) none) _ H H
  rw[<-r.length];exact e
section
variable{X:Cx}{H0:Hp}{k:Nat}{f y c n xn:Str}{sp:dO}{e:Expr}{tr:RA}{J aU h a pos g:Pos}{b:Stmt}{d:List Stmt}{F:Addr->RS}{i j:Nat}
end
section
variable{X:Cx}{H0:Hp}{k:Nat}{x:Str}{sp:cN}{pos:Pos}
def IH(sp:cN)(Y:#[0])(Q:(1,D)):Prop:=sp [] λr=>∃d,r=.val d/\Q d
theorem EN(F:dM X.prog X.w X.K X.mg X.base k x sp)(hr:bT k X.A)(hg:Gl X x:=by rfl)(j:(23,x):=by decide):aS X H0 (.Call (.Name x p) [] [] pos) (IH sp):=by
 obtain⟨f,fd,ps,F,hm,hk,hb⟩:=F.ex;intro Z s σ H Q I⟨Y,G,Qd,hs,M,kk⟩;rw[0,wpAny_Call_Name_kw (cc I hg hm ?_ j),PySem.W.callWith_K0 I.kM hk (lW (us:=[]) F hr hb hs I .nil aE.nil M λv G1 r u s' a rv A ok q2=>?_)];obtain⟨d,rfl,q⟩:=q2;obtain⟨P,r2⟩:=hs.fI A ok;rw[4,v,_,a,rv,kk v _ _ d P r2 q]
end
end M
namespace PySem
section
variable{prog:Program}{w:World}{A:Around}{E:#[8]}{h:Heap}{g:Array GenState}{d:Drawn}{t:Nat}{os:OsState}
variable{nm q:Str}{C N:Addr}{bs bm a:#[5]}{hdct:Bool}{sn:#[1]}{sub:#[5]}{ab:Bool}{col:Option Bool}{dd:Option Addr}{k0 k1 k2 k3 k5:Option Value}{B c h:String}
end
end PySem
namespace PySem.W
open PySem PySem.Spec PySem.Calls PyProof.Rows Builtin Builtin.ObjectAttr Builtin.Getset_descriptor
def F7:#[5]->Bool
 | .ref _::r=>F7 r
 |l=>l==[.type "ValueError",.type "Exception",.type "BaseException",.type "object"]
structure XoK(K:Frag)(C:Addr):Prop where
 m:(4,(clsIn K C).any (λcd=>F7 cd.mro&&cd.hasDict))
 sa:(0,findIn K (.ref C) "__setattr__",some (.builtin "object.__setattr__"))
 ga:(0,findIn K (.ref C) "__getattribute__",some (.builtin "BaseException.__getattribute__"))
 gt:(0,findIn K (.ref C) "__getattr__",none)
section
variable{prog:Program}{w:World}{A:Around}{E:#[8]}{s:Shared}{K:Frag}{x T C:Addr}{name:Str}{v:Value}{c:Obj}{m:Option Obj}{Q:(18,Unit)}{Y:#[11]}{ns:#[1]}
end
end PySem.W
namespace M
open PySem PySem.Spec PyProof.Rows L2
variable{G H:Hp}{K:PySem.W.Frag}{Kk α:Type}{P prog:Program}{Q:#[8]}{Qd:(7,D,D)}{R:(18,Result)}{X:Cx}{a:Addr}{bm us:#[5]}{ds:List D}{ep i j slot:Nat}{es:Array (Int×Value)}{fd:FuncData}{h:Heap}{ks:List Key}{kvs:(5,Key,D)}{mg:#[11]}{op:CmpOp}{Z:#[9]}{ps:(5,List Int,Addr)}{q:List Int×Addr}{r2 AD EO:D->D->(1,(1,D))}{s:Shared}{vs ws:List V}{w:World}{xs:Array Nat}{y:Str}{Y:#[0]}{σ:L2.St}
theorem Cy{j:(1,Heap)}(x:j h)(o:∃o,(0,h.get? a,o))(st:∀h1 h2:Heap,j h1->(∀o,(0,h1.get? a,o)->(0,h2.get? a,o))->j h2):bJ P w H h a (.ext j):=⟨x,o,st⟩
section
variable{C T:Addr}{fs:(5,Str,V)}{f:Str}{v y:V}{u:Value}{A:Around}{E:#[8]}
end
section
variable{o e value:Expr}{f:Str}{pos R b:Pos}{B tv:TE}
end
structure XG(base:Heap)(C f:Addr):Prop where
 ex:∃B c h a S N nm q bs hdct sn sub ab col dd k0 k1 k2 k3 k5 mN oI,ExcBaseFacts B c h a/\(0,base.get? C,excClassObj nm q C N bs S hdct sn sub ab col dd k0 k1 k2 k3 k5 c)/\base.Ns N mN/\(0,mN "__init__",.ref f)/\
  (0,base.get? f,oI)/\oI.cls=.type "function"/\OwnTail base a S
section
variable{H0:Hp}{C f:Addr}{k:Nat}{ps:#[1]}{sp:Sp}{x:Str}{e:Expr}{es:#[4]}{tr:RA}{te:RE}{p pos:Pos}
variable{c:Str}{C':Addr}{Ty:String}{p2:Pos}{T:(7,Addr,Bool)}
end
section
variable{H0:Hp}{nT:Nat}{g:fX}{e a1:Expr}{pos p p2 c:Pos}
variable{B iter t:Expr}{F:#[4]}{U:Scope}{N':#[1]}{te tel:RE}{tc:RT}{tr:RA}
def II(nT:Nat)(tr:RA)(g:fX)(tc:RT)(tel:RE)(Y:#[0])(Q:(1,D)):Prop:=tr Y λds=>HI ds λj=>D1 j/\iX g tc tel Y (Az 0 j.toNat) (List.replicate nT .un) [] (λT=>Q (.lst T))
end
open PySem PySem.SetTable
theorem pS {xs:Array Nat} {j:Nat} (hs:xs.toList.Pairwise (· < ·)):∀ f lo hi,(11,hi - lo <= f,lo <= hi,hi <= xs.size,∀ i x,i < lo -> (0,xs.toList[i]?,x) -> x < j,(∀ i x,hi <= i -> (0,xs.toList[i]?,x) -> j <= x) ->
 lo <= below.go xs j f lo hi /\ below.go xs j f lo hi <= xs.size /\ (∀ i x,i < below.go xs j f lo hi -> (0,xs.toList[i]?,x) -> x < j) /\ (∀ i x,below.go xs j f lo hi <= i -> (0,xs.toList[i]?,x) -> j <= x))
  | 0,lo,hi,h1,h2,J,h4,h5=>by
    have e:lo = hi:=#[3]
    unfold below.go;subst e;exact ⟨Nat.le_refl _,J,h4,h5⟩
  | f + 1,lo,hi,h1,h2,J,h4,h5=>by
    unfold below.go
    by_cases eH:lo < hi
    · rw [if_pos eH]
      have hm:(lo + hi) / 2 < xs.size:=#[3]
      have s:(lo + hi) / 2 < xs.toList.length:=by simpa using hm
      have l:xs.getD ((lo + hi) / 2) j = xs.toList[(lo + hi) / 2]:=by simp [Array.getD,hm]
      have eo:(0,xs.toList[(lo + hi) / 2]?,xs.toList[(lo + hi) / 2]):=List.getElem?_eq_getElem s;have mono:∀ i k x y,i < k -> (0,xs.toList[i]?,x) -> (0,xs.toList[k]?,y) -> x < y:=λi k x y n O W=>by
        obtain ⟨b1,h⟩:=(33,O);obtain ⟨b2,g⟩:=(33,W);have:=List.pairwise_iff_getElem.mp hs i k b1 b2 n;rw [h,g] at this;exact this
      dsimp only;rw [l]
      by_cases hx:xs.toList[(lo + hi) / 2] < j
      · rw [if_pos hx]
        have k:∀ i x,i < (lo + hi) / 2 + 1 -> (0,xs.toList[i]?,x) -> x < j:=λi x m e=>by
          by_cases q:i = (lo + hi) / 2
          · subst q;rw[6,eo];exact hx
          · exact Nat.lt_trans (mono i _ x _ #[3] e eo) hx
        obtain ⟨a,b,c,d⟩:=pS hs f ((lo + hi) / 2 + 1) hi #[3] #[3] J k h5;exact ⟨#[3],b,c,d⟩
      · rw [if_neg hx]
        have k:∀ i x,(lo + hi) / 2 <= i -> (0,xs.toList[i]?,x) -> j <= x:=λi x m e=>by
          by_cases q:i = (lo + hi) / 2
          · subst q;rw[6,eo];omega
          · have:=mono _ i _ x #[3] eo e;omega
        exact pS hs f lo ((lo + hi) / 2) #[3] #[3] #[3] h4 k
    · rw [if_neg eH]
      have e:lo = hi:=#[3]
      subst e;exact ⟨Nat.le_refl _,J,h4,h5⟩
theorem vy(hs:xs.toList.Pairwise (· < ·)):below xs j<=xs.size/\(∀i x,i<below xs j->(0,xs.toList[i]?,x)->x<j)/\(∀i x,below xs j<=i->(0,xs.toList[i]?,x)->j<=x):=by
 obtain⟨_,b,c,d⟩:=pS (j:=j) hs xs.size 0 xs.size #[3] (Nat.zero_le _) (Nat.le_refl _) (λi x h=>absurd h (Nat.not_lt_zero _)) (λi x h e=>by
  obtain⟨b,_⟩:=(33,e)
  simp at b;omega)
 rw[1,b,c,d]
section
variable{t:SetTable}
theorem z4(hs:t.place.toList.Pairwise (· < ·))(hd:t.dummies= #[])(n:j∉t.place.toList):t.slot j=.empty:=by
 unfold slot
 have h1:¬(4,t.place[below t.place j]?==some j):=λz=>n (by
  have z:=beq_iff_eq.mp z;have J:(0,t.place.toList[below t.place j]?,j):=by simpa using z
  exact List.mem_of_getElem? J)
 have h2:has t.dummies j=false:=by rw[hd];unfold has;simp
 dsimp only;rw[if_neg h1,h2];rfl
end
structure z9(t:SetTable)(es:(5,Int,Value)):Prop where
 dm:t.dummies= #[]
 len:t.place.toList.length=es.length
 Hw:t.place.toList.Pairwise (· < ·)
 m:t.mask=7
 room:es.length<=1
theorem z9.nil{t:SetTable}(ok:z9 t []):t.place= #[]:=by
 have:=ok.len
 simpa using this
theorem z_{t:SetTable}(ok:z9 t [])(hashAt:Nat->Int)(h:Int):(0,probe t hashAt h (t.probeStart h),.empty (t.probeStart h).j none):=by
 unfold probe;rw[ok.m,show 10*turns 7=(10*turns 7-1)+1 from#[2]];unfold probe.go;rw[z4 ok.Hw ok.dm (10,ok.nil,List.not_mem_nil)];rfl
theorem ER{t:SetTable}(ok:z9 t [])(j:Nat):t.put j=({t with place:=#[j]},0):=by
 have hd:has t.dummies j=false:=by rw[ok.dm];unfold has;simp
 have hb:below t.place j=0:=by rw[ok.nil];rfl
 unfold put;dsimp only;rw[hd,hb,ok.nil];rfl
theorem IJ{t:SetTable}(ok:z9 t [])(j:Nat)(e:Int×Value):z9 {t with place:=#[j]} [e]:=⟨ok.dm,rfl,List.pairwise_singleton _ _,ok.m,Nat.le_refl _⟩
theorem z9.fits{t:SetTable}(ok:z9 t es.toList):(4,t.fits es.size):=by
 have h1:t.place.size=es.size:=by have:=ok.len;simpa using this
 have h2:=ok.room;have J:=ok.m;unfold SetTable.fits SetTable.fill;rw[ok.dm,h1];simp at h2⊢;omega
section
variable [DecidableEq Kk]{kd:PySem.KeyKind prog w Kk}{A:Around}{E:#[8]}
def IK(kd:PySem.KeyKind prog w Kk)(p:List Kk×Addr):Int×Value:=(tupleKeyHash kd p.1,.ref p.2)
variable{b:Addr}{o:Obj}{N:Nat}{t:SetTable}{ps:(5,List Kk,Addr)}{k:List Kk}{Q:(18,SetFound)}
theorem z'(ho:(0,s.heap.get? a,o))(hd:o.data=.set es ep t)(ok:z9 t es.toList)(he:es= #[])(q2:Q (.free (t.probeStart (tupleKeyHash kd k)).j false) s)(f:Nat):
(27,setSearchFrom a (.ref b) (tupleKeyHash kd k) true (f+1) none):=by
 subst he;have g:t.gaveWay=false:=by unfold SetTable.gaveWay;rw[ok.m];rfl
 have e:=z_ ok (λi=>((#[]:Array (Int×Value))[i]?.map (·.1)).getD 0) (tupleKeyHash kd k);unfold setSearchFrom;refine(6,wpAny_setState_of ho hd ok.fits ?_);dsimp only;rw[g];simp only[Bool.false_eq_true,if_false]
 split
 ·rename_i met d
  have c:(0,some met,Met.empty (t.probeStart (tupleKeyHash kd k)).j none):=d.symm.trans e;cases c;exact wpAny_pure q2
 ·rename_i d
  exact(d _ e).elim
end
section
variable [DecidableEq Kk]{kd:PySem.KeyKind prog w Kk}{A:Around}{E:#[8]}
def kS(kd:PySem.KeyKind prog w Kk):Prop:=∀(n:Nat)(k:Kk)(v:Value),(4,kd.is k v)->hashByValue n v=pure true
theorem vA(hp:kS kd){ks:List Kk}{vs:#[5]}(h:ItemsAre kd ks vs):∀v∈vs,hashByValue 7 v=pure true:=by
 induction h with
 |nil=>intro v hv;cases hv
 |cons h1 _ ih=>
  intro v hv
  rcases List.mem_cons.mp hv with e|e
  ·rw[2,e,hp 7 _ _ h1]
  ·exact ih v e
theorem IL(hp:kS kd){ks:List Kk}{Q:(18,Bool)}(hk:IsTupleKey kd s.heap ks a)(h:Q true s):(27,hashByValue 8 (.ref a)):=by
 have O:=hk.typeIs;obtain⟨o,items,n,ho,hc,hd,hi⟩:=hk;unfold hashByValue;refine(6,wpAny_specialOf O F.slot_tuple_hash.lookup ?_);dsimp only;refine(6,wpAny_seqItems ho hd (wpAny_bind (show wpAny _ _ (forIn items _ _) _ _ s from ?_)));rw[<-Array.forIn_toList];refine wpAny_forIn_list _ (λrest r s'=>(3,r.1,none,s'=s,∀v∈rest,hashByValue 7 v=pure true)) _ ?_ ?_ _ _ ⟨rfl,rfl,vA hp hi⟩
 ·rintro v rest r s'⟨hr,rfl,W⟩
  rw[W v List.mem_cons_self];refine wpAny_bind (wpAny_pure ?_);simp only[Bool.not_true,Bool.false_eq_true,if_false];exact wpAny_pure ⟨rfl,rfl,λu b=>W u (List.mem_cons_of_mem _ b)⟩
 ·rintro⟨r1,r2⟩s'⟨hr,rfl,_⟩
  simp only at hr;subst hr;exact wpAny_pure h
def Ld(w:World)(t:SetTable):Prop:=(w.params.followText "set-order"=false->(4,t.led))/\(4,t.plain)
def SetT(kd:PySem.KeyKind prog w Kk)(h:Heap)(a:Addr)(ps:(5,List Kk,Addr)):Prop:=∃o es ep t,(0,h.get? a,o)/\o.ExactSet/\(3,o.data,.set es ep t,z9 t es.toList,(3,es.toList,ps.map (IK kd),(ps.map (·.1)).Nodup,Ld w t))
variable{b:Addr}{ps:(5,List Kk,Addr)}{k:List Kk}
theorem yV{o:Obj}{es':Array (Int×Value)}{t t':SetTable}(ho:(0,h.get? a,o))(hd:o.data=.set es ep t):(0,(h.update a (Obj.putSet es' t')).get? a,{o with data:=.set es' (ep+1) t'}):=by
 have:=Heap.get?_update_self (Obj.putSet es' t') ho (by rw[putSet_of es' t' hd];rfl);rw[putSet_of es' t' hd]at this;exact this
theorem IM{Q:(18,Bool)}(hp:kS kd)(C:SetT kd s.heap a [])(hk:IsTupleKey kd s.heap k b)
(h:∀h',Heap.SameBut a s.heap h'->SetT kd h' a [(k,b)]->Q true {s with heap:=h'}):
(27,setAddHashed a (.ref b) (tupleKeyHash kd k)):=by
 obtain⟨o,es,ep,t,ho,f,hd,ok,e,nd,d⟩:=id C;have he:es= #[]:=by simpa using e
 subst he;unfold setAddHashed setAddHashedIn;refine wpAny_holding (wpAny_bind (wpAny_setState_of ho hd ok.fits ?_));dsimp only;rw[show byScan (.ref b) #[]=false from rfl];simp only[Bool.false_eq_true,if_false];refine(6,?_);unfold setSearch;refine z' (kd:=kd) (k:=k) ho hd ok rfl ?_ 99999;dsimp only;refine(6,wpAny_setState_of ho hd ok.fits ?_);dsimp only;rw[ER ok];dsimp only;rw[if_pos d.2];refine(6,IL hp hk ?_)
 have g:=Heap.SameBut.update s.heap a (Obj.putSet #[(tupleKeyHash kd k,.ref b)] {t with place:=#[(t.probeStart (tupleKeyHash kd k)).j]});refine(6,wpAny_storeSet_of ho hd ?_ (by rw[sizeLine_eq];show 1<=_;omega))
 have v:=yV (es':=#[(tupleKeyHash kd k,.ref b)]) (t':={t with place:=#[(t.probeStart (tupleKeyHash kd k)).j]}) ho hd
 have c:({t with place:=#[(t.probeStart (tupleKeyHash kd k)).j]}:SetTable).tooFull=false:=by
  unfold tooFull SetTable.fill;rw[ok.dm,ok.m];rfl
 refine(38,_,(29,!false&&({t with place:=#[(t.probeStart (tupleKeyHash kd k)).j]}:SetTable).tooFull,_,_),_,?_);rw[c];simp only[Bool.not_false,Bool.and_false,Bool.false_eq_true,if_false];exact wpAny_pure (h _ g ⟨_,_,_,_,v,f,rfl,IJ ok _ _,rfl,by simp,d⟩)
end
open PySem PySem.SetTable PySem.Spec
theorem IsTupleKey.to [DecidableEq Kk]{kd:PySem.KeyKind prog w Kk}{h':Heap}{k:List Kk}{b:Addr}(x:IsTupleKey kd h k b)(e:∀o,(0,h.get? b,o)->(0,h'.get? b,o)):IsTupleKey kd h' k b:=
 let⟨o,its,n,ho,r⟩:=x;⟨o,its,n,e _ ho,r⟩
theorem SetT.to [DecidableEq Kk]{kd:PySem.KeyKind prog w Kk}{h':Heap}{ps:(5,List Kk,Addr)}(x:SetT kd h a ps)(e:∀o,(0,h.get? a,o)->(0,h'.get? a,o)):SetT kd h' a ps:=
 let⟨o,es,ep,t,ho,r⟩:=x;⟨o,es,ep,t,e _ ho,r⟩
structure Met{Kk:Type}(xs:(5,List Kk,Addr))(i:Nat)(ps:(5,List Kk,Addr)):Prop where
 len:ps.length<=i
 sub:∀p∈ps,p∈xs
 key:∀(j:Nat)(x:List Kk×Addr),j<i->(0,xs[j]?,x)-> ∃p∈ps,p.1=x.1
theorem Met.one{xs:(5,List Kk,Addr)}{x:List Kk×Addr}(e:(0,xs[0]?,x)):Met xs 1 [x]:=
 ⟨Nat.le_refl _,λp hp=>by rw[List.mem_singleton.mp hp];exact List.mem_of_getElem? e,λj y g c=>by
  obtain rfl:j=0:=#[3]
  rw[e]at c;cases c;rw[1,x,List.mem_singleton.mpr rfl,rfl]⟩
section
variable{A:Around}{I:Addr}{fp f:List Addr}{G:(7,Array GenState,Array GenState)}{n:Nat}{P:(7,Nat,Value)}{St:(18,Nat)} [DecidableEq Kk]{kd:PySem.KeyKind prog w Kk}
theorem Cz(d:kS kd)(W:WalksS prog w A.in1 I fp f G n P St)(S:Addr)(h:S∉fp)(xs:(5,List Kk,Addr))(a:∀i v,P i v-> ∃x,(0,xs[i]?,x)/\v=.ref x.2)(g:∀x∈xs,x.2∉S::f)(hu:A.in1.units<cLine)(hb:n<=1):
∀(k i:Nat)(s:Shared)(ps:(5,List Kk,Addr)),(11,n-i=k,i<=n,St i s,SetT kd s.heap S ps,Met xs i ps->(∀x∈xs,IsTupleKey kd s.heap x.1 x.2)->
(∀s' c,Moved (S::f) G s s'->SetT kd s'.heap S c->Met xs n c->R (.ok (.ret .none)) s')->codeAny (model prog w) A (.builtin "set.update.loop" ⟨[.ref S,.ref I],[]⟩) R s):=by
 have p:S∉f:=λz=>h (W.sub _ z)
 have up:∀b∈f,b∈S::f:=λb hb=>List.mem_cons_of_mem _ hb
 intro k
 induction k with
 |zero=>
  intro i s ps hk hi iT C hm O hR;obtain rfl:i=n:=#[3]
  refine codeAny_builtin PyProof.Rows.F.entry_set_update_loop ?_;rw[Around.under_plainId PyProof.Rows.F.plain_set_update_loop _];rw[0,show wpAny _ A.in1 (pyNext (.ref I)>>=_) _ _ s from(6,W.done s _ _ iT λs' j=>?_),(38,A.in1,ret Value.none,s',wpAny_pure ?_)];exact hR s' ps (j.mono up) (C.to λo e=>j.heap S _ p e) hm
 |succ k ih=>
  intro i s ps hk hi iT C hm O hR;have eH:i<n:=#[3]
  refine codeAny_builtin PyProof.Rows.F.entry_set_update_loop ?_;rw[Around.under_plainId PyProof.Rows.F.plain_set_update_loop _];refine(show wpAny _ A.in1 (pyNext (.ref I)>>=_) _ _ s from(6,W.item i s _ _ eH iT λv s' B q j=>?_));obtain⟨x,ex,rfl⟩:=a i v B;have hx:=List.mem_of_getElem? ex;have l:=C.to (h':=s'.heap) λo e=>j.heap S _ p e
  have m:∀y∈xs,IsTupleKey kd s'.heap y.1 y.2:=λy hy=>IsTupleKey.to (O y hy) λo e=>j.heap _ _ (λz=>g y hy (List.mem_cons_of_mem _ z)) e
  refine(38,A.in1,holding [Value.ref x.2] (setAdd S (.ref x.2))>>=_,s',wpAny_bind (wpAny_holding ?_));unfold setAdd;refine wpAny_holding (wpAny_bind (wpAny_pyHash_tuple hu (m x hx) ?_));obtain rfl:i=0:=#[3]
  obtain rfl:ps=[]:=List.eq_nil_of_length_eq_zero (Nat.le_zero.mp hm.len)
  rw[0,IM d (kd:=kd) (s:={s' with toks:=s'.toks+(x.1.length+1)}) l (m x hx) λh' sb r=>?_,wpAny_pure ⟨plainId_quiet PyProof.Rows.F.plain_set_update_loop _,ih 1 _ [x] #[3] eH (W.frame _ s' _ _ q (Nat.le_add_right _ _) λb hb o e=>?_) r (.one ex) (λy hy=>IsTupleKey.to (m y hy) λo e=>?_) λQ u E D t=>?_⟩]
  ·rw[2,sb.2 b (λz=>h (26,z,hb)),e]
  ·rw[2,sb.2 _ (λz=>g y hy (10,z,List.mem_cons_self ..)),e]
  ·refine hR Q u (Moved.trans W.gtrans ((j.mono up).then_heap (Nat.le_add_right _ _) λb o hb e=>?_) E) D t
   rw[2,sb.2 b (λz=>hb (10,z,List.mem_cons_self ..)),e]
end
abbrev oF(led:Bool):Obj:={cls:=.type "set",dict:=none,data:=.set #[] 0 (.fresh 0 0 led)}
theorem Aa(led:Bool):z9 (.fresh 0 0 led) []:=⟨rfl,rfl,List.Pairwise.nil,rfl,Nat.zero_le _⟩
theorem vB [DecidableEq Kk](kd:PySem.KeyKind prog w Kk){led:Bool}(hl:w.params.followText "set-order"=false->(4,led))(e:(0,h.get? a,oF led)):SetT kd h a []:=
 ⟨_,_,_,_,e,⟨rfl,rfl,rfl⟩,rfl,Aa led,rfl,List.nodup_nil,hl,rfl⟩
section
variable{A:Around}{E:#[8]} [DecidableEq Kk]{kd:PySem.KeyKind prog w Kk}
theorem CA(v:Value)(h:Q #[14] {s with heap:=s.heap.push (oF (!w.params.followText "set-order"))}):
codeAny (model prog w) A (.call (.builtin "set.__new__") ⟨[.type "set",v],[]⟩) (wants Q E) s:=by
 rw[0,codeAny_of_tree (show wpAny _ A.in1 (do checkBuiltinCall "set.__new__" ⟨[.type "set",v],[]⟩;again (.builtin "set.__new__" ⟨[.type "set",v],[]⟩)) _ _ s from ?_),(6,wpAny_of_eq (PySem.F.newCall_set_1 v) (wpAny_pure ⟨plainId_quiet PySem.F.plain_set_new _,codeAny_builtin PySem.F.entry_set_new ?_⟩))];rw[Around.under_plainId PySem.F.plain_set_new _];unfold Builtin.«set.__new__»Builtin.Frozenset.newClass;have zs:=sub_set_self;obtain⟨hp,g,d,tk,os⟩:=s;dsimp only;wp_walk;refine wpAny_askSetting (wpAny_pure ?_);dsimp only;simp only[newObj];exact wpAny_bind (wpAny_alloc (wpAny_pure (wpAny_pure h)))
theorem Ab{l:Addr}{items:Array Value}{xs:(5,List Kk,Addr)}(d:kS kd)(N:(2,A.handled))(hu:A.units+9<cLine)(hl:s.heap.IsList l items)(hi:items.toList=xs.map λx=>.ref x.2)(f:∀x∈xs,IsTupleKey kd s.heap x.1 x.2)(hb:xs.length<=1)
(h:∀(h':Heap)(tk:Nat)(ps:(5,List Kk,Addr)),SetT kd h' s.heap.objs.size ps->Met xs xs.length ps->(∀b o,b<s.heap.objs.size->(0,s.heap.get? b,o)->(0,h'.get? b,o))->Q #[14] {s with heap:=h',toks:=tk}):
(27,PySem.call (.type "set") [.ref l]):=by
 obtain⟨c,rest,zm⟩:=F.called_set.mro;have zd:=F.called_set.made;have zs:=F.called_set.sub;rw[0,wpAny_call (codeAny_of_tree (38,_,callAny (.type "set") _,_,?_)),wpAny_pure ⟨Code.quiet_builtin _ #[10],codeAny_builtin F.entry_type_call ?_⟩];rw[Around.under_plain (weight_type_call_type "set" [.ref l] []) rfl];have k:=F.called_set.notType;have B:=F.called_set.canCreate;have zc:=F.typeCall_set_1 (.ref l)
 repeat any_goals first|assumption|wp_step
 refine codeAny_mono (CA (.ref l) (E:=E) (Q:=λX sA=>∃ld:Bool,(w.params.followText "set-order"=false->(4,ld))/\X= #[14]/\sA={s with heap:=s.heap.push (oF ld)}) ⟨_,λz=>by rw[z];rfl,rfl,rfl⟩) λr sA D=>?_
 cases r with
 |error e=>exact D
 |ok fw=>
  cases fw with
  |ret X=>
   obtain⟨ld,C,rfl,rfl⟩:=D;have M:(0,(s.heap.push (oF ld)).get? s.heap.objs.size,oF ld):=#[15]
   have tS:Shared.TypeIs {s with heap:=s.heap.push (oF ld)} #[14] "set":=⟨_,M,rfl⟩;have zi:=F.called_set.init.lookup;have t:=F.called_set.init.bind #[14]
   repeat any_goals first|assumption|wp_step
   refine codeAny_mono (codeAny_call_builtin (R:=wants (λr sB=>r=.none/\ ∃h' tk,(3,sB,{s with heap:=h',toks:=tk},∃ps,SetT kd h' s.heap.objs.size ps/\Met xs xs.length ps,∀b o,b<s.heap.objs.size->(0,s.heap.get? b,o)->(0,h'.get? b,o))) E) F.called_set.init.plain F.entry_set_init (check_set_init_1 tS ?_)) λr2 sB P=>?_
   ·obtain⟨L,V,k1,nL,k2⟩:=hl
    obtain⟨q,m,G,n⟩:=L;simp only at k1 k2;subst k1;subst k2;have XH:(0,(s.heap.push (oF ld)).get? l,{cls:=.type "list",dict:=m,data:=.seq items nL,slots:=n}):=(22,V);have y1:=F.sub_list_set;have I:=F.sub_list_frozenset;have y3:(Value.type "list"==Value.type "dict")=false:=#[2]
    have li:(s.heap.push (oF ld)).IsList l items:=⟨_,XH,rfl,nL,rfl⟩;unfold Builtin.«set.__init__»noKeywords Builtin.Frozenset.updateFrom;generalize XI:pyIter=pI
    wp_walk
    subst XI;rw[0,wpAny_pyIter_list li ?_,wpAny_bind (wpAny_runValue ?_)];have lS:l<s.heap.objs.size:=Heap.lt_size V;have XJ:(2,A.in1.in1.in1.handled):=by simp[N]
    have XM:l≠(s.heap.push (oF ld)).objs.size:=by
     rw[Heap.size_push];exact Nat.ne_of_lt (Nat.lt_succ_of_lt lS)
    have y:s.heap.objs.size∉[(s.heap.push (oF ld)).objs.size,l]:=by
     rw[Heap.size_push];simp only[List.mem_cons,List.mem_singleton,List.not_mem_nil,or_false,not_or];rw[3,Nat.ne_of_lt (Nat.lt_succ_self _),Nat.ne_of_gt lS]
    have a:∀(i:Nat)(v:Value),(0,items[i]?,v)-> ∃x,(0,xs[i]?,x)/\v=.ref x.2:=λi v hv=>by
     rw[<-Array.getElem?_toList,hi,List.getElem?_map]at hv;obtain⟨x,O,W⟩:=Option.map_eq_some_iff.mp hv;rw[1,x,O,W.symm]
    have XN:items.size=xs.length:=by have:=congrArg List.length hi;simpa using this
    have NF:∀x∈xs,x.2<s.heap.objs.size:=λx hx=>by obtain⟨o,_,_,ho,_⟩:=f x hx;exact Heap.lt_size ho
    refine Cz d (kd:=kd) ((Walks.list XJ _ l XM items).toS) s.heap.objs.size y xs a (λx hx=>?lG) (by show A.units+1+1+1<cLine;omega) #[3] (items.size-0) 0 _ [] #[3] (Nat.zero_le _)
     ⟨⟨_,#[15],rfl,rfl⟩,(li.push _)⟩ ?NG ⟨Nat.le_refl _,λp hp=>absurd hp List.not_mem_nil,λj x g=>absurd g (Nat.not_lt_zero _)⟩ (λx hx=>IsTupleKey.to (f x hx) λo e=>Heap.get?_push_of_some _ (Heap.get?_push_of_some _ e)) ?hR
    case lG=>
     have:=NF x hx;rw[Heap.size_push];simp only[List.mem_cons,List.not_mem_nil,or_false,not_or];rw[3,Nat.ne_of_lt this,Nat.ne_of_lt (Nat.lt_succ_of_lt this)]
    case NG=>
     exact(vB kd C (22,M))
    case hR=>
     intro s' XO H S XQ;obtain⟨h',g',d',TQ,K⟩:=s';have U:g'=s.gens:=H.gens;have u:d'=s.drawn:=H.drawn;have eo:K=s.os:=H.os;subst U;subst u;subst eo
     show wpAny _ _ _ _ _ _
     refine wpAny_pure ?_
     show wpAny _ _ (ret Value.none) _ _ _;refine wpAny_pure ⟨rfl,h',TQ,rfl,⟨XO,S,(26,XN,XQ)⟩,λb o hb e=>?_⟩
     have XR:b≠s.heap.objs.size:=Nat.ne_of_lt hb;have XS:b≠(s.heap.push (oF ld)).objs.size:=by
      rw[Heap.size_push];exact Nat.ne_of_lt (Nat.lt_succ_of_lt hb)
     exact H.heap b o (by simp only[List.mem_cons,List.mem_singleton,List.not_mem_nil,or_false,not_or];rw[3,XR,XS]) (Heap.get?_push_of_some _ (Heap.get?_push_of_some _ e))
   ·cases r2 with
    |error e=>exact P
    |ok XT=>
     cases XT with
     |ret r=>
      obtain⟨rfl,h',tk,rfl,S,XU⟩:=P
      repeat any_goals first|assumption|wp_step
      obtain⟨XW,J,mF⟩:=S;exact h _ _ XW J mF XU
     |_=>exact P.elim
  |_=>exact D.elim
end
theorem pT{α:Type}:∀(l:List α)(i:Nat)(h:i<l.length),(l[i]::l.eraseIdx i).Perm l
 |a::r,0,_=>.refl _
 |a::r,i+1,h=>by
  have ih:=pT r i (by simpa using h);exact(List.Perm.swap _ _ _).trans (ih.cons a)
theorem yW{α:Type}(nx:Nat->Nat):∀(f k:Nat)(a:List α)(C:Array α),a.length=f->(pickOrder.go nx f k a C).toList.Perm (C.toList++a)
 |0,k,a,C,h=>by
  obtain rfl:=List.eq_nil_of_length_eq_zero h;rw[List.append_nil];exact .refl _
 |f+1,k,a,C,h=>by
  have eH:nx k%a.length<a.length:=Nat.mod_lt _ #[3];unfold pickOrder.go;rw[List.getElem?_eq_getElem eH];dsimp only;refine(yW nx f (k+1) _ _ (by rw[List.length_eraseIdx_of_lt eH];omega)).trans ?_;rw[Array.toList_push,List.append_assoc];exact List.Perm.append_left _ (pT a _ eH)
theorem Ac(nx:Nat->Nat)(xs:Array α):(pickOrder nx xs).toList.Perm xs.toList:=by
 have:=yW nx xs.size 0 xs.toList #[] (by simp);unfold pickOrder
 simpa using this
section
variable{A:Around}{E:#[8]} [DecidableEq Kk]{kd:PySem.KeyKind prog w Kk}{ps:(5,List Kk,Addr)}
theorem j4{Q:(18,Bool)}(h:Q (w.params.followText "set-order") s):(27,setsByText):=wpAny_bind (wpAny_askSetting (wpAny_pure h))
end
section
variable{A:Around}{E:#[8]} [DecidableEq Kk]{kd:PySem.KeyKind prog w Kk}{S O:Addr}{ps R:(5,List Kk,Addr)}
structure F8(ps R f:(5,List Kk,Addr)):Prop where
 len:f.length<=ps.length+R.length
 sub:∀p∈f,p∈ps\/p∈R
 l:∀p∈ps,∃r∈f,r.1=p.1
 r:∀p∈R,∃r∈f,r.1=p.1
theorem vC{b:Sem Unit}{Q:(18,Unit)}(C:SetT kd s.heap S [])(B:SetT kd s.heap O R)(ne:S≠O)
(h:∀h' f,Heap.SameBut S s.heap h'->SetT kd h' S f->F8 [] R f->Q () {s with heap:=h'}):(27,setMerge S O b):=by
 obtain⟨I,k,G,j,n,F,q,e,m,D,v⟩:=id B;have u:k.size=R.length:=by have:=congrArg List.length m;simpa using this
 have K:R.length<=1:=by have:=e.room;rw[m,List.length_map]at this;exact this
 unfold setMerge;rw[if_neg (by simpa using ne)];refine(6,wpAny_setState_of n q e.fits ?_);dsimp only
 by_cases r:k.isEmpty=true
 ·rw[if_pos r]
  have hq:R=[]:=by
   have:k.size=0:=by simpa using r
   exact List.eq_nil_of_length_eq_zero #[3]
  subst hq;exact wpAny_pure (h s.heap [] (Heap.SameBut.refl _ _) C ⟨by simp,λp hp=>.inl hp,λp hp=>⟨p,hp,rfl⟩,λp hp=>absurd hp List.not_mem_nil⟩)
 ·rw[if_neg r,u]
  obtain⟨y,M,J,tS,i,o,l,g,H,L,x⟩:=id C;obtain rfl:M= #[]:=by simpa using H
  have t:tS.fill=0:=by unfold SetTable.fill;rw[g.dm,g.nil];rfl
  have a:tS.place.size=0:=by rw[g.nil];rfl
  refine(6,?_);unfold setRoomFor;refine(6,wpAny_setState_of i l g.fits ?_);dsimp only;unfold roomFor;rw[t,a,if_neg (by have:=g.m;omega)];rw[0,wpAny_pure ?_,(6,wpAny_setState_of i l g.fits ?_)];dsimp only;have c:tS.road j=.slotForSlot:=by unfold road;rw[t,g.m,e.m,e.dm];rfl
  rw[c];dsimp only;rw[0,wpAny_storeSet_of i l ?_ (by rw[u,sizeLine_eq];omega),h _ R (Heap.SameBut.update _ _ _) ⟨_,_,_,_,yV i l,o,rfl,⟨e.dm,e.len,e.Hw,e.m,e.room⟩,m,D,λz=>?_,?_⟩ ⟨by simp,λp d=>.inr d,λp d=>absurd d List.not_mem_nil,λp d=>⟨p,d,rfl⟩⟩]
  ·show(4,tS.led&&j.led)
   rw[x.1 z,v.1 z];rfl
  ·show(4,tS.plain&&j.plain)
   rw[x.2,v.2];rfl
end
theorem tO:(0,entryFor table "set.__or__",Builtin.«frozenset.__or__»):=entryFor_alias (id':= "frozenset.__or__") (by kernel_rfl) (by first|rfl|decide+kernel) #[10] (by kernel_rfl)
section
variable{A:Around}{E:#[8]} [DecidableEq Kk]{kd:PySem.KeyKind prog w Kk}{S O:Addr}{ps R:(5,List Kk,Addr)}
theorem SetT.typeIs(h:SetT kd s.heap a ps):s.TypeIs (.ref a) "set":=let⟨o,_,_,_,ho,f,_⟩:=h;⟨o,ho,f.1⟩
theorem CB{Q:(18,Bool)}(h:SetT kd s.heap a ps)(q:Q true s):(27,Builtin.Frozenset.isAnySet (.ref a)):=by
 unfold Builtin.Frozenset.isAnySet;have O:=h.typeIs;have hs:=sub_set_self;refine(6,wpAny_isInstance O hs ?_);exact wpAny_pure q
theorem IP(h:Q #[14] {s with heap:=s.heap.push (oF (!w.params.followText "set-order"))}):(27,newSet (.type "set")):=by
 unfold newSet;refine wpAny_bind (j4 ?_);dsimp only;simp only[newObj];exact wpAny_bind (wpAny_alloc (wpAny_pure h))
theorem ES(h:SetT kd s.heap a ps)(q:Q (.type "set") s):(27,Builtin.Frozenset.baseOf a):=by
 unfold Builtin.Frozenset.baseOf;refine(6,wpAny_isInstance h.typeIs sub_set_self ?_);exact wpAny_pure q
theorem K6(hp:kS kd)(C:SetT kd s.heap S ps)(B:SetT kd s.heap O R)(a:∀p∈ps,IsTupleKey kd s.heap p.1 p.2)(hqs:∀p∈R,IsTupleKey kd s.heap p.1 p.2)(hu:A.units+9<cLine)(hz:ps=[])(ne:S≠O)
(h:∀h' tk f m,(11,∀b o,(0,s.heap.get? b,o)->(0,h'.get? b,o),SetT kd h' s.heap.objs.size f,F8 [] ps m,F8 m R f,Q #[14] {s with heap:=h',toks:=tk})):(27,binaryOp .BitOr (.ref S) (.ref O)):=by
 rw[0,wpAny_binaryOp_same (T:= "set") C.typeIs B.typeIs PySem.F.fills_set_or PySem.F.slot_set_or ?_,wpAny_call_entry PySem.F.slot_set_or C.typeIs tO ?_ (PySem.F.args_set_or_2 _ _)];refine(show wpAny _ _ (Builtin.Frozenset.slot1 "__or__" ⟨[.ref S,.ref O],[]⟩>>=_) _ _ s from(6,?_));have tS:=C.typeIs;have j:=B.typeIs;have zs:=sub_set_self;unfold Builtin.Frozenset.slot1
 repeat any_goals first|assumption|wp_step
 obtain⟨y,M,J,i,g,t,L⟩:=id C;refine wpAny_loadPart g (wpAny_pure ?_);rw[t.1];rw[0,wpAny_of_eq zs (38,_,pure true,_,wpAny_pure ?_),(38,_,Builtin.Frozenset.isAnySet (.ref O),_,CB B ?_)];rw[if_neg #[2]];rw[0,(6,(38,_,pure S,_,wpAny_pure (wpAny_bind ?_))),(38,_,Builtin.Frozenset.copyOf S>>=_,_,(6,?_))];unfold Builtin.Frozenset.copyOf;refine(6,ES C (wpAny_bind (IP ?_)));have k0:∀b o,(0,s.heap.get? b,o)->(0,(s.heap.push (oF (!w.params.followText "set-order"))).get? b,o):=λb o e=>(22,e)
 have lt:∀{b o},(0,s.heap.get? b,o)->b≠s.heap.objs.size:=λ{b o}e=>Nat.ne_of_lt (Heap.lt_size e)
 have r:SetT kd (s.heap.push (oF (!w.params.followText "set-order"))) s.heap.objs.size []:=vB kd (λz=>by rw[z];rfl) #[15];have NG:SetT kd (s.heap.push (oF (!w.params.followText "set-order"))) S ps:=C.to λo e=>k0 _ _ e
 obtain⟨I,_,_,_,n,_⟩:=id B;have tup:∀{p:List Kk×Addr},IsTupleKey kd s.heap p.1 p.2->p.2≠s.heap.objs.size:=λ⟨o,_,_,e,_⟩=>lt e
 refine(6,(38,_,pure s.heap.objs.size,_,wpAny_pure (wpAny_bind ?_)));subst hz
 refine vC (s:={s with heap:=s.heap.push (oF (!w.params.followText "set-order"))}) r NG (lt g).symm λh1 r1 v d u1=>?_
 obtain rfl:r1=[]:=List.eq_nil_of_length_eq_zero (Nat.le_zero.mp u1.len);refine wpAny_pure ?_;have k1:∀b o,(0,s.heap.get? b,o)->(0,h1.get? b,o):=λb o e=>(10,v.2 b (lt e),k0 b o e)
 rw[if_pos (by simpa using λz:O=S=>ne z.symm)];refine(6,(38,_,pure s.heap.objs.size,_,wpAny_pure (wpAny_bind (wpAny_holding ?_))));have l:SetT kd h1 O R:=B.to λo e=>k1 _ _ e
 refine(38,_,Builtin.Frozenset.updateFrom _ s.heap.objs.size (.ref O),_,?_);unfold Builtin.Frozenset.updateFrom
 refine(6,CB (s:={s with heap:=h1}) l ?_);simp only[if_true];refine(6,(38,_,pure O,_,wpAny_pure ?_));unfold Builtin.Frozenset.merge setEpoch;obtain⟨K,k,G,H,x,F,q,c,D⟩:=id l
 rw[0,wpAny_bind (wpAny_bind (wpAny_setState_of (s:={s with heap:=h1}) x q c.fits (wpAny_pure ?_))),vC (s:={s with heap:=h1}) d l (lt n).symm λh2 f u P u2=>?_]
 ·refine wpAny_pure (wpAny_pure ⟨_,rfl,(λz=>by cases z),?_⟩)
  exact h h2 s.toks f [] (λb o e=>(10,u.2 b (lt e),k1 b o e)) P u1 u2
end
theorem xm(hs:xs.toList.Pairwise (· < ·))(e:(0,xs.toList[i]?,j)):below xs (j+1)=i+1:=by
 obtain⟨b,c,d⟩:=vy (j:=j+1) hs;obtain⟨hi,a⟩:=(33,e)
 rcases Nat.lt_trichotomy (below xs (j+1)) (i+1)with z|z|z
 ·have:=d i j #[3] e;omega
 ·exact z
 ·have hb:i+1<xs.toList.length:=by have:xs.toList.length=xs.size:=Array.length_toList;omega
  have h1:=c (i+1) _ z (List.getElem?_eq_getElem hb);have h2:=List.pairwise_iff_getElem.mp hs i (i+1) hi hb #[3];omega
theorem xo(hs:xs.toList.Pairwise (· < ·)):below xs 0=0:=by
 obtain⟨b,c,d⟩:=vy (j:=0) hs
 cases h:below xs 0 with
 |zero=>rfl
 |succ n=>
  rw[h]at b c;have hb:0<xs.toList.length:=by have:xs.toList.length=xs.size:=Array.length_toList;omega
  exact absurd (c 0 _ #[3] (List.getElem?_eq_getElem hb)) (Nat.not_lt_zero _)
theorem c4:Slot "set_iterator" "__next__" "set_iterator.__next__":=
 .of (owner:= "set_iterator") (n:= "__next__") (by rw[typeLookup_type,builtinLookup_eq_fast];kernel_rfl) #[10] #[10] #[10]
  (by first|exact .inl #[10]|exact .inr #[10]) (by rw[isSubtype_type];kernel_rfl)
theorem kA:(0,entryFor table "set_iterator.__next__",Builtin.«set_iterator.__next__»):=entryFor_of_tree (by kernel_rfl)
theorem me(a:Value):argsOk "set_iterator.__next__" ⟨[a],[]⟩:=by unfold argsOk;kernel_rfl
section
variable{A:Around}{E:#[8]} [DecidableEq Kk]{kd:PySem.KeyKind prog w Kk}{ps:(5,List Kk,Addr)}
structure mf(kd:PySem.KeyKind prog w Kk)(h:Heap)(a:Addr)(ps:(5,List Kk,Addr))(es:Array (Int×Value))(ep:Nat)(t:SetTable):Prop where
 ob:∃o,(0,h.get? a,o)/\o.ExactSet/\o.data=.set es ep t
 ok:z9 t es.toList
 es:es.toList=ps.map (IK kd)
 ld:Ld w t
theorem SetT.open(h:SetT kd s.heap a ps):∃es ep t,mf kd s.heap a ps es ep t:=let⟨o,es,ep,t,ho,f,hd,ok,e,_,ld⟩:=h;⟨es,ep,t,⟨o,ho,f,hd⟩,ok,e,ld⟩
def jh(w:World)(a:Addr)(ep:Nat)(es:Array (Int×Value)):Array (Int×Value):=(29,w.params.followText "set-order",pickOrder (w.params.setOrder a ep) es,es)
theorem nq(w:World)(a:Addr)(ep:Nat)(es:Array (Int×Value)):(jh w a ep es).toList.Perm es.toList:=by
 unfold jh;split
 ·exact Ac _ _
 ·exact .refl _
theorem K7{t:SetTable}{Q:(18,Array (Int×Value))}(C:mf kd s.heap a ps es ep t)(h:Q (jh w a ep es) s):(27,setWalk a):=by
 obtain⟨⟨o,ho,f,hd⟩,ok,e,d⟩:=C;unfold setWalk;refine(6,wpAny_setState_of ho hd ok.fits ?_);dsimp only;refine wpAny_bind (j4 ?_);unfold jh at h
 cases hb:w.params.followText "set-order"with
 |true=>
  rw[hb,if_pos rfl]at h;simp only[if_true];exact wpAny_bind (wpAny_askSetting (wpAny_pure h))
 |false=>
  rw[hb,if_neg Bool.false_ne_true]at h;simp only[Bool.false_eq_true,if_false];refine(λ(z:(?R:Prop))=>?use) ?z
  case use=>
   refine(38,_,(29,!t.plain&&decide (es.size>1),_,_),_,?_);rw[d.2];simp only[Bool.not_true,Bool.false_and,Bool.false_eq_true,if_false];exact z
  case z=>
   refine(6,(38,_,(29,!t.led&&decide (es.size>1),_,_),_,?_));rw[d.1 hb];simp only[Bool.not_true,Bool.false_and,Bool.false_eq_true,if_false];exact wpAny_pure (wpAny_pure h)
def JE(w:World)(t:SetTable)(i slot:Nat):Prop:=w.params.followText "set-order"=false->below t.place slot=i
theorem yX{t:SetTable}{Q:(18,Option (Value×Nat))}(C:mf kd s.heap a ps es ep t)(hs:JE w t i slot)
(h1:∀e c,(0,(jh w a ep es)[i]?,e)->JE w t (i+1) c->Q (some (e.2,c)) s)(h2:(2,(jh w a ep es)[i]?)->Q none s):(27,setNext a slot i ep):=by
 obtain⟨⟨o,ho,f,hd⟩,ok,g,d⟩:=id C;unfold setNext;refine(6,wpAny_setState_of ho hd ok.fits ?_);dsimp only;refine wpAny_bind (j4 ?_)
 cases hb:w.params.followText "set-order"with
 |true=>
  simp only[if_true];rw[if_neg (by simp)];refine(6,K7 C (wpAny_pure ?_))
  cases e:(jh w a ep es)[i]? with
  |none=>exact h2 e
  |some x=>exact h1 x slot e λz=>by rw[hb]at z;cases z
 |false=>
  have eo:jh w a ep es=es:=by unfold jh;rw[hb,if_neg Bool.false_ne_true]
  rw[eo]at h1 h2;simp only[Bool.false_eq_true,if_false];refine(λ(z:(?R:Prop))=>?use) ?z
  case use=>
   refine(38,_,(29,!t.plain&&decide (es.size>1),_,_),_,?_);rw[d.2];simp only[Bool.not_true,Bool.false_and,Bool.false_eq_true,if_false];exact z
  case z=>
   refine(6,(38,_,(29,!t.led&& !es.isEmpty,_,_),_,?_));rw[d.1 hb];simp only[Bool.not_true,Bool.false_and,Bool.false_eq_true,if_false];refine wpAny_pure ?_;rw[hs hb];have b:t.place.size=es.size:=by have:=ok.len;simpa using this
   cases e:es[i]? with
   |none=>exact wpAny_pure (h2 e)
   |some x=>
    have hi:i<es.size:=(Array.getElem?_eq_some_iff.mp e).1;have h:(0,t.place[i]?,t.place[i]):=Array.getElem?_eq_getElem #[3];rw[h];exact wpAny_pure (h1 x _ e λ_=>xm ok.Hw (10,Array.getElem?_toList,h))
def om(a slot i n ep:Nat):Obj:={cls:=.type "set_iterator",data:=.fields #[rawInt slot,rawInt i,.ref a,rawInt n,rawInt ep]}
theorem ET{it:Addr}{t:SetTable}{e:Int×Value}{Q:(18,Option Value)}(hi:(0,s.heap.get? it,om a slot i es.size ep))(C:mf kd s.heap a ps es ep t)(hs:JE w t i slot)(hx:(0,(jh w a ep es)[i]?,e))
(h:∀h' c,(0,h'.get? it,om a c (i+1) es.size ep)->JE w t (i+1) c->Heap.SameBut it s.heap h'->Q (some e.2) {s with heap:=h'}):(27,pyNext (.ref it)):=by
 have O:s.TypeIs (.ref it) "set_iterator":=⟨_,hi,rfl⟩;obtain⟨⟨o,ho,f,hd⟩,ok,b,d⟩:=id C;unfold pyNext;refine wpAny_bind (wpAny_attempt (wpAny_callSpecial?_slot (name:=Str.ofString "__next__") O c4 (wpAny_call_entry c4 O kA ?_ (me _))));unfold Builtin.«set_iterator.__next__»;refine(6,(38,_,slotArgs "__next__" 0 _,_,?_));unfold slotArgs
 repeat any_goals first|assumption|wp_step
 rw[hd];dsimp only;have j:(t.place.size !=es.size||decide (t.fill>t.mask))=false:=by
  have:=ok.fits;unfold SetTable.fits at this;simp at this⊢;exact this
 rw[j,if_neg Bool.false_ne_true];rw[0,wpAny_pure (wpAny_pure ?_),(λ(z:(?R:Prop))=>?use) ?z]
 case use=>
  refine(38,_,(29,(es.size:Int) !=(es.size:Int),_,_),_,?_);rw[if_neg (by simp)];refine(38,_,setNext a ((slot:Int)).toNat ((i:Int)).toNat ((ep:Int)).toNat>>=_,_,?_);exact z
 case z=>
  simp only[Int.toNat_natCast];refine(6,yX C hs (λM c g at'=>?_) (λn=>by rw[hx]at n;cases n));rw[hx]at g;cases g;dsimp only;refine(6,wpAny_setField hi rfl (by simp) ?_);have g1:(0,(s.heap.update it (Obj.mapFields (·.setIfInBounds 0 (rawInt c)))).get? it,om a c i es.size ep):=Heap.get?_update_self _ hi rfl
  refine(6,wpAny_setField (s:={s with heap:=s.heap.update it (Obj.mapFields (·.setIfInBounds 0 (rawInt c)))}) g1 rfl (by simp) ?_);have g2:(0,((s.heap.update it (Obj.mapFields (·.setIfInBounds 0 (rawInt c)))).update it (Obj.mapFields (·.setIfInBounds 1 (rawInt ((i:Int)+1))))).get? it,om a c (i+1) es.size ep):=Heap.get?_update_self _ g1 rfl;exact wpAny_pure ⟨_,rfl,wpAny_pure (h _ c g2 at' ((Heap.SameBut.update _ _ _).trans (Heap.SameBut.update _ _ _)))⟩
theorem IQ{it:Addr}{t:SetTable}{Q:(18,Option Value)}(N:(2,A.handled))(hi:(0,s.heap.get? it,om a slot i es.size ep))(C:mf kd s.heap a ps es ep t)(hs:JE w t i slot)(hx:(2,(jh w a ep es)[i]?))
(h:∀h',(∀b o,b≠it->(0,s.heap.get? b,o)->(0,h'.get? b,o))->Q none {s with heap:=h'}):(27,pyNext (.ref it)):=by
 have O:s.TypeIs (.ref it) "set_iterator":=⟨_,hi,rfl⟩;obtain⟨⟨o,ho,f,hd⟩,ok,k,d⟩:=id C;unfold pyNext;refine wpAny_bind (wpAny_attempt (wpAny_callSpecial?_slot (name:=Str.ofString "__next__") O c4 (wpAny_call_entry c4 O kA ?_ (me _))));unfold Builtin.«set_iterator.__next__»;refine(6,(38,_,slotArgs "__next__" 0 _,_,?_));unfold slotArgs
 repeat any_goals first|assumption|wp_step
 rw[hd];dsimp only;have j:(t.place.size !=es.size||decide (t.fill>t.mask))=false:=by
  have:=ok.fits;unfold SetTable.fits at this;simp at this⊢;exact this
 rw[j,if_neg Bool.false_ne_true];rw[0,wpAny_pure (wpAny_pure ?_),(λ(z:(?R:Prop))=>?use) ?z]
 case use=>
  refine(38,_,(29,(es.size:Int) !=(es.size:Int),_,_),_,?_);rw[if_neg (by simp)];refine(38,_,setNext a ((slot:Int)).toNat ((i:Int)).toNat ((ep:Int)).toNat>>=_,_,?_);exact z
 case z=>
  simp only[Int.toNat_natCast];refine(6,yX C hs (λM c g at'=>by rw[hx]at g;cases g) (λn=>?_));dsimp only;rw[0,(6,wpAny_setField hi rfl (by simp) ?_),(6,?_)];simp only[newExc,newTuple];rw[0,(6,wpAny_newObj_type ?_ (by size_fits)),wpAny_bind (m:=firstArgMember _ _) (wpAny_of_eq (a:=Value.none) (by first|rfl|(simp only[firstArgMember];rfl)) ?_)];refine wpAny_newObj_type ?_ (by size_fits);simp only[raiseNew];refine wpAny_bind (wpAny_handled ?_);rw[show(2,A.in1.handled)from N];rw[0,wpAny_bind (wpAny_pure (wpAny_throw ?_)),(6,wpAny_isInstance (T:= "StopIteration") (b:=true) ⟨_,#[15],rfl⟩ isSubtype_stop ?_)];simp only[if_true];refine wpAny_pure (h _ λb o hb e=>?_);exact Heap.get?_push_of_some _ (Heap.get?_push_of_some _ ((Heap.get?_update_ne _ _ _ _ hb).trans e))
end
open PySem PySem.SetTable PySem.Spec PyProof.Rows
theorem pU:(0,entryFor table "set.__iter__",Builtin.«frozenset.__iter__»):=entryFor_alias (id':= "frozenset.__iter__") (by kernel_rfl) (by first|rfl|decide+kernel) #[10] (by kernel_rfl)
theorem mh:Slot "set_iterator" "__iter__" "set_iterator.__iter__":=
 .of (owner:= "set_iterator") (n:= "__iter__") (by rw[typeLookup_type,builtinLookup_eq_fast];kernel_rfl) #[10] #[10] #[10]
  (by first|exact .inl #[10]|exact .inr #[10]) (by rw[isSubtype_type];kernel_rfl)
theorem qW:(0,entryFor table "set_iterator.__iter__",Builtin.«dict_keyiterator.__iter__»):=entryFor_alias (id':= "dict_keyiterator.__iter__") (by kernel_rfl) (by first|rfl|decide+kernel) #[10] (by kernel_rfl)
theorem tP(a:Value):argsOk "set_iterator.__iter__" ⟨[a],[]⟩:=by unfold argsOk;kernel_rfl
theorem xp:typeLookup (.type "set") "__len__"=pure (some (.builtin "set.__len__")):=by rw[typeLookup_type,builtinLookup_eq_fast];kernel_rfl
section
variable{A:Around}{E:#[8]} [DecidableEq Kk]{kd:PySem.KeyKind prog w Kk}{ps:(5,List Kk,Addr)}{t:SetTable}
theorem mf.typeIs(h:mf kd s.heap a ps es ep t):s.TypeIs (.ref a) "set":=let⟨o,ho,f,_⟩:=h.ob;⟨o,ho,f.1⟩
theorem mf.to{h':Heap}(x:mf kd h a ps es ep t)(e:∀o,(0,h.get? a,o)->(0,h'.get? a,o)):mf kd h' a ps es ep t:=⟨let⟨o,ho,r⟩:=x.ob;⟨o,e _ ho,r⟩,x.ok,x.es,x.ld⟩
theorem CC{Q:(18,Bool)}(O:s.TypeIs (.ref a) "set")(h:Q false s):(27,Builtin.List.listLengthHint (.ref a)):=by
 unfold Builtin.List.listLengthHint;refine(6,wpAny_specialOf O xp ?_);generalize lV:("set.__len__":String)=c
 wp_delta
 rw[show(0,splitId c,("set", "__len__"))from by subst lV;decide+kernel];subst lV;rw[0,(6,wpAny_isInstance (T:= "set") (b:=true) O (by rw[isSubtype_type];kernel_rfl) ?_),wpAny_ite_split (λo=>absurd o #[2]) (λ_=>?_)];rw[0,wpAny_ite_split (λ_=>?_) (λo=>absurd #[10] o),(6,wpAny_typeOf O ?_)];exact wpAny_pure h
theorem K8{t:SetTable}(ok:z9 t es.toList):(t.place.size !=es.size||decide (t.fill>t.mask))=false:=by
 have:=ok.fits;unfold SetTable.fits at this;simp at this⊢;exact this
theorem CD{Q:(18,Bool)}(C:mf kd s.heap a ps es ep t)(h:Q false s):(27,setDrawn a):=by
 obtain⟨⟨o,ho,f,hd⟩,ok,e,d⟩:=C;unfold setDrawn;rw[0,(6,wpAny_setState_of ho hd ok.fits (wpAny_bind (j4 ?_))),(38,_,pure (!w.params.followText "set-order"&&(!t.plain&&decide (es.size>1))),_,?_)];rw[d.2];simp only[Bool.not_true,Bool.false_and,Bool.and_false];exact wpAny_pure h
theorem CF(C:mf kd s.heap a ps es ep t)(h:Q #[14] {s with heap:=s.heap.push (om a 0 0 es.size ep)}):(27,pyIter (.ref a)):=by
 have O:=C.typeIs;obtain⟨⟨o,ho,f,hd⟩,ok,e,d⟩:=id C;refine wpAny_pyIter_slot O PySem.F.slot_set_iter (wpAny_call_entry PySem.F.slot_set_iter O pU ?_ (PySem.F.args_set_iter_1 _));unfold Builtin.«frozenset.__iter__»;refine(6,(38,_,Builtin.Frozenset.slot0 "__iter__" _,_,?_));unfold Builtin.Frozenset.slot0 slotArgs
 repeat any_goals first|assumption|wp_step
 rw[hd];dsimp only;rw[K8 ok,if_neg Bool.false_ne_true];refine wpAny_pure (wpAny_pure (wpAny_pure (wpAny_bind (CD C ?_))));simp only[Bool.false_eq_true,if_false];refine wpAny_bind (wpAny_pure ?_);unfold setEpoch;refine wpAny_bind (wpAny_bind (wpAny_setState_of ho hd ok.fits (wpAny_pure ?_)));unfold newFields;rw[0,(6,wpAny_newObj_type ?_ (by size_fits)),wpAny_pure ⟨_,rfl, "set_iterator",_,⟨_,#[15],rfl⟩,c4.lookup,?_⟩];exact h
theorem EU{it:Addr}{n:Nat}(hi:(0,s.heap.get? it,om a slot i n ep))(h:Q (.ref it) s):(27,pyIter (.ref it)):=by
 have O:s.TypeIs (.ref it) "set_iterator":=⟨_,hi,rfl⟩;rw[0,wpAny_pyIter_slot O mh (wpAny_call_entry mh O qW ?_ (tP _)),show wpAny _ _ (ret (.ref it)) _ _ s from ?_];exact wpAny_pure ⟨_,rfl, "set_iterator",_,O,c4.lookup,h⟩
theorem Ad(N:(2,A.handled))(I:Addr)(lG:a≠I):Walks prog w A I [I,a] [I] es.size (λi v=>∃e,(0,(jh w a ep es)[i]?,e)/\e.2=v) (λi h=>(∃slot,(0,h.get? I,om a slot i es.size ep)/\JE w t i slot)/\mf kd h a ps es ep t)where
 sub:=λb hb=>by simp at hb;simp[hb]
 frame:=λ_ _ _ st hk=>⟨let⟨sl,e,r⟩:=st.1;⟨sl,hk I (by simp) _ e,r⟩,st.2.to λo e=>hk a (by simp) o e⟩
 item:=λi s Q E hi st B=>by
  obtain⟨⟨slot,e,at'⟩,C⟩:=st;have hl:(jh w a ep es).size=es.size:=by have:=(nq w a ep es).length_eq;simpa using this
  have hx:(0,(jh w a ep es)[i]?,(jh w a ep es)[i]):=Array.getElem?_eq_getElem #[3];refine ET e C at' hx λh' c M at2 sb=>?_
  exact B _ h' s.toks ⟨_,hx,rfl⟩ ⟨⟨c,M,at2⟩,C.to λo z=>(10,sb.2 a lG,z)⟩ λb o hb z=>(10,sb.2 b (λy=>hb (by simp[y])),z)
 done:=λs Q E st B=>by
  obtain⟨⟨slot,e,at'⟩,C⟩:=st;have hl:(jh w a ep es).size=es.size:=by have:=(nq w a ep es).length_eq;simpa using this
  exact IQ N e C at' (Array.getElem?_eq_none #[3]) λh' kp=>B h' s.toks λb o hb z=>kp b o (λy=>hb (by simp[y])) z
 self:=λ_ _ _ _ st B=>let⟨_,e,_⟩:=st.1;EU e B
theorem EV:PySem.W.KdlSrc prog w "set" a a es.size (λi v=>∃e,(0,(jh w a ep es)[i]?,e)/\e.2=v) (λh=>mf kd h a ps es ep t)where
 type:=λ_ h=>h.typeIs
 there:=λ_ h=>let⟨o,ho,_⟩:=h.ob;⟨Heap.lt_size ho,Heap.lt_size ho⟩
 keep:=λ_ _ h hk=>h.to λo e=>hk a (.inl rfl) o e
 notList:=by decide
 notTuple:=by decide
 hint:=λ_ _ _ _ h q=>CC h.typeIs q
 iter:=λ_ s N h=>⟨_,_,λ_ _ q=>CF h q,Ad N _ (let⟨o,ho,_⟩:=h.ob;Nat.ne_of_lt (Heap.lt_size ho)),⟨⟨0,Heap.get?_push_size _ rfl,λ_=>xo h.ok.Hw⟩,h.to λo e=>Heap.get?_push_of_some _ e⟩⟩
theorem vD (C:SetT kd s.heap a ps) (hn:ps.length < 255):∃ c:List (List Kk × Addr),c.Perm ps /\ ∀ {A:Around} {E:#[8]} {Q:(18,#[5])},(2,A.handled) ->
 (∀ h' tk,(∀ b o,(0,s.heap.get? b,o) -> (0,h'.get? b,o)) -> Q (c.map λp=>.ref p.2) { s with heap:=h',toks:=tk }) -> (27,collect (.ref a)):=by
  obtain ⟨es,ep,t,B⟩:=C.open;obtain ⟨o,ho,f,hd⟩:=B.ob;have eH:a < s.heap.objs.size:=Heap.lt_size ho;have hsz:es.size = ps.length:=by have:=congrArg List.length B.es;simpa using this
  obtain ⟨c,pm,k⟩:=hL (IK kd) (nq w a ep es) ps B.es;refine ⟨c,pm,λ{A E Q} N h=>?_⟩;unfold collect;rw[0,wpAny_bind (wpAny_runValue (codeAny_builtin entry_proto_collect' ?_)),show wpAny _ _ (do again (.builtin "list.__iadd__" ⟨[<- newList [],.ref a],[]⟩)) _ _ s from wpAny_bind (wpAny_newList (wpAny_pure ⟨Code.quiet_builtin _ #[10],codeAny_builtin entry_list_iadd' ?_⟩))]
  rw[0,(38,_,Builtin.List.listExtendWith #[14] (.ref a) #[14],{ s with heap:=s.heap.push (21,#[],0) },?_),PySem.W.kdl_extend (A:=A) (R:=λr s'=>match r with
      | .ok (.ret v)=>wpAny (model prog w) A (match v with
            | Value.ref a=>do
              let o <- load a
              match o.data with
                | .seq xs _=>pure xs.toList
                | _=>unsupported "internal:collect"
            | _=>unsupported "internal:collect") Q E s'
      | .ok _=>False
      | .error e=>E e s') (s:={ s with heap:=s.heap.push (21,#[],0) }) (T := "set") (r:=a) (d:=a) (n:=es.size) (EV (kd:=kd) (ps:=ps) (ep:=ep) (t:=t)) N (B.to λo e=>(22,e)) s.heap.objs.size (Nat.ne_of_gt eH) (Nat.ne_of_gt eH) #[14] 0 #[15] (λh' tk q F hk l m=>?_) (by rw [sizeLine_eq];omega)]
  refine (6,wpAny_load l ?_);have e:q.toList = c.map λp=>.ref p.2:=by
    have l1:q.size = es.size:=m.1;refine List.ext_getElem? λj=>?_
    rw [List.getElem?_map];have hz:c.length = ps.length:=pm.length_eq
    by_cases g:j < q.size
    · have u:(0,q.toList[j]?,q[j]):=by rw [Array.getElem?_toList,Array.getElem?_eq_getElem g]
      obtain ⟨x,O,W⟩:=m.2 j q[j] (Array.getElem?_eq_getElem g);rw [<- Array.getElem?_toList,k,List.getElem?_map] at O;obtain ⟨p,i,rfl⟩:=Option.map_eq_some_iff.mp O;rw [u,i,<- W];rfl
    · rw [List.getElem?_eq_none (by simp;omega),List.getElem?_eq_none #[3]];rfl
  refine wpAny_pure ?_;rw[2,e,h h' tk λb o z=>hk b o (Nat.ne_of_lt (Heap.lt_size z)) (22,z)]
end
theorem sg(prog:Program)(w:World):kS (intKind prog w):=λn k v h=>by
 obtain⟨t,rfl⟩:∃t,v=.int k t:=by
  cases v with
  |int i t=>
   have:i=k:=by simpa[intKind,Value.isInt]using h
   subst this;rw[3,t,rfl]
  |_=>simp[intKind,Value.isInt]at h
 cases n<;>rfl
def vE(H:Hp)(R:(5,List Int,Addr)):Prop:=∀q∈R,H q.2=some (.tup (q.1.map V.int))
abbrev gO(P:Program)(w:World)(a:Addr)(ps:(5,List Int,Addr)):HO:=.ext λh=>SetT (intKind P w) h a ps
section
theorem tQ(I:#[6])(h:(0,H q.2,.tup (q.1.map V.int))):IsTupleKey (intKind X.prog X.w) s.heap q.1 q.2:=by
 obtain⟨_,its,r,o,ho,hc,n,hd⟩:=(show bJ X.prog X.w H s.heap q.2 (.tup (q.1.map V.int))from I.bH _ _ h);refine⟨o,its.toArray,n,ho,hc,hd,?_⟩
 show ItemsAre _ q.1 its
 clear hd ho h
 generalize q.1=ks at r
 induction ks generalizing its with
 |nil=>cases r;exact .nil
 |cons k ks ih=>
  cases r with
  |cons r1 r2=>
   obtain⟨t,rfl⟩:=(show∃t,_=Value.int k t from r1);exact .cons (by simp[intKind,Value.isInt]) (ih _ r2)
def K9(P:Program)(w:World)(K:PySem.W.Frag)(xs:List V)(H:Hp)(Q:VK):Prop:=∃(l:Addr)(vs:List V)(R:List (List Int×Addr)),(3,xs,[.ref l],c_ K H l vs,(3,vs,R.map (λq=>V.ref q.2),vE H R,R.length<=1/\
 ∀p ps,(2,H p)->Met R R.length ps->(ps.map (·.1)).Nodup->Q (.ref p) (upd H p (gO P w p ps))))
theorem sh(hc:(4,X.calm))(hu:X.A.units+9<cLine):eZ X (.type "set") (K9 X.prog X.w X.K):=by
 intro Z s σ H xs us Q I r h;obtain⟨l,vs,R,rfl,hl,rfl,M,hz,q⟩:=h
 cases r with
 |cons r1 r=>
  cases r;cases(show _=Value.ref l from r1);obtain⟨its,rv,pl,T⟩:=I.list hl;have hi:its.toArray.toList=R.map λx=>.ref x.2:=by
   show its=_
   clear pl hl M hz q T
   induction R generalizing its with
   |nil=>cases rv;rfl
   |cons x R ih=>cases rv with|cons a b=>cases(show _=Value.ref x.2 from a);rw[List.map_cons,ih _ b]
  refine Ab (kd:=intKind X.prog X.w) (sg _ _) (I.ok.hd hc) hu pl.isList hi (λx hx=>tQ I (M x hx)) #[3] λh' tk ps st mt kp=>?_
  have hn:(2,H s.heap.objs.size):=I.bH.fresh (Nat.le_refl _);refine⟨#[14],_,I.laid (t':=tk) (λb o e=>kp b o (Heap.lt_size e) e) (Nat.le_refl _) ?_,rfl,q _ ps hn mt (let⟨_,_,_,_,_,_,_,_,_,nd,_⟩:=st;nd)⟩;exact Cy st (let⟨o,_,_,_,e,_⟩:=st;⟨o,e⟩) λh1 h2 x k=>x.to k
def K_(P:Program)(w:World)(x y:V)(H:Hp)(Q:VK):Prop:=∃S O ps R,(3,x,.ref S,y=.ref O,S≠O/\(0,H S,gO P w S ps)/\(0,H O,gO P w O R)/\vE H ps/\vE H R/\ps=[]/\
 ∀p f m,(11,(2,H p),F8 [] ps m,F8 m R f,(f.map (·.1)).Nodup,Q (.ref p) (upd H p (gO P w p f))))
theorem EW(hu:X.A.units+9<cLine):f5 X (binaryOp .BitOr) (K_ X.prog X.w):=by
 intro Z s σ H x y v u Q I L N h;obtain⟨S,O,ps,R,rfl,rfl,ne,C,B,tp,a,hz,q⟩:=h;cases L;cases N;obtain⟨b,_,_⟩:=I.bH S _ C;obtain⟨c,_,_⟩:=I.bH O _ B;refine K6 (kd:=intKind X.prog X.w) (sg _ _) b c (λp hp=>tQ I (tp p hp)) (λp hp=>tQ I (a p hp)) hu hz ne λh' tk f m kp st u1 u2=>?_
 have hn:(2,H s.heap.objs.size):=I.bH.fresh (Nat.le_refl _);refine⟨#[14],_,I.laid (t':=tk) kp (Nat.le_refl _) ?_,rfl,q _ f m hn u1 u2 (let⟨_,_,_,_,_,_,_,_,_,nd,_⟩:=st;nd)⟩;exact Cy st (let⟨o,_,_,_,e,_⟩:=st;⟨o,e⟩) λh1 h2 x k=>x.to k
def tD(k:List Int):D:=.tup (k.map D.int)
theorem IS(h:(0,H q.2,.tup (q.1.map V.int))):Rep K H (tD q.1) (.ref q.2):=by
 unfold tD;simp only[Rep];rw[4,q.2,_,rfl,h,aE.ints q.1]
theorem yY{K:PySem.W.Frag}{H:Hp}:∀{R:(5,List Int,Addr)},vE H R->aE K H (R.map λq=>tD q.1) (R.map λq=>V.ref q.2)
 |[],_=>aE.nil
 |q::R,h=>aE.cons (IS (h q (List.mem_cons_self ..))) (yY λp hp=>h p (List.mem_cons_of_mem _ hp))
theorem sj:∀R:(5,List Int,Addr),Vals (R.map λq=>V.ref q.2) (R.map λq=>Value.ref q.2)
 |[]=>.nil
 |q::R=>.cons rfl (sj R)
end
theorem nr{K:PySem.W.Frag}{G:Hp}:∀{ks:List (List Int)}{vs:List V},aE K G (ks.map tD) vs-> ∃R:List (List Int×Addr),(3,vs,R.map (λq=>V.ref q.2),vE G R,R.map (·.1)=ks)
 |[],vs,h=>⟨[],by simpa only[List.map_nil,aE]using h,λq hq=>(by cases hq),rfl⟩
 |k::ks,vs,h=>by
  simp only[List.map_cons,aE]at h;obtain⟨v,r,rfl,h1,h2⟩:=h;unfold tD at h1;simp only[Rep]at h1;obtain⟨a,ws,rfl,e,hr⟩:=h1;rw[aE.lQ hr]at e;obtain⟨R,rfl,t,W⟩:=nr h2
  exact⟨(k,a)::R,rfl,λq hq=>by
   rcases List.mem_cons.mp hq with z|z
   ·rw[2,z,e]
   ·exact t q z,by rw[List.map_cons,W]⟩
theorem Met.keys{xs:(5,List Int,Addr)}(m:Met xs xs.length ps)(k:List Int):k∈ps.map (·.1)↔k∈xs.map (·.1):=by
 constructor
 ·intro h
  obtain⟨p,hp,rfl⟩:=List.mem_map.mp h;exact List.mem_map.mpr ⟨p,m.sub p hp,rfl⟩
 ·intro h
  obtain⟨x,hx,rfl⟩:=List.mem_map.mp h;obtain⟨i,hi,e⟩:=List.mem_iff_getElem.mp hx;obtain⟨p,hp,a⟩:=m.key i x hi (by rw[List.getElem?_eq_getElem hi,e]);exact List.mem_map.mpr ⟨p,hp,a⟩
theorem F8.keys{R m f:(5,List Int,Addr)}(u1:F8 [] ps m)(u2:F8 m R f)(k:List Int):k∈f.map (·.1)↔k∈ps.map (·.1)\/k∈R.map (·.1):=by
 constructor
 ·intro h
  obtain⟨p,hp,rfl⟩:=List.mem_map.mp h
  rcases u2.sub p hp with z|z
  ·rcases u1.sub p z with y|y
   ·cases y
   ·exact .inl (List.mem_map.mpr ⟨p,y,rfl⟩)
  ·exact .inr (List.mem_map.mpr ⟨p,z,rfl⟩)
 ·rintro(h|h)
  ·obtain⟨p,hp,rfl⟩:=List.mem_map.mp h
   obtain⟨r1,a,O⟩:=u1.r p hp;obtain⟨r2,g,W⟩:=u2.l r1 a;exact List.mem_map.mpr ⟨r2,g,W.trans O⟩
  ·obtain⟨p,hp,rfl⟩:=List.mem_map.mp h
   obtain⟨r2,g,W⟩:=u2.r p hp;exact List.mem_map.mpr ⟨r2,g,W⟩
section
variable{H0:Hp}{e a b:Expr}{te B F:RE}{p p2 g pos c h r:Pos}
end
section
variable{A:Around}{E:#[8]}{d it:Addr}{es:Array DictEntry}
end
section
variable{H0:Hp}{e:Expr}{es:#[4]}{tr:RA}{pos p:Pos}
end
def vF(ks:List Key):Bool:=ks.all (λk=>k.isRight)&&decide ks.Nodup
theorem j6(h:(4,vF ks)):∀k∈ks,k.isRight=true:=by
 unfold vF at h;rw[Bool.and_eq_true,List.all_eq_true]at h;exact h.1
theorem CG(h:(4,vF ks)):ks.Nodup:=by
 unfold vF at h;rw[Bool.and_eq_true]at h;exact of_decide_eq_true h.2
theorem CH{k:Key}(h:(4,vF (k::ks))):(4,vF ks):=by
 unfold vF;rw[Bool.and_eq_true,List.all_eq_true];rw[3,λx hx=>j6 h x (.tail _ hx),decide_eq_true (List.nodup_cons.mp (CG h)).2]
theorem mi{k:Key}{f:Str}(h:(4,k.isRight)):zx k=f↔k=.inr f:=by
 cases k with
 |inl i=>cases h
 |inr x=>rw[3,λz=>by rw[show x=f from z],λz=>by cases z;rfl]
theorem fN:∀(aZ:(5,Key,V))(f:Str),(∀k∈aZ.map (·.1),k.isRight=true)->(aZ.map ko).lookup f=e1 aZ (.inr f)
 |[],f,_=>rfl
 |(k,v)::r,f,h=>by
  have hk:=h k (.head _);rw[List.map_cons,show ko (k,v)=(zx k,v)from rfl,List.lookup_cons]
  by_cases z:k=.inr f
  ·rw[gK z,show(4,f==zx k)from beq_iff_eq.mpr ((mi hk).mpr z).symm]
  ·rw[gL z,show(f==zx k)=false from beq_eq_false_iff_ne.mpr λy=>z ((mi hk).mp y.symm)]
   exact fN r f λi a=>h i (.tail _ a)
theorem yZ:∀(aZ:(5,Key,V))(f:Str)(v:V),(4,vF (aZ.map (·.1)))->(putK aZ (.inr f) v).map ko=hA f v (aZ.map ko)
 |[],f,v,_=>rfl
 |(k,x)::r,f,v,h=>by
  have hk:=j6 h k (.head _);have ih:=yZ r f v (CH h);have hn:=(List.nodup_cons.mp (CG h)).1;rw[List.map_cons,show ko (k,x)=(zx k,x)from rfl];unfold hA;unfold putK at ih⊢
  by_cases z:k=.inr f
  ·rw[if_pos ((mi hk).mpr z),if_pos (by simp[z]),List.map_cons,List.map_cons]
   rw[if_pos z]
   congr 1
   rw[List.map_map];refine List.map_congr_left λq hq=>?_
   have: ¬q.1=Sum.inr f:=λy=>hn (by rw[z,<-y];exact List.mem_map.mpr ⟨q,hq,rfl⟩)
   rw[Function.comp_apply,if_neg this]
  ·rw[if_neg (λy=>z ((mi hk).mp y))]
   have e:((k,x)::r).any (λg=>decide (g.1=Sum.inr f))=r.any λg=>decide (g.1=Sum.inr f):=by simp[z]
   rw[e]
   by_cases y:(r.any λg=>decide (g.1=Sum.inr f))=true
   ·rw[if_pos y]at ih⊢
    rw[<-ih,List.map_cons,if_neg z,List.map_cons];rfl
   ·rw[if_neg y]at ih⊢
    rw[<-ih];rfl
section
variable{H0:Hp}{C:Addr}{o value:Expr}{f:Str}{t tv:RE}{pos R:Pos}
def NH(C:Addr)(f:Str)(t:RE)(Y:#[0])(Q:(1,D)):Prop:=t Y λd=>∃kvs x,(3,d,.obj C kvs,(4,vF (kvs.map (·.1))),(0,cH kvs (.inr f),x)/\Q x)
theorem bL(c:qI X.K C)(n:bS X.K C f)(h:dJ X H0 o t)(hb:attributeBase o f X.env (eval o X.env)=eval o X.env:=by rfl):aS X H0 (.Attribute o f pos) (NH C f t):=
 PE.weak (GX h hb) (41,k,λv H1 G1 d n1 r1⟨kvs,x,b,ok,hv,q⟩=>by
  subst b;obtain⟨a,T,aZ,rfl,h1,h2⟩:=r1;obtain⟨u,O,r2⟩:=h2.qU hv
  exact⟨a,C,T,_,u,rfl,h1,c,n,(10,fN aZ f (by rw[<-h2.keys];exact j6 ok),O),k _ H1 G1 x n1 r2 q⟩)
def F9(i:Nat)(C:Addr)(f:Str)(tv:RE)(E:bC)(Y:#[0]):Prop:=match Y[i]? with
 |some (.ow (.obj C' kvs))=>tv Y λd=>(3,C',C,(4,vF (kvs.map (·.1))),kvs.length<900/\E.nx (Y.set i (.ow (.obj C (putD kvs (.inr f) d)))))
 |some (.lk p (.obj C' kvs))=>tv Y λd=>(3,C',C,(4,vF (kvs.map (·.1))),kvs.length<900/\E.nx (Y.set i (.lk p (.obj C (putD kvs (.inr f) d)))))
 |_=>False
theorem dY{x:Str}{p:Pos}(i:Nat)(c:qI X.K C)(n:bS X.K C f)(hv:aS X H0 value tv)(hN:(0,X.N[i]?,x):=by rfl)(g:qL X.env.scope x:=by first|exact Or.inl rfl|exact Or.inr (Or.inl rfl)|exact Or.inr (Or.inr rfl))(hd:(23,x):=by decide)
(W:#[21]:=by decide)(hs:swapsWith value (some (.Attribute (.Name x p) f R)) pos.line X.env=pure false:=by rfl):
i8 X H0 (.Assign [.Attribute (.Name x p) f R] value pos) (F9 i C f tv):=
 PS.weak (GY (eD hN g hd W) hv hs) λk σ H⟨Y,G,E,hs,M,go⟩=>by
  have own:∀{G1:Hp}{kvs:(5,Key,D)}{aZ:(5,Key,V)}{d:D}{v:V},(4,vF (kvs.map (·.1)))->bc X.K G1 kvs aZ->Rep X.K G1 d v->bc X.K G1 (putD kvs (.inr f) d) (putK aZ (.inr f) v)/\hA f v (aZ.map ko)=(putK aZ (.inr f) v).map ko:=λok h2 r=>⟨h2.put r,(yZ _ _ _ (26,h2.keys,ok)).symm⟩
  unfold F9 at M
  split at M
  ·rename_i C' kvs e0
   refine⟨Y,G,_,hs,M,λv H1 G1 d n1 r1⟨e,ok,hl,q⟩=>?_⟩;subst e;obtain⟨a,O,T,aZ,h1,h2⟩:=n1.hs.ow i _ e0;obtain⟨b,B⟩:=own ok h2 r1;refine⟨_,O,a,C',T,_,rfl,h1,c,n,by rw[List.length_map,<-h2.length];omega,?_⟩;rw[2,B,go.nx _ _ _ G1 (n1.hs.write (d':=.obj C' (putD kvs (.inr f) d)) e0 O ⟨T,_,aM,b⟩) n1.g q]
  ·rename_i w C' kvs e0
   refine⟨Y,G,_,hs,M,λv H1 G1 d n1 r1⟨e,ok,hl,q⟩=>?_⟩;subst e;obtain⟨O,T,aZ,h1,h2⟩:=n1.hs.lk i _ _ e0;obtain⟨b,B⟩:=own ok h2 r1;refine⟨_,O,w,C',T,_,rfl,h1,c,n,by rw[List.length_map,<-h2.length];omega,?_⟩;rw[2,B,go.nx _ _ _ G1 (n1.hs.Bi (d':=.obj C' (putD kvs (.inr f) d)) e0 O ⟨T,_,aM,b⟩) n1.g q]
  ·exact M.elim
end
structure eI(P:Program)(w:World)(K:PySem.W.Frag)(mg:#[11])(base:Heap)(k:Nat)(C:Addr)(m:Str)(sp:cN):Prop where
 ex:(56,aQ P w K mg base cy k f fd ps (aV K sp),qI K C,Meth K C m f)
structure fY(P:Program)(w:World)(K:PySem.W.Frag)(mg:#[11])(base:Heap)(k:Nat)(C:Addr)(m:Str)(sp:dO):Prop where
 ex:(56,aQ P w K mg base (dN P w) k f fd ps (bM K mg sp),qI K C,Meth K C m f)
def isObj(C:Addr)(m:Str)(d:D)(Q:Prop):Prop:=match d with
 | .obj C' kvs=>C'=C/\(3,vF (kvs.map (·.1)),true,(2,cH kvs (.inr m)),Q)
 |_=>False
theorem pV{C:Addr}{m:Str}{d:D}{Q:Prop}(h:isObj C m d Q):∃kvs,(3,d,.obj C kvs,(4,vF (kvs.map (·.1))),(2,cH kvs (.inr m))/\Q):=by
 unfold isObj at h
 split at h
 ·obtain⟨rfl,h1,h2,J⟩:=h;rw[4,_,rfl,h1,h2,J]
 ·exact h.elim
section
variable{H0:Hp}{k:Nat}{C:Addr}{m:Str}{sp:cN}{o e:Expr}{es:#[4]}{t:RE}{tr:RA}{w pos:Pos}{pl:Sem Bool}
theorem pW{v:V}(r:Rep X.K G (.obj C kvs) v)(sb:aO G H)(ok:(4,vF (kvs.map (·.1))))(hv:(2,cH kvs (.inr m))):∃a T fs,(3,v,.ref a,(0,H a,.ins C T fs),(2,fs.lookup m)):=by
 simp only[Rep]at r;obtain⟨a,T,aZ,rfl,h1,h2⟩:=r;exact⟨a,T,_,rfl,sb _ _ h1,by rw[fN aZ m (by rw[<-h2.keys];exact j6 ok)];exact h2.valN hv⟩
def IT(C:Addr)(m:Str)(sp:cN)(t:RE)(Y:#[0])(Q:(1,D)):Prop:=t Y λd=>isObj C m d (sp [d] (zF Q))
theorem cv(F:eI X.prog X.w X.K X.mg X.base k C m sp)(hr:bT k X.A)(ho:aS X H0 o t)
(b:eval (31,o,m,[],pos) X.env=(do
let p<-eval o X.env
standAt w.atName
let(f,first)<-holding [p] (getMethod p m pl)
callWith pos f first (backTo pos (starEach [] X.env)) (backToKw pos (keywordEach [] X.env))):=by rfl):b' X H0 (31,o,m,[],pos) (IT C m sp t):=by
 obtain⟨f,fd,ps,F,c,hm,hb⟩:=F.ex;intro Z s σ H Q I⟨Y,G,Qd,hs,M,kk⟩;have D:bX X.K H0 t σ H (λv H'=>∃G' d,Nx X.K H0 σ Y G H G' H'/\Rep X.K G' d v/\isObj C m d (sp [d] (zF Qd))):=⟨Y,G,_,hs,M,λv H' G' d n r q=>⟨G',d,n,r,q⟩⟩;refine PySem.W.methodCall_KW (pl:=pl) (bK (ho Z s σ H _ I D) λu s1⟨v,H1,I1,rv,G',d,n,r,q⟩=>?_) b;obtain⟨kvs,rfl,ok,hv,q⟩:=pV q;obtain⟨a,T,fs,rfl,ea,l⟩:=pW r n.hs.sub ok hv;obtain rfl:u=Value.ref a:=rv;refine fH I1 ea c hm l (PySem.W.callWith_K0 (first:=[.ref a]) I1.kM hm.kp (lW (us:=[.ref a]) (vs:=[.ref a]) F hr hb n.hs I1 (.cons rfl .nil) (aE.cons r aE.nil) q λv G1 r u s' e rv A ok q2=>?_))
 cases r with
 |val d=>exact q2.elim
 |two x y=>exact q2.elim
 |fo x y=>exact q2.elim
 |new d=>
  obtain⟨G2,P,g,h⟩:=n.hs.fJ A ok;rw[4,v,_,e,rv,kk v _ _ d P (n.g.trans g) (n.h.trans h) q2]
def IU(C:Addr)(m:Str)(sp:cN)(t:RE)(Y:#[0])(Q:(1,D)):Prop:=t Y λd=>isObj C m d (sp [d] λr=>∃x,r=.val x/\Q x)
theorem EX(F:eI X.prog X.w X.K X.mg X.base k C m sp)(hr:bT k X.A)(ho:aS X H0 o t)
(b:eval (31,o,m,[],pos) X.env=(do
let p<-eval o X.env
standAt w.atName
let(f,first)<-holding [p] (getMethod p m pl)
callWith pos f first (backTo pos (starEach [] X.env)) (backToKw pos (keywordEach [] X.env))):=by rfl):aS X H0 (31,o,m,[],pos) (IU C m sp t):=by
 obtain⟨f,fd,ps,F,c,hm,hb⟩:=F.ex;intro Z s σ H Q I⟨Y,G,Qd,hs,M,kk⟩;have D:bX X.K H0 t σ H (λv H'=>∃G' d,Nx X.K H0 σ Y G H G' H'/\Rep X.K G' d v/\isObj C m d (sp [d] λr=>∃x,r=.val x/\Qd x)):=⟨Y,G,_,hs,M,λv H' G' d n r q=>⟨G',d,n,r,q⟩⟩;refine PySem.W.methodCall_KW (pl:=pl) (bK (ho Z s σ H _ I D) λu s1⟨v,H1,I1,rv,G',d,n,r,q⟩=>?_) b;obtain⟨kvs,rfl,ok,hv,q⟩:=pV q;obtain⟨a,T,fs,rfl,ea,l⟩:=pW r n.hs.sub ok hv;obtain rfl:u=Value.ref a:=rv;refine fH I1 ea c hm l (PySem.W.callWith_K0 (first:=[.ref a]) I1.kM hm.kp (lW (us:=[.ref a]) (vs:=[.ref a]) F hr hb n.hs I1 (.cons rfl .nil) (aE.cons r aE.nil) q λv G1 r u s' e rv A ok q2=>?_));obtain⟨x,rfl,q2⟩:=q2;obtain⟨P,r2⟩:=n.hs.fI A ok;rw[4,v,_,e,rv,kk v _ _ x (n.trans P) r2 q2]
end
abbrev qJ:=List D->D->(7,(7,D,D),(1,Er))
def tR(K:PySem.W.Frag)(G H:Hp)(p:Addr)(d:D):Prop:=(3,G p,none,∀b,b≠p->G b=H b,Own K G H p d)
inductive liftM(K:PySem.W.Frag)(mg:#[11])(sp:qJ)(vs:List V)(H:Hp)(Q:VK)(E:XK):Prop
 |mk(p:_)(ws:_)(G:_)(d:_)(ds:_)(Qd:_)(Xd:_):(11,vs=.ref p::ws,tR K G H p d,aE K G ds ws,sp ds d Qd Xd,((∀v H' G' x d',(11,aO G G',tR K G' H' p d',Rep K G' x v,Qd x d',Q v H')))->(∀(x:Er)C m H' G',(11,Xd x,(0,mg x.1,.ref C),aO G G',tR K G' H' p d,Ip H' m x.2->E (.ref C) m H'))->liftM K mg sp vs H Q E)
def startM(N:#[1])(ds:List D)(p:Addr)(d:D):#[0]:=.lk p d::(ds.map Sl.fr++List.replicate (N.length-(ds.length+1)) .un)
section
variable{H0:Hp}
theorem Hs.lock(h:#[12]){p:Addr}{d:D}(e:(0,Y[i]?,.ow d))(O:(0,σ[i]?,some (.ref p))):Hs K H0 σ (Y.set i (.lk p d)) G H:=by
 have hi:i<Y.length:=(33,e).1;have at':∀j b,At σ (Y.set i (.lk p d)) j b↔At σ Y j b:=λj b=>by
  by_cases g:j=i
  ·subst g
   rw[3,λ⟨_,_,_,z⟩=>⟨_,e,True.intro,z⟩,λ⟨_,_,_,z⟩=>⟨_,List.getElem?_set_self hi,True.intro,z⟩]
  ·exact cE g
 have ne:∀{j l},(0,(Y.set i (.lk p d))[j]?,l)->(j=i/\l=.lk p d)\/(0,Y[j]?,l):=λ{j l}q=>by
  by_cases g:j=i
  ·rw[10];exact .inl ⟨rfl,rfl⟩
  ·rw[(34,g)]at q;exact .inr q
 refine⟨(10,List.length_set,h.len),h.base,λb=>?_,λj d' q=>?_,λj d' q=>?_,λj q' d' q=>?_,λj k b a1 a2=>h.ne j k b ((at' j b).mp a1) ((at' k b).mp a2)⟩
 ·rw[15]
  ·exact .inl ⟨c,λj a=>B j ((at' j b).mp a)⟩
  ·exact .inr ⟨c,j,(at' j b).mpr B⟩
 ·rcases ne q with⟨_,z⟩|z
  ·cases z
  ·exact h.fr j d' z
 ·rcases ne q with⟨_,z⟩|z
  ·cases z
  ·exact h.ow j d' z
 ·rcases ne q with⟨rfl,z⟩|z
  ·cases z
   obtain⟨w,W,o⟩:=h.ow j d e;rw[O]at W;cases W;rw[3,O,o]
  ·exact h.lk j q' d' z
theorem Ae{p:Addr}{d:D}(h:aE K G ds ws)(n:Nat)(l:tR K G H p d):
Hs K G (some (.ref p)::(ws.map some++List.replicate n none)) (.lk p d::(ds.map Sl.fr++List.replicate n .un)) G H:=by
 obtain⟨gp,m,o⟩:=l;obtain⟨ob,eo,_⟩:=o.soft;have j:H=upd G p ob:=by
  funext b
  by_cases hb:b=p
  ·rw[hb,aM];exact eo
  ·rw[2,aI hb,(m b hb).symm]
 have h1:=(Hs.start h n).fresh (o:=ob) (d:=d) gp (26,j,o);rw[<-j]at h1;exact h1.lock (i:=0) rfl rfl
theorem Hs.CI{p:Addr}{d:D}(h:#[12])(e:(0,Y[j]?,.lk p d)):∃G',aO G G'/\aO H0 G'/\tR K G' H p d:=
 let⟨G',a,b,c,f,o⟩:=h.close e;⟨G',a,b,c,f,o⟩
end
section
variable{base:Heap}{x g:Str}{st:Stmt}{f:Addr}{N ps:#[1]}{k:Nat}{sp:qJ}
theorem j7(F:(12,x,g,st))(S:aH N ps (az st))(len:∀ds d Qd Xd,sp ds d Qd Xd->ds.length+1=ps.length)
(c:∀(j:Value)(A:Around)(outer:List Env)(s:Shared)(H G:Hp)(E:XK)(p:Addr),bT k (A.deeper (envOfC g (az st) s.heap.objs.size f j))-> ∀ds d Qd Xd,sp ds d Qd Xd->
∃t,e3 (gk cy P w K mg base N g (az st) f j A outer s H E).Fc G (c1 st) t/\
t {nx:=λY=>∃d',(0,Y[0]?,.lk p d')/\Qd .bu d',rt:=λr Y=>∃x d',(3,r,.val x,(0,Y[0]?,.lk p d'),Qd x d')} (startM N ds p d)):aQ P w K mg base cy (k+1) f fd ps (liftM K mg sp):=by
 refine F.ok S (λvs H Q E h=>?_) (λj A outer s H vs Q E hr h=>?_)
 ·obtain⟨p,ws,G,d,ds,Qd,Xd,rfl,_,r,h1,_⟩:=h
  rw[List.length_cons,<-r.length];exact len ds d Qd Xd h1
 ·obtain⟨p,ws,G,d,ds,Qd,Xd,rfl,l,r,h1,h2,_⟩:=h
  obtain⟨t,M,q⟩:=c j A outer s H G E p hr ds d Qd Xd h1;refine⟨_,M,startM N ds p d,G,_,?_,q,⟨λL H' T G' hs _⟨d',e,q⟩=>?_,λv H' r' T ok⟨x,d',b,e,q⟩=>?_,λ_ _ _ _ _ _ z=>z.elim,λ_ _ _ _ _ _ z=>z.elim⟩⟩
  ·have e:=Ae r (N.length-(ds.length+1)) l
   show Hs K G ((V.ref p::ws).map some++List.replicate (N.length-(V.ref p::ws).length) none) _ G H
   rw[List.length_cons,<-r.length];exact e
  ·obtain⟨G2,s1,i,l2⟩:=hs.CI e
   exact h2 _ H' G2 .bu d' i l2 (by simp only[Rep]) q
  ·subst b
   obtain⟨L,G',hs,a⟩:=ok;obtain⟨G2,s1,i,l2⟩:=hs.CI e;exact h2 v H' G2 x d' i l2 (Rep.mono s1 _ _ a) q
end
def NI(X:Cx)(H0:Hp)(Z:#[9])(σ σ1:L2.St)(Y:#[0])(G:Hp)(x:Er)(ea:Addr)(s':Shared):Prop:=∃(C t:Addr)(B:Heap)(G2 H2:Hp),(0,X.mg x.1,.ref C)/\Heap.FlyingW B X.stack ea (.ref C) (.ref t) s'.heap/\(X.ex=[]->(2,X.ey.heap.get? ea))/\(∃m,xh s'.heap ea m/\Ip H2 m x.2)/\
 ∀h6,B.StaysIn h6->s'.heap.UpToSlots h6->Inv X Z σ H2 {s' with heap:=h6}/\Nz X.K H0 σ1 Y G G2 H2/\(2,H2 ea)
section
variable{H0:Hp}{σ1:L2.St}{Gf:Hp}{l:Sl}{E:Addr}{d:D}
def kT(Gf:Hp)(E:Addr):Hp:=λb=>if b=E then none else fB Gf b
theorem j8{b:Addr}(h:b≠E):kT Gf E b=fB Gf b:=if_neg h
theorem sk{Gl G2:Hp}{d':D}{l':Sl}(hs:Hs X.K H0 σ1 Y G H)(el:(0,Y[i]?,l))(hm:l.fq)(O:(0,σ1[i]?,some (.ref E)))(gp:(2,G E))(Ee:∀b,b≠E->Gf b=G b)(lV:∀b,Gf b≠none->(2,fB Gf b)->(2,Gl b))
(s2:aO (kT Gf E) G2)(l2:tR X.K G2 Gl E d')(A:∀j b,At σ1 (Y.set i (.fr d)) j b->(2,i4 Gf Gl b))(f:l'=.ow d'\/l'=.lk E d'):
∃K,Hs X.K H0 σ1 (Y.set i l') K (mix σ1 (Y.set i (.fr d)) H (i4 Gf Gl))/\aO G K/\aO G2 K/\ ∀b o,(0,H b,o)->b≠E->(0,mix σ1 (Y.set i (.fr d)) H (i4 Gf Gl) b,o):=by
 obtain⟨h2,J,h4⟩:=l2
 let K:Hp:=λb=>if b=E then none else i4 Gf Gl b
 have C:∀b,b≠E->K b=i4 Gf Gl b:=λb hb=>if_neg hb
 have s3:aO G2 K:=λb o e=>by
  have hb:=aK e h2;rw[2,C b hb,cY b o (26,J b hb,e)]
 have s4:aO G K:=λb o e=>by
  have hb:=aK e gp;have R:=(Ee b hb).trans e
  cases q:fB Gf b with
  |some w=>
   have:=th q;rw[R]at this;cases this;exact s3 b o (s2 b o (10,j8 hb,q))
  |none=>rw[C b hb,dh (lV b (by rw[R];intro z;cases z) q)];exact R
 obtain⟨o4,c,_⟩:=h4.soft;refine⟨K,hs.back (d:=d) el hm O f A s4 (if_pos rfl) C (h4.mono s3 (10,c,cY _ _ c)),s4,s3,λb o e hb=>?_⟩
 by_cases ha:∃j,At σ1 (Y.set i (.fr d)) j b
 ·obtain⟨j,a⟩:=ha;rw[2,dq a,e]
 ·rw[bW λj z=>ha ⟨j,z⟩,<-C b hb]
  rcases hs.ex b with⟨z,_⟩|⟨_,j,a⟩
  ·exact s4 b o (z.trans e)
  ·exfalso
   by_cases g:j=i
   ·subst g
    obtain⟨_,_,_,z⟩:=a;rw[O]at z;cases z;exact hb rfl
   ·exact ha ⟨j,(cE g).mpr a⟩
theorem so{A':Around}{f:Addr}{ps:#[1]}{k:Nat}{sp:qJ}{Xd:(1,Er)}{new:D->Sl}
(F:aQ X.prog X.w X.K X.mg X.base (dN X.prog X.w) k f fd ps (liftM X.K X.mg sp))(hr:bT k A')(he:∀G',m2 X.prog X.w X.K X.mg X.base X.A X.stack s G'->m2 X.prog X.w X.K X.mg X.base A' X.stack s G')
(hb:Binds X.K fd ps [])(hs:Hs X.K H0 σ1 Y G H)(I:#[6])(el:(0,Y[i]?,l))(hm:l.fq)(O:(0,σ1[i]?,some (.ref E)))(o:Own X.K G H E d)(rd:aE X.K G ds ws)(r:Vals ws us)(q:sp ds d Qd Xd)
(g:∀d',new d'=.ow d'\/new d'=.lk E d')
(kq:∀v u s' K H' x d',(11,Inv X Z σ H' s',RelV v u,Hs X.K H0 σ1 (Y.set i (new d')) K H',aO G K,(∀b o,(0,H b,o)->b≠E->(0,H' b,o))->Rep X.K K x v->Qd x d'->R (.ok (.ret u)) s'))
(kx:∀x ea s',Xd x->NI X H0 Z σ σ1 (Y.set i (new d)) G x ea s'->R (.error (.ref ea)) s'):
codeAny (model X.prog X.w) A' (.call (.ref f) ⟨.ref E::us,[]⟩) R s:=by
 obtain⟨gp,Gf,S,Ee,XX,sf⟩:=hs.lend el hm O o;obtain⟨Xf,KI,Nj⟩:=o.soft;have vp:fB Gf E=H E:=by
  rw[KI];refine hG (XX.trans KI) λc z=>?_
  subst z;exact Nj
 have nv:lP G (kT Gf E):=λb o no q=>by
  have hb:=aK q gp;rw[2,j8 hb,hG ((Ee b hb).trans q) no]
 have N:liftM X.K X.mg sp (.ref E::ws) (fB Gf) (λv Gl=>∃G2 x d',aO (kT Gf E) G2/\tR X.K G2 Gl E d'/\Rep X.K G2 x v/\Qd x d') (λc m Gl=>∃(x:Er)(C:Addr)(G2:Hp),(3,c,.ref C,(0,X.mg x.1,.ref C),Xd x/\aO (kT Gf E) G2/\tR X.K G2 Gl E d/\Ip Gl m x.2)):=
  ⟨E,ws,kT Gf E,d,ds,Qd,Xd,rfl,⟨if_pos rfl,λb hb=>j8 hb,Own.near o nv vp⟩,aE.near nv _ _ rd,q,λv H' G' x d' a b c e=>⟨G',x,d',a,b,c,e⟩,λx C a H' G' a1 a2 a3 a4 a5=>⟨x,C,G',rfl,a2,a1,a3,a4,a5⟩⟩
 have r2:Vals (V.ref E::ws) (Value.ref E::us):=.cons rfl r;have U:(Value.ref E::us).length=ps.length:=(26,r2.length,F.len _ _ _ _ N)
 have XY:BindsTo s fd ⟨Value.ref E::us,[]⟩ (ps.zip (Value.ref E::us)):=by simpa using hb s (Value.ref E::us) I.kM (by simpa using U)
 have M:∀{Gl G2:Hp}{d':D},aO (kT Gf E) G2->tR X.K G2 Gl E d'-> ∀b,(2,Gl b)->(2,fB Gf b):=λ{Gl G2 d'}s2 l2 b n=>by
  by_cases hb:b=E
  ·obtain⟨o,eo,_⟩:=l2.2.2.soft
   rw[hb,eo]at n;cases n
  ·rw[<-j8 hb];exact s2.free (10,l2.2.1 b hb,n)
 refine codeAny_mono (F.run A' X.stack s (fB Gf) ⟨Value.ref E::us,[]⟩ (Value.ref E::us) (V.ref E::ws) _ _ hr (he _ (S.wO I)) XY r2 N) λr s' hq=>?_
 cases r with
 |error e=>
  obtain⟨ea,C,t,B,Gl,m,rfl,ho,bare,TY,un,n1,P,p,x,C',G2,eC,w,xd,s2,l2,py⟩:=hq;cases eC;refine kx x ea s' xd ⟨C,t,B,?_⟩
  have ce:∀h6,B.StaysIn h6->s'.heap.UpToSlots h6-> ∃v G1,Inv X Z σ (mix σ1 (Y.set i (.fr d)) H (i4 Gf G1)) {s' with heap:=h6}/\RelV v .none/\(v=.bu/\G1=Gl)/\(∀j b,At σ1 (Y.set i (.fr d)) j b->(2,i4 Gf G1 b))/\ ∀b,Gf b≠none->(2,fB Gf b)->(2,G1 b):=λh6 st up=>by
   obtain⟨u1,XZ⟩:=un h6 st up;exact S.behind I (Q:=λv G1=>v=.bu/\G1=Gl) ⟨.bu,Gl,ho,bare,u1,XZ,rfl,rfl,rfl⟩ λv G1⟨_,W⟩b n=>by subst W;exact M s2 l2 b n
  obtain⟨_,G1,_,_,⟨_,eG⟩,A,lV⟩:=ce s'.heap TY.1 (.refl _);rw[eG]at A lV;obtain⟨K,J,s4,_,_⟩:=sk (d:=d) hs el hm O gp Ee lV s2 l2 A (g d);refine⟨K,mix σ1 (Y.set i (.fr d)) H (i4 Gf Gl),w,TY,λz=>?_,⟨m,p,λnz=>?_⟩,λh6 st up=>?_⟩
  rotate_left
  ·obtain⟨T,O,W⟩:=py nz
   refine⟨T,O,?_⟩;rw[2,(bW λj a=>by have:=A j T a;rw[cY _ _ W]at this;cases this),cY _ _ W]
  rotate_left
  ·cases q:X.ey.heap.get? ea with
   |none=>rfl
   |some o=>
    obtain⟨ob,z⟩:=I.base.there ea o q (by rw[z];intro y;cases y);rw[P]at z;cases z
  obtain⟨_,G1',I1,_,⟨_,X0⟩,_,_⟩:=ce h6 st up;rw[X0]at I1;have TZ:∀o,H ea≠some o:=λo e=>by
   obtain⟨ob,z⟩:=bJ.there (I.bH ea o e);rw[P]at z;cases z
  refine⟨I1,⟨J,s4⟩,?_⟩;unfold mix
  split
  ·cases q:H ea with
   |none=>rfl
   |some o=>exact absurd q (TZ o)
  ·rw[dh n1]
   cases q:Gf ea with
   |none=>rfl
   |some o=>exact absurd (S.sub ea o q) (TZ o)
 |ok fl=>
  cases fl with
  |ret u=>
   obtain⟨v,Gl,h,rv,⟨G2,x,d',s2,l2,L,qd⟩,A,lV⟩:=S.behind I hq λv Gl⟨G2,x,d',s2,l2,_⟩b n=>M s2 l2 b n
   obtain⟨K,J,s4,s3,sm⟩:=sk (d:=d) hs el hm O gp Ee lV s2 l2 A (g d');exact kq v u s' K _ x d' h rv J s4 sm (Rep.mono s3 _ _ L) qd
  |next=>exact False.elim hq
  |brk=>exact False.elim hq
  |cont=>exact False.elim hq
end
theorem aQ.up{base:Heap}{k:Nat}{f:Addr}{ps:#[1]}{sp:Sp}(F:aQ P w K mg base cy k f fd ps sp):aQ P w K mg base (dN P w) k f fd ps sp:=
 ⟨F.len,λA outer s H i us vs Q E hr he hb hv hs=>codeAny_mono (F.run A outer s H i us vs Q E hr he hb hv hs) λr s' hq=>by
  cases r with
  |error e=>exact False.elim hq
  |ok fl=>cases fl<;>exact hq⟩
structure AF(P:Program)(w:World)(K:PySem.W.Frag)(mg:#[11])(base:Heap)(k:Nat)(x:Str)(C:Addr)(sp:qJ):Prop where
 ex:(56,aQ P w K mg base (dN P w) k f fd ps (liftM K mg sp),Mk K C f,(0,mg x,.ref C))
section
variable{H0:Hp}{k:Nat}{x:Str}{C:Addr}{sp:qJ}{e:Expr}{es:#[4]}{tr:RA}{p pos:Pos}
theorem su{f:Addr}{ps:#[1]}{Qd:(1,D)}{Q:VK}
(F:aQ X.prog X.w X.K X.mg X.base (dN X.prog X.w) k f fd ps (liftM X.K X.mg sp))(m:Mk X.K C f)(hr:bT (k+1) X.A)(hb:Binds X.K fd ps [])(hs:Hs X.K H0 σ Y G H)(I:#[6])(r:Vals vs us)(rd:aE X.K G ds vs)
(q:sp ds (.obj C []) (λy d'=>y=.bu/\Qd d') λ_=>False)(kk:∀v H' G' d,(11,Hs X.K H0 (some v::σ) (.ow d::Y) G' H',aO G G',aO H H',Qd d,Q v H')):(30,call (.ref C) us,EP X Z σ Q):=by
 have a:=Inv.made (C:=C) I;have nd:(2,H s.heap.objs.size):=I.bH.fresh (Nat.le_refl _);have nx:(2,H #[16]):=I.bH.fresh (Nat.le_succ _);have ne:#[16]≠s.heap.objs.size:=Nat.succ_ne_self _;obtain⟨h1,s1⟩:=hs.laid (o:=.own #[16]) nd;have M:Own X.K (upd G s.heap.objs.size (.own #[16])) (upd (upd H s.heap.objs.size (.own #[16])) #[16] (.ins C s.heap.objs.size [])) #[16] (.obj C []):=⟨_,[],aM,by simp only[bc]⟩;have h2:=h1.fresh (p:=#[16]) (o:=.ins C s.heap.objs.size []) (d:=.obj C []) (10,aI ne,nx) M;refine wpAny_call (A1 (f:=f) I.kM m.makes m.init (beq_iff_eq.mp m.fn) (so (i:=0) (l:=.ow (.obj C [])) (new:=Sl.ow) F (hr.make C us []) (λG' e=>e.make C us []) hb h2 a rfl True.intro rfl M (aE.mono s1 _ _ rd) r q (λ_=>.inl rfl) (λv u s' K H' y d' g rv J h sm L⟨c,j⟩=>?_) λ_ _ _ z=>z.elim));subst c;simp only[Rep]at L;subst L;refine⟨rv,⟨V.ref _,H',g,rfl,kk _ H' K d' J (s1.trans h) (λb o e=>sm b o ?_ ?_) j⟩⟩
 ·rw[aI (aK e nx),aI (aK e nd)];exact e
 ·exact aK e nx
def K'(C:Addr)(sp:qJ)(tr:RA)(Y:#[0])(Q:(1,D)):Prop:=tr Y λds=>sp ds (.obj C []) (λy d'=>y=.bu/\Q d') λ_=>False
theorem xq(F:AF X.prog X.w X.K X.mg X.base k x C sp)(hr:bT (k+1) X.A)(ha:pb X H0 (e::es) tr)(hg:Gl X x:=by rfl)(j:(23,x):=by decide)
(he:#[13]:=by rfl)(cU:(28,pos,es):=by rfl):b' X H0 (.Call (.Name x p) (e::es) [] pos) (K' C sp tr):=by
 obtain⟨f,fd,ps,F,m,hm,hb⟩:=F.ex;intro Z s σ H Q I⟨Y,G,Qd,hs,M,kk⟩;refine wpAny_Call_Name_kw (cc I hg hm ?_ j);have g:iV X.K H0 tr σ H (λvs H'=>∃G' ds,Nx X.K H0 σ Y G H G' H'/\aE X.K G' ds vs/\sp ds (.obj C []) (λy d'=>y=.bu/\Qd d') λ_=>False):=⟨Y,G,_,hs,M,λvs H' G' ds n r q=>⟨G',ds,n,r,q⟩⟩;refine PySem.W.callWith_K (h₀:=X.base) I.ok.mod.g9 m.kp (bK (ha pos Z s σ H _ I g) λus s1⟨vs,H1,I1,r,G',ds,n,rd,q⟩=>⟨I1.kM,?_⟩) he cU;exact su F m hr hb n.hs I1 r rd q λv H' G2 d h2 a b c=>kk v H' G2 d h2 (n.g.trans a) (n.h.trans b) c
def IV(C:Addr)(sp:qJ)(Y:#[0])(Q:(1,D)):Prop:=sp [] (.obj C []) (λy d'=>y=.bu/\Q d') λ_=>False
theorem j9(F:AF X.prog X.w X.K X.mg X.base k x C sp)(hr:bT (k+1) X.A)(hg:Gl X x:=by rfl)(j:(23,x):=by decide):b' X H0 (.Call (.Name x p) [] [] pos) (IV C sp):=by
 obtain⟨f,fd,ps,F,m,hm,hb⟩:=F.ex;intro Z s σ H Q I⟨Y,G,Qd,hs,M,kk⟩;refine wpAny_Call_Name_kw (cc I hg hm ?_ j);exact PySem.W.callWith_K0 I.kM m.kp (su (us:=[]) F m hr hb hs I .nil aE.nil M λv H' G2 d h2 a b c=>kk v H' G2 d h2 a b c)
end
section
variable{n:Model}{A:Around}{E:#[8]}
variable{nm q s q':Str}{C N C' N':Addr}{bs v m:#[5]}{hdct k:Bool}{sn D:#[1]}{sub p:#[5]}{ab F:Bool}{col o:Option Bool}{dd i:Option Addr}{k0 k1 k2 k3 k5 j0 r H I j5:Option Value}{c j:String}
theorem qX{g:Array GenState}{d:PySem.Drawn}{t:Nat}{os:OsState}{e:Addr}{oe:Obj}{Q:(18,Bool)}
(hC:(0,h.get? C,excClassObj nm q C N bs bm hdct sn sub ab col dd k0 k1 k2 k3 k5 c))(u:(0,h.get? C',excClassObj s q' C' N' v m k D p F o i j0 r H I j5 j))
(he:(0,h.get? e,oe))(w:oe.cls=.ref C)(l:(4,m.contains (.type "BaseException")))(X1:(Value.ref C::bm).contains (.ref C')=false)
(hq:Q false ⟨h,g,d,t,os⟩):wpAny n A (excMatches (.ref e) (.ref C')) Q E ⟨h,g,d,t,os⟩:=by
 have a:(4,(Value.ref C'::m).contains (.type "BaseException")):=by rw[List.contains_cons,l,Bool.or_true]
 have f:=tc_notTuple;unfold excMatches
 repeat(first|(with_reducible refine wpAny_loadPart_at he ?_;rw[w])|with_reducible refine wpAny_loadPart_at u ?_|with_reducible refine wpAny_loadPart_at hC ?_|(with_reducible refine wpAny_isSubtype_exc u ?_;rw[a])|(with_reducible refine wpAny_isSubtype_exc hC ?_;rw[X1])|wp_step)
 exact hq
end
def F_(X:Cx)(x y:Str):Prop:=∃C',(0,X.mg y,.ref C')/\ ∀C,(0,X.mg x,.ref C)-> ∀(A:Around)(V:Shared)(ea:Addr)(ob:Obj)(Q:(18,Bool))(E:#[8]),(11,∀b o,(0,X.base.get? b,o)->(0,V.heap.get? b,o),(0,V.heap.get? ea,ob),ob.cls=.ref C,Q false V,(40,A,excMatches (.ref ea) (.ref C'),Q,E,V))
def PH(X:Cx)(H0:Hp)(hs:List ExceptHandler)(x:Er)(t:RS):Prop:=∀(Z:#[9])(σ:L2.St)(Y:#[0])(G H:Hp)(ea:Addr)(V:Shared)(k:Ends)(E:bC),Ew X H0 Z σ Y G H x ea V->t E Y->Go X.K H0 G E k->
 (40,X.A,handleBy (.ref ea) X.env hs,SP X Z k,X.xe,V)
section
variable{H0:Hp}{x:Er}{n:Str}{b:Stmt}{d:List Stmt}{J a:Pos}{rest:List ExceptHandler}{t:RS}{e:Option Str}{p:List Stmt}
theorem bP(m:F_ X x.1 y)(h:PH X H0 rest x t)(hg:Gl X y:=by rfl)(c:(23,y):=by decide):PH X H0 (.ExceptHandler (some (.Name y J)) e p a::rest) x t:=by
 intro Z σ Y G H ea V k E fl M go;obtain⟨C,t,B,l,i,hm,j,_,_,f⟩:=id fl;obtain⟨C',s,mt⟩:=m;obtain⟨K,g,_⟩:=f V.heap j.1 (.refl _);obtain⟨ob,n,o⟩:=j.there;refine wpAny_handleBy_cons (codeAny_handlers_test (cc (X:=marked X ea) (Inv.mark K ea) hg s ?_ c)) (by intro q;cases q);exact mt C hm _ V ea ob _ _ K.bk n o (h Z σ Y G H ea V k E fl M go)
theorem dZ(m:yN X x.1 y)(hb:∀ea,e3 (marked X ea) H0 (b::d) t)(hp:∀ea,PassesOwnAt (model X.prog X.w) (X.A.mark (some (.ref ea))) X.A X.env X.xe)(hg:Gl X y:=by rfl)(c:(23,y):=by decide):
PH X H0 (.ExceptHandler (some (.Name y J)) none (b::d) a::rest) x t:=by
 intro Z σ Y G H ea V k E fl M go;obtain⟨C,t,B,l,i,hm,j,_,_,r⟩:=fl;obtain⟨C',s,mt⟩:=m;obtain⟨K,g,_⟩:=r V.heap j.1 (.refl _);obtain⟨ob,n,o⟩:=j.there;rw[0,wpAny_handleBy_cons (codeAny_handlers_test (cc (X:=marked X ea) (Inv.mark K ea) hg s ?_ c)) (by intro q;cases q),mt C hm _ V ea ob _ _ K.bk n o (codeAny_handlers_suite ?_)];refine lands_againW j λw v A=>?_
 obtain⟨h,u,_⟩:=r w v.1 A;exact wpAny_passesOwnAt (hp ea) (wpAny_mono (hb ea Z _ σ i k (Inv.mark h ea) ⟨Y,l,E,u.hs,M,go.mono u.g⟩) (λf s4 D=>SP.unmark h.ok D) λ_ _ z=>z)
end
section
variable{n:Model}{A:Around}{E:#[8]}{env:Env}
variable{nm q:Str}{C N:Addr}{bs:#[5]}{hdct:Bool}{sn:#[1]}{sub:#[5]}{ab:Bool}{col:Option Bool}{dd:Option Addr}{k0 k1 k2 k3 k5:Option Value}{c:String}
end
def F'(H:Hp)(a:Addr):Hp:=λb=>if b=a then none else H b
theorem pX{b:Addr}(h:b≠a):F' H a b=H b:=if_neg h
section
variable{base:Heap}{N:#[1]}{g:Str}{U:Scope}{f:Addr}{cd:Value}{A:Around}{outer:List Env}{s1:Shared}{H1:Hp}{E:XK}
end
section
variable{H0:Hp}{C f:Addr}{k:Nat}{ps:#[1]}{x:Str}{e:Expr}{es:#[4]}{tr:RA}{p pos hB:Pos}{R:(1,List Int)}
end
section
variable{H0 G1:Hp}{H':Hp}{v:V}{r:uD}{E:bC}{D:Ends}
theorem Hs.fv(h:Hs K G1 σ Y G H)(s:aO H0 G1):#[12]:=⟨h.len,s.trans h.base,h.ex,h.fr,h.ow,h.lk,h.ne⟩
theorem Hs.Af(h:#[12]):Hs K G σ Y G H:=⟨h.len,.refl _,h.ex,h.fr,h.ow,h.lk,h.ne⟩
theorem rO.fv(h:rO K G1 H' v Y r)(s:aO H0 G1):rO K H0 H' v Y r:=by
 cases r with
 |val d=>obtain⟨L,G',hs,r⟩:=h;exact⟨L,G',hs.fv s,r⟩
 |new d=>obtain⟨G,p,e,s1,z⟩:=h;rw[4,G,p,e,s.trans s1,z]
 |two x y=>obtain⟨G,a,p,q,e,s1,z⟩:=h;exact⟨G,a,p,q,e,s.trans s1,z⟩
 |fo x y=>obtain⟨G,a,p,q,e,s1,z⟩:=h;exact⟨G,a,p,q,e,s.trans s1,z⟩
theorem Go.fv(g:Go K H0 G E D)(s:aO H0 G1):Go K G1 G E D:=
 ⟨λL H' T G' h=>g.nx L H' T G' (h.fv s),λv H' r T h=>g.rt v H' r T (h.fv s),λL H' T G' h=>g.bk L H' T G' (h.fv s),λL H' T G' h=>g.ct L H' T G' (h.fv s)⟩
end
abbrev vG(X:Cx)(Z:#[9]):Cx:={X with pn:=X.pn++Z}
section
variable{R:#[9]}{H0:Hp}{x:Er}{ea:Addr}{E:#[8]}
theorem CJ(I:#[6]):Inv (vG X Z) [] σ H s:=
 ⟨⟨I.ok.mod,I.ok.kind,I.ok.glob,I.ok.blt,I.ok.above,I.ok.inj,I.ok.has,I.ok.E',I.ok.hd,I.ok.frames,I.ok.Gr,I.ok.Gs,I.ok.bs,I.ok.x6,I.ok.uH,I.ok.sN,I.ok.i3,I.ok.AA⟩,I.os,I.bare,I.base,I.loc,I.cell,I.free,I.fj,λp hp=>I.pin p (by simpa using hp),I.bH,I.len⟩
theorem gP(ok:X.Ok)(I:Inv (vG X Z) R σ H s):#[6]:=
 ⟨ok,I.os,I.bare,I.base,I.loc,I.cell,I.free,I.fj,λp hp=>I.pin p (List.mem_append_left _ hp),I.bH,I.len⟩
theorem Ew.dr(fl:Ew (X.mW E) H0 Z σ Y G H x ea s):Ew X H0 Z σ Y G H x ea s:=
 let⟨C,t,B,G2,H2,a,b,c,d,e⟩:=fl;⟨C,t,B,G2,H2,a,b,c,d,λh6 st up=>let⟨i,n,z⟩:=e h6 st up;⟨i.dr,n,z⟩⟩
end
abbrev La(X:Cx)(H0:Hp)(Z:#[9])(W:(7,Er,#[0])):Cx:=(vG X Z).mW λb s'=>∃ea x R σ Y G H,(3,b,.ref ea,Ew (vG X Z) H0 R σ Y G H x ea s',W x Y)
def mj(X:Cx)(H0:Hp)(x:Er)(Y:#[0]):Prop:=∀(Z:#[9])(σ:L2.St)(G H:Hp)(ea:Addr)(s':Shared),Ew X H0 Z σ Y G H x ea s'->X.xe (.ref ea) s'
theorem fO{H0:Hp}{W:(7,Er,#[0])}(x:Er)(Y:#[0])(w:W x Y):mj (La X H0 Z W) H0 x Y:=
 λR σ G H ea s' fl=>⟨ea,x,R,σ,Y,G,H,rfl,fl.dr,w⟩
section
variable{H0:Hp}{d:List Stmt}{h₀:ExceptHandler}{y:List ExceptHandler}{pos:Pos}{F:(7,Er,#[0])->RS}
def Lb(X:Cx)(H0:Hp)(y:List ExceptHandler)(F:(7,Er,#[0])->RS)(E:bC)(Y:#[0]):Prop:=F (λx T=>∃t,PH X H0 y x t/\t E T) E Y
theorem pY(hb:∀H1 Z W,e3 (La X H1 Z W) H1 d (F W))(iT:X.stack=X.env::X.outer)(S:(0,X.env.frame,X.env.locals)):i8 X H0 (.Try d (h₀::y) [] [] pos) (Lb X H0 (h₀::y) F):=by
 intro Z s σ H D I⟨Y,G,E,hs,M,g⟩;have ok:=I.ok;refine wpAny_Try_except (wpAny_mono (hb G Z _ [] s σ H D ((CJ I).mW _) ⟨Y,G,E,hs.Af,M,g.fv hs.base⟩) (λf s1 q=>?_) λc s1 q=>?_)
 ·cases f with
  |next=>obtain⟨L,H',I1,q⟩:=q;exact wpAny_execs_nil ⟨L,H',gP ok I1.dr,q⟩
  |brk=>obtain⟨L,H',I1,q⟩:=q;exact⟨L,H',gP ok I1.dr,q⟩
  |cont=>obtain⟨L,H',I1,q⟩:=q;exact⟨L,H',gP ok I1.dr,q⟩
  |ret u=>obtain⟨v,L,H',I1,r,q⟩:=q;exact⟨v,L,H',gP ok I1.dr,r,q⟩
 ·obtain⟨ea,x,R,L,T,G',H',rfl,⟨C,t,B,o,i,hm,j,l,⟨m,p,py⟩,h⟩,tt,O,q⟩:=q
  have A:=ok.frames;have J:=j;rw[show(vG X Z).stack=X.env::X.outer from iT]at J;rw[iT]at A
  refine bK (md (yM _ _) (wpAny_looks_onW (Q:=λ_ s2=>∃h',(3,s2,{s1 with heap:=h'},Heap.HeldW B (X.env::X.outer) ea (.ref C) (.ref t) X.env.locals h',s1.heap.UpToSlots h')) A S J λh' a b=>⟨h',rfl,a,b⟩)) λ_ s2⟨⟨h4,n,P,U⟩,N⟩=>?_
  subst n
  refine bK (md (zS _ _) (wpAny_landsW (Q:=λ_ s3=>∃h',(3,s3,{s1 with heap:=h'},Heap.FlyingW B (X.env::X.outer) ea (.ref C) (.ref t) h',h4.UpToSlots h')) P λh' a b=>⟨h',rfl,a,b⟩)) λ_ s3⟨⟨h5,e5,K,w⟩,V⟩=>?_
  subst e5;refine O Z L T G i ea _ D E ⟨C,t,B,o,i,hm,(10,iT,K),l,⟨m,(p.keep N).keep V,py⟩,λh6 st up=>?_⟩ q g;obtain⟨e,k,z⟩:=h h6 st ((U.trans w).trans up);rw[1,gP ok e,⟨k.hs.fv hs.base,k.hs.base⟩,z]
end
section
variable{H0:Hp}{G1:Hp}{v:V}{r:uD}{Q:(1,D)}
theorem Hs.settled(hs:Hs X.K H0 σ Y G H)(A:∀i b,At σ Y i b->(2,G1 b))(ok:cV X.K G G1 v r)(q:lX Q r):∃K d,Nx X.K H0 σ Y G H K (mix σ Y H G1)/\Rep X.K K d v/\Q d:=by
 cases r with
 |val d=>
  obtain⟨P,r2⟩:=hs.fI A ok;rw[4,_,d,P,r2,q]
 |new d=>
  obtain⟨G2,P,g,h⟩:=hs.fJ A ok;obtain⟨K,e,s3,j⟩:=P.settle;rw[4,_,d,⟨e,g.trans s3,h⟩,j,q]
 |two x y=>
  obtain⟨G2,a,p,q',rfl,ga,P,g,h⟩:=hs.ph A ok;obtain⟨K,e,s3,j⟩:=P.settle;obtain⟨m,f,s4,k⟩:=e.settle;rw[4,_,.tup [x,y],⟨f,(g.trans s3).trans s4,h⟩,by simp only[Rep];rw[4,a,_,rfl,s4 _ _ (s3 _ _ ga),aE.cons (Rep.mono s4 _ _ j) (aE.cons k aE.nil)],q]
 |fo x y=>
  obtain⟨G2,a,vx,q',rfl,s2,ga,L,c,eq,l⟩:=ok;obtain⟨P,h⟩:=hs.hH A s2 c eq l;obtain⟨K,e,s3,j⟩:=P.settle;rw[4,_,.tup [x,y],⟨e,s2.trans s3,h⟩,by simp only[Rep];rw[4,a,_,rfl,s3 _ _ ga,aE.cons (Rep.mono s3 _ _ L) (aE.cons j aE.nil)],q]
end
structure uF(P:Program)(w:World)(K:PySem.W.Frag)(mg:#[11])(base:Heap)(k:Nat)(f:Addr)(sp:dO):Prop where
 ex:∃(fd:FuncData)(ps:List Str),aQ P w K mg base (dN P w) k f fd ps (bM K mg sp)/\(4,keepIn K (.ref f))/\Binds K fd ps []
def y0(sp:dO)(tr:RA)(R:(7,Er,#[0]))(Y:#[0])(Q:(1,D)):Prop:=tr Y λds=>sp ds (lX Q) λx=>R x Y
def tT(sp:dO)(tr:RA)(R:(7,Er,#[0]))(Y:#[0])(Q:(1,D)):Prop:=tr Y λds=>sp ds (zF Q) λx=>R x Y
section
variable{H0:Hp}{k:Nat}{f:Addr}{sp:dO}{e:Expr}{es:#[4]}{tr:RA}{p aU:Pos}{R:(7,Er,#[0])}
theorem IW{Q:VK}(F:uF X.prog X.w X.K X.mg X.base k f sp)(hr:bT k X.A)(B:∀x Y,R x Y->mj X H0 x Y)(ha:pb X H0 (e::es) tr)(I:#[6])(h:bX X.K H0 (y0 sp tr R) σ H Q)
(he:#[13])(cU:(28,aU,es)):(30,callWith aU (.ref f) [] (backTo aU (starEach (e::es) X.env)) [],EP X Z σ Q):=by
 obtain⟨fd,ps,F,hk,l⟩:=F.ex;obtain⟨Y,G,Qd,hs,M,g⟩:=h;have j:iV X.K H0 tr σ H (λvs H'=>∃G' ds,Nx X.K H0 σ Y G H G' H'/\aE X.K G' ds vs/\sp ds (lX Qd) λx=>R x Y):=⟨Y,G,_,hs,M,λvs H' G' ds n r q=>⟨G',ds,n,r,q⟩⟩;rw[0,PySem.W.callWith_K (h₀:=X.base) I.ok.mod.g9 hk (bK (ha aU Z s σ H _ I j) λus s1⟨vs,H1,I1,r,G',ds,n,rd,q⟩=>⟨I1.kM,?_⟩) he cU,oQ (X:=X) F hr l n.hs I1 r rd q (λv G1 r u s' a rv A ok q2=>?_) λx ea s' xd fl=>B x Y xd _ _ _ _ _ _ fl]
 obtain⟨K,d,b,i,c⟩:=n.hs.settled A ok q2;rw[4,v,_,a,rv,g _ _ _ _ (n.trans b) i c]
theorem CK{Q:VK}(F:uF X.prog X.w X.K X.mg X.base k f sp)(hr:bT k X.A)(B:∀x Y,R x Y->mj X H0 x Y)(ha:pb X H0 (e::es) tr)(I:#[6])(h:yj X.K H0 (tT sp tr R) σ H Q)
(he:#[13])(cU:(28,aU,es)):(30,callWith aU (.ref f) [] (backTo aU (starEach (e::es) X.env)) [],EP X Z σ Q):=by
 obtain⟨fd,ps,F,hk,l⟩:=F.ex;obtain⟨Y,G,Qd,hs,M,g⟩:=h;have i:iV X.K H0 tr σ H (λvs H'=>∃G' ds,Nx X.K H0 σ Y G H G' H'/\aE X.K G' ds vs/\sp ds (zF Qd) λx=>R x Y):=⟨Y,G,_,hs,M,λvs H' G' ds n r q=>⟨G',ds,n,r,q⟩⟩;rw[0,PySem.W.callWith_K (h₀:=X.base) I.ok.mod.g9 hk (bK (ha aU Z s σ H _ I i) λus s1⟨vs,H1,I1,r,G',ds,n,rd,q⟩=>⟨I1.kM,?_⟩) he cU,oQ (X:=X) F hr l n.hs I1 r rd q (λv G1 r u s' a rv A ok q2=>?_) λx ea s' xd fl=>B x Y xd _ _ _ _ _ _ fl]
 cases r with
 |val d=>exact q2.elim
 |two x y=>exact q2.elim
 |fo x y=>exact q2.elim
 |new d=>
  obtain⟨G2,P,c,b⟩:=n.hs.fJ A ok;rw[4,v,_,a,rv,g v _ _ d P (n.g.trans c) (n.h.trans b) q2]
theorem cO(F:uE X.prog X.w X.K X.mg X.base k y sp)(hr:bT k X.A)(B:∀x Y,R x Y->mj X H0 x Y)(ha:pb X H0 (e::es) tr)(hg:Gl X y:=by rfl)(j:(23,y):=by decide)
(he:#[13]:=by rfl)(cU:(28,aU,es):=by rfl):aS X H0 (.Call (.Name y p) (e::es) [] aU) (y0 sp tr R):=by
 obtain⟨fa,fd,ps,F,hm,hk,l⟩:=F.ex;exact λZ s σ H Q I h=>wpAny_Call_Name_kw (cc I hg hm (IW ⟨fd,ps,F,hk,l⟩ hr B ha I h he cU) j)
theorem CL(F:uE X.prog X.w X.K X.mg X.base k y sp)(hr:bT k X.A)(B:∀x Y,R x Y->mj X H0 x Y)(ha:pb X H0 (e::es) tr)(hg:Gl X y:=by rfl)(j:(23,y):=by decide)
(he:#[13]:=by rfl)(cU:(28,aU,es):=by rfl):b' X H0 (.Call (.Name y p) (e::es) [] aU) (tT sp tr R):=by
 obtain⟨fa,fd,ps,F,hm,hk,l⟩:=F.ex;exact λZ s σ H Q I h=>wpAny_Call_Name_kw (cc I hg hm (CK ⟨fd,ps,F,hk,l⟩ hr B ha I h he cU) j)
end
def Lc(H H':Hp):Prop:=∀b o,(∀C T fs,o≠ .ins C T fs)->(0,H b,o)->(0,H' b,o)
def sv(d:D):Prop:=∀(K:PySem.W.Frag)(H H':Hp)(v:V),Lc H H'->Rep K H d v->Rep K H' d v
theorem EY:sv .bu:=λK H H' v _ h=>#[18]
theorem CM(b:Bool):sv (.bl b):=λK H H' v _ h=>#[18]
theorem hT(i:Int):sv (.int i):=λK H H' v _ h=>#[18]
theorem oR(x:Str):sv (.str x):=λK H H' v _ h=>#[18]
theorem IX{K:PySem.W.Frag}{H H':Hp}(n:Lc H H'):∀(ds:List D)(vs:List V),(∀d∈ds,sv d)->aE K H ds vs->aE K H' ds vs
 |[],vs,_,h=>by simpa only[aE]using h
 |d::ds,vs,p,h=>by
  simp only[aE]at h⊢;obtain⟨v,r,h1,h2,J⟩:=h;rw[4,v,r,h1,p d (.head _) K H H' v n h2,IX n ds r (λx hx=>p x (.tail _ hx)) J]
theorem tU(p:∀d∈ds,sv d):sv (.tup ds):=λK H H' v n h=>by
 simp only[Rep]at h⊢;rw[14,n _ _ (λ_ _ _ z=>nomatch z) h2,IX n ds vs p J]
theorem ml(p:∀d∈ds,sv d):sv (.lst ds):=λK H H' v n h=>by
 simp only[Rep]at h⊢;obtain⟨a,vs,h1,h2,J⟩:=h;refine⟨a,vs,h1,?_,IX n ds vs p J⟩
 rcases h2 with(h|⟨o,h⟩)|h
 ·exact .inl (.inl (n _ _ (λ_ _ _ z=>nomatch z) h))
 ·exact .inl (.inr ⟨o,n _ _ (λ_ _ _ z=>nomatch z) h⟩)
 ·exact .inr h
theorem cV.flat{G1:Hp}{v:V}{r:uD}{Q:(1,D)}(h:cV K G G1 v r)(q:lX Q r):∃x,Rep K G1 x v/\Q x:=by
 cases r with
 |val d=>rw[1,d,h.2,q]
 |new d=>
  obtain⟨G2,p,rfl,s2,gp,eq,o⟩:=h;rw[1,d,o.rep (λb o e=>(26,eq b (aK e gp),e)) rfl,q]
 |two x y=>
  obtain⟨G2,a,p,q',rfl,s2,ga,ne,gp,f,eq,c,i⟩:=h;have s3:aO G2 G1:=λb o e=>(26,eq b (aK e gp) (aK e f),e)
  rw[1,.tup [x,y],by simp only[Rep];rw[4,a,_,rfl,s3 _ _ ga,aE.cons (c.rep s3 rfl) (aE.cons (i.rep s3 rfl) aE.nil)],q]
 |fo x y=>
  obtain⟨G2,a,vx,q',rfl,s2,ga,L,f,eq,i⟩:=h;have s3:aO G2 G1:=λb o e=>(26,eq b (aK e f),e)
  rw[1,.tup [x,y],by simp only[Rep];rw[4,a,_,rfl,s3 _ _ ga,aE.cons (Rep.mono s3 _ _ L) (aE.cons (i.rep s3 rfl) aE.nil)],q]
def pZ(Y:#[0])(i:Nat)(d:D):Prop:=(0,Y[i]?,.ow d)\/ ∃p,(0,Y[i]?,.lk p d)
theorem Hs.fq{H0:Hp}{d:D}(hs:#[12])(m:pZ Y i d):∃l p,(0,Y[i]?,l)/\l.fq/\(l=.ow d\/l=.lk p d)/\(0,σ[i]?,some (.ref p))/\Own K G H p d:=by
 rcases m with e|⟨p,e⟩
 ·obtain⟨p,O,o⟩:=hs.ow i d e;exact⟨_,p,e,True.intro,.inl rfl,O,o⟩
 ·obtain⟨O,o⟩:=hs.lk i p d e;exact⟨_,p,e,True.intro,.inr rfl,O,o⟩
section
variable{H0:Hp}{k:Nat}{f:Addr}{ps:#[1]}{sp:dO}{l:Sl}{p:Addr}{C:Addr}
theorem y4{Qd:(1,D)}(F:aQ X.prog X.w X.K X.mg X.base (dN X.prog X.w) k f fd ps (bM X.K X.mg sp))(hr:bT k X.A)(hb:Binds X.K fd ps [])(hs:Hs X.K H0 σ Y G H)(I:#[6])
(el:(0,Y[i]?,l))(hm:l.fq)(hl:l=.ow (.obj C kvs)\/l=.lk p (.obj C kvs))(O:(0,σ[i]?,some (.ref p)))(o:Own X.K G H p (.obj C kvs))(rd:aE X.K G ds ws)(r:Vals ws us)(q:sp (.obj C kvs::ds) (lX λx=>sv x/\Qd x) λ_=>False)
(kk:∀v u s' H' G' x,(11,Inv X Z σ H' s',RelV v u,Nx X.K H0 σ Y G H G' H',Rep X.K G' x v,Qd x->Q u s')):(30,call (.ref f) (.ref p::us),Q):=by
 obtain⟨gp,Gf,S,Ee,V,j⟩:=hs.lend el hm O o;refine oQ (X:=X) (vs:=.ref p::ws) F hr hb S I (.cons rfl r) (aE.cons (o.rep j V) (aE.mono j _ _ rd)) q (λv G1 r u s' a rv A ok q2=>?_) λx ea s' xd _=>xd.elim
 obtain⟨T,aZ,eo,_⟩:=id o;have m:=ok.same;have n:G1 p=H p:=(10,eo,m p _ (V.trans eo))
 have s2:aO G (F' G1 p):=λb o e=>(10,pX (aK e gp),m b o (j b o e))
 have h2:=hs.back (d:=.obj C kvs) (d':=.obj C kvs) el hm O hl A s2 (if_pos rfl) (λb hb=>pX hb) (o.mono s2 n);rw[show Y.set i l=Y from by obtain⟨h,e⟩:=(33,el);rw[<-e];exact List.set_getElem_self h]at h2;obtain⟨_,_,c,_⟩:=S.settled A ok q2;obtain⟨x,L,g,qx⟩:=ok.flat q2;refine kk v u s' _ _ x a rv ⟨h2,s2,c.h⟩ (g _ _ _ v (λb o' no e=>?_) L) qx
 by_cases hb:b=p
 ·rw[hb,n,eo]at e;cases e;exact absurd rfl (no _ _ _)
 ·rw[2,pX hb,e]
end
section
variable{H0:Hp}{k:Nat}{x m:Str}{sp:dO}{es:#[4]}{tr:RA}{p g aU w:Pos}{C:Addr}{pl:Sem Bool}
def IY(i:Nat)(sp:dO)(tr:RA)(Y:#[0])(Q:(1,D)):Prop:=∃C kvs,pZ Y i (.obj C kvs)/\tr Y λds=>sp (.obj C kvs::ds) (lX λx=>sv x/\Q x) λ_=>False
theorem tV(i:Nat)(F:uE X.prog X.w X.K X.mg X.base k y sp)(hr:bT k X.A)(ha:pb X H0 es tr)(hg:Gl X y:=by rfl)(j:(23,y):=by decide)
(hN:(0,X.N[i]?,x):=by rfl)(hv:qL X.env.scope x:=by first|exact Or.inl rfl|exact Or.inr (Or.inl rfl)|exact Or.inr (Or.inr rfl))(hd:(23,x):=by decide)(W:#[21]:=by decide)
(he:(51,.Name x g::es,.Name x g,es):=by rfl)(cU:(28,aU,es):=by rfl):aS X H0 (.Call (.Name y p) (.Name x g::es) [] aU) (IY i sp tr):=by
 obtain⟨f,fd,ps,F,hm,hk,d⟩:=F.ex;intro Z s σ H Q I⟨Y,G,Qd,hs,⟨C,kvs,h,M⟩,kk⟩;obtain⟨l,q,el,e,hl,O,o⟩:=hs.fq h;refine wpAny_Call_Name_kw (cc I hg hm ?_ j);have c:A2 (Gx i) (iV X.K H0 tr) σ H (λvs H'=>∃G' ds ws,(3,vs,.ref q::ws,Nx X.K H0 σ Y G H G' H',aE X.K G' ds ws/\sp (.obj C kvs::ds) (lX λx=>sv x/\Qd x) λ_=>False)):=⟨_,O,Y,G,_,hs,M,λvs H' G' ds n r q=>⟨G',ds,vs,rfl,n,r,q⟩⟩;refine PySem.W.callWith_K (h₀:=X.base) I.ok.mod.g9 hk (bK (cZ (eD hN hv hd W) ha he aU Z s σ H _ I c) λus s1⟨vs,H1,I1,r,G',ds,ws,b,n,rd,q⟩=>⟨I1.kM,?_⟩) he cU;subst b
 cases r with
 |cons ru r=>
  subst ru;exact y4 F hr d n.hs I1 el e hl O (o.mono n.g (by obtain⟨T,aZ,eo,_⟩:=id o;rw[2,eo,n.h _ _ eo])) rd r q λv u s' H' G2 x a rv P r2 q2=>⟨v,H',a,rv,kk v _ _ x (n.trans P) r2 q2⟩
def IZ(i:Nat)(C:Addr)(m:Str)(sp:dO)(Y:#[0])(Q:(1,D)):Prop:=∃kvs,pZ Y i (.obj C kvs)/\(4,vF (kvs.map (·.1)))/\(2,cH kvs (.inr m))/\sp [.obj C kvs] (lX λx=>sv x/\Q x) λ_=>False
theorem mm(i:Nat)(F:fY X.prog X.w X.K X.mg X.base k C m sp)(hr:bT k X.A)
(hN:(0,X.N[i]?,x):=by rfl)(hv:qL X.env.scope x:=by first|exact Or.inl rfl|exact Or.inr (Or.inl rfl)|exact Or.inr (Or.inr rfl))(hd:(23,x):=by decide)(W:#[21]:=by decide)
(b:eval (31,.Name x g,m,[],aU) X.env=(do
let p<-eval (.Name x g) X.env
standAt w.atName
let(f,first)<-holding [p] (getMethod p m pl)
callWith aU f first (backTo aU (starEach [] X.env)) (backToKw aU (keywordEach [] X.env))):=by rfl):aS X H0 (31,.Name x g,m,[],aU) (IZ i C m sp):=by
 obtain⟨f,fd,ps,F,c,hm,hb⟩:=F.ex;intro Z s σ H Q I⟨Y,G,Qd,hs,⟨kvs,h,ok,n,M⟩,kk⟩;obtain⟨l,q,el,e,hl,O,o⟩:=hs.fq h;obtain⟨T,aZ,eo,rk⟩:=id o;refine PySem.W.methodCall_KW (pl:=pl) (bK (eD (X:=X) hN hv hd W Z s σ H (λv H'=>v=.ref q/\H'=H) I ⟨_,O,rfl,rfl⟩) λu s1⟨v,H1,I1,rv,d,j⟩=>?_) b;subst d j;obtain rfl:u=Value.ref q:=rv;refine fH I1 eo c hm (by rw[fN aZ m (by rw[<-rk.keys];exact j6 ok)];exact rk.valN n) (PySem.W.callWith_K0 (first:=[.ref q]) I1.kM hm.kp ?_);exact y4 (us:=[]) (ws:=[]) F hr hb hs I1 el e hl O o aE.nil .nil M λv u s' H' G2 x a rv P r2 q2=>⟨v,H',a,rv,kk v _ _ x P r2 q2⟩
end
section
variable{H0:Hp}{k:Nat}{x m:Str}{sp:dO}{o e:Expr}{es:#[4]}{t:RE}{tr:RA}{p aU w pos:Pos}{R:(7,Er,#[0])}{C:Addr}{pl:Sem Bool}
def EZ(X:Cx)(k:Nat)(i:Nat)(tr:RA)(R:(7,Er,#[0]))(Y:#[0])(Q:(1,D)):Prop:=∃f sp,(0,Y[i]?,.fr (.adr f))/\uF X.prog X.w X.K X.mg X.base k f sp/\tT sp tr R Y Q
theorem Hs.adr{f:Addr}(hs:#[12])(e:(0,Y[i]?,.fr (.adr f))):(0,σ[i]?,some (.ref f)):=by
 obtain⟨v,O,r⟩:=hs.fr i _ e;simp only[Rep]at r;rw[O,r]
theorem tW(i:Nat)(hr:bT k X.A)(B:∀x Y,R x Y->mj X H0 x Y)(ha:pb X H0 (e::es) tr)
(hN:(0,X.N[i]?,x):=by rfl)(hv:qL X.env.scope x:=by first|exact Or.inl rfl|exact Or.inr (Or.inl rfl)|exact Or.inr (Or.inr rfl))(hd:(23,x):=by decide)(W:#[21]:=by decide)
(he:#[13]:=by rfl)(cU:(28,aU,es):=by rfl):b' X H0 (.Call (.Name x p) (e::es) [] aU) (EZ X k i tr R):=by
 intro Z s σ H Q I⟨Y,G,Qd,hs,⟨f,sp,b,F,M⟩,kk⟩;refine wpAny_Call_Name_kw (bK (eD (X:=X) hN hv hd W Z s σ H (λv H'=>v=.ref f/\H'=H) I ⟨_,hs.adr b,rfl,rfl⟩) λu s1⟨v,H1,I1,rv,b,j⟩=>?_);subst b j;obtain rfl:u=Value.ref f:=rv;exact CK F hr B ha I1 ⟨Y,G,Qd,hs,M,kk⟩ he cU
def y6(C:Addr)(m:Str)(sp:dO)(t:RE)(tr:RA)(R:(7,Er,#[0]))(Y:#[0])(Q:(1,D)):Prop:=t Y λd=>isObj C m d (tr Y λds=>sp (d::ds) (lX Q) λx=>R x Y)
theorem bR(F:fY X.prog X.w X.K X.mg X.base k C m sp)(hr:bT k X.A)(B:∀x Y,R x Y->mj X H0 x Y)(ho:aS X H0 o t)(ha:pb X H0 (e::es) tr)
(iT:#[13]:=by rfl)(cU:(28,pos,es):=by rfl)
(b:eval (31,o,m,e::es,pos) X.env=(do
let p<-eval o X.env
standAt w.atName
let(f,first)<-holding [p] (getMethod p m pl)
callWith pos f first (backTo pos (starEach (e::es) X.env)) (backToKw pos (keywordEach [] X.env))):=by rfl):aS X H0 (31,o,m,e::es,pos) (y6 C m sp t tr R):=by
 obtain⟨f,fd,ps,F,c,hm,hb⟩:=F.ex;intro Z s σ H Q I⟨Y,G,Qd,hs,M,kk⟩;have D:bX X.K H0 t σ H (λv H'=>∃G' d,Nx X.K H0 σ Y G H G' H'/\Rep X.K G' d v/\isObj C m d (tr Y λds=>sp (d::ds) (lX Qd) λx=>R x Y)):=⟨Y,G,_,hs,M,λv H' G' d n r q=>⟨G',d,n,r,q⟩⟩;refine PySem.W.methodCall_KW (pl:=pl) (bK (ho Z s σ H _ I D) λu s1⟨v,H1,I1,rv,G',d,n,r,q⟩=>?_) b;obtain⟨kvs,rfl,ok,hv,q⟩:=pV q;obtain⟨a,T,fs,rfl,ea,l⟩:=pW r n.hs.sub ok hv;obtain rfl:u=Value.ref a:=rv;refine fH I1 ea c hm l ?_;have g:iV X.K H0 tr σ H1 (λvs H'=>∃G2 ds,Nx X.K H0 σ Y G' H1 G2 H'/\aE X.K G2 ds vs/\sp (.obj C kvs::ds) (lX Qd) λx=>R x Y):=⟨Y,G',_,n.hs,q,λvs H' G2 ds P r q=>⟨G2,ds,P,r,q⟩⟩;rw[0,PySem.W.callWith_K (first:=[.ref a]) (h₀:=X.base) I.ok.mod.g9 hm.kp (bK (ha pos Z s1 σ H1 _ I1 g) λus s2⟨vs,H2,h,r2,G2,ds,P,rd,q⟩=>⟨h.kM,?_⟩) iT cU,oQ (X:=X) (us:=.ref a::us) (vs:=.ref a::vs) F hr hb P.hs h (.cons rfl r2) (aE.cons (Rep.mono P.g _ _ r) rd) q (λv G1 r u s' z rv A ok q2=>?_) λx ea s' xd fl=>B x Y xd _ _ _ _ _ _ fl]
 obtain⟨K,d,j,i,y⟩:=P.hs.settled A ok q2;rw[4,v,_,z,rv,kk _ _ _ d ((n.trans P).trans j) i y]
end
abbrev RM:=(7,#[0],(7,D,#[0]))
abbrev I3:=(7,#[0],(7,Bool,#[0]))
inductive CN(K:PySem.W.Frag)(H0:Hp)(t:RM)(σ:L2.St)(H:Hp)(Q:VK):Prop
 |mk(Y:_)(G:_)(Qd:_):#[12]->t Y Qd->(∀v H' G' d T,(11,Hs K H0 σ T G' H',aO G G',Rep K G' d v,Qd d T,Q v H'))->CN K H0 t σ H Q
inductive CO(K:PySem.W.Frag)(H0:Hp)(t:I3)(σ:L2.St)(H:Hp)(Q:(7,Bool,Hp)):Prop
 |mk(Y:_)(G:_)(Qd:_):#[12]->t Y Qd->(∀b H' G' T,Hs K H0 σ T G' H'->aO G G'->Qd b T->Q b H')->CO K H0 t σ H Q
def Le(X:Cx)(H0:Hp)(e:Expr)(t:RM):Prop:=PE X e (CN X.K H0 t)
def CP(X:Cx)(H0:Hp)(e:Expr)(t:I3):Prop:=PT X e (CO X.K H0 t)
section
variable{H0:Hp}{a b e:Expr}{B:RM}{F:RE}{pos R:Pos}{x:Str}{u:I3}{m:RT}{rest:#[4]}
def Lf(i:Nat)(t:RM)(E:bC)(Y:#[0]):Prop:=t Y λd T=>pe i d T E.nx
theorem I5(i:Nat)(hN:X.N.Nodup)(he:Le X H0 e B)(hi:(0,X.N[i]?,x):=by rfl)(hx:Loc X.env.scope x:=by first|exact Or.inl rfl|exact Or.inr rfl)(hs:swapsWith e (some (.Name x R)) pos.line X.env=pure false:=by rfl)
(S:#[20]:=by first|exact .inl rfl|exact .inr rfl|assumption):i8 X H0 (.Assign [.Name x R] e pos) (Lf i B):=
 (46,wC hN hi hx he hs S,g,λv H1 G1 d T h1 s1 r1 q1=>by
  obtain⟨l,e,b,q⟩:=hE q1;obtain⟨G',h',s'⟩:=h1.put e b r1
  exact g.nx _ H1 _ G' h' (s1.trans s') q)
def I7(r2:D->D->(1,(1,D)))(B:RM)(F:RE)(Y:#[0])(Q:(7,Bool,#[0])):Prop:=B Y λx T=>F T λy=>r2 x y λd=>∃k,d=.bl k/\Q k T
theorem CQ{r:R2}(ho:f5 X (compareOp op) r)(h:i7 X.K r r2)(ha:Le X H0 a B)(hb:dJ X H0 b F)(hm:behindInMarks op b=false):CP X H0 (.Compare a [op] [b] pos) (I7 r2 B F):=
 PT.weak (yd ho ha hb hm) (41,k,λv H1 G1 f T h1 s1 r1 q1=>⟨T,G1,_,h1,q1,λv2 H2 G2 l P n q2=>
  h H0 σ T G2 H2 v v2 f l _ _ P.hs (Rep.b P.hs.sub (Rep.mono P.g _ _ r1)) n q2 λv3 A K j d i⟨z,c,e⟩=>by
   subst c
   rw[1,z,by simpa only[Rep]using i,k z A K T d.hs (s1.trans (P.trans d).g) e]⟩)
def NJ(u:I3)(m:RT)(Y:#[0])(Q:(7,Bool,#[0])):Prop:=u Y λx T=>cS x (Q true T) (m T λy=>Q y T)
theorem Lg(ha:CP X H0 a u)(hb:oJ X H0 (.BoolOp .Or (b::rest) pos) m):CP X H0 (.BoolOp .Or (a::b::rest) pos) (NJ u m):=
 PW.pt (PW.weak (Fb ha hb) (41,k,λx H1 G1 T h1 s1 q1=>by
  cases x with
  |false=>replace q1:=q1.no rfl;rw[2,if_neg Bool.false_ne_true,⟨T,G1,_,h1,q1,λy H2 G2 P q2=>k y H2 G2 T P.hs (s1.trans P.g) q2⟩]
  |true=>replace q1:=q1.yes rfl;rw[2,if_pos rfl,k true H1 G1 T h1 s1 q1]))
def NK(u:I3)(i j:RS)(E:bC)(Y:#[0]):Prop:=u Y λk T=>cS k (i E T) (j E T)
theorem Ga{c:Expr}{b1 b2:List Stmt}{i j:RS}(hc:CP X H0 c u)(ha:e3 X H0 b1 i)(hb:e3 X H0 b2 j):i8 X H0 (.If c b1 b2 pos) (NK u i j):=
 (46,Fd hc ha hb,g,λk H1 G1 T h1 s1 q1=>by
  cases k with
  |true=>rw[2,if_pos rfl,⟨T,G1,E,h1,q1.yes rfl,g.mono s1⟩]
  |false=>rw[2,if_neg Bool.false_ne_true,⟨T,G1,E,h1,q1.no rfl,g.mono s1⟩])
end
structure NL(P:Program)(w:World)(K:PySem.W.Frag)(mg:#[11])(base:Heap)(k:Nat)(x:Str)(sp:qJ):Prop where
 ex:(56,aQ P w K mg base (dN P w) k f fd ps (liftM K mg sp),(0,mg x,.ref f),(4,keepIn K (.ref f)))
structure I_(P:Program)(w:World)(K:PySem.W.Frag)(mg:#[11])(base:Heap)(k:Nat)(C:Addr)(m:Str)(sp:qJ):Prop where
 ex:(56,aQ P w K mg base (dN P w) k f fd ps (liftM K mg sp),qI K C,Meth K C m f)
def sx(Y:#[0])(i:Nat)(d:D):#[0]:=match Y[i]? with
 |some (.lk p _)=>Y.set i (.lk p d)
 |_=>Y.set i (.ow d)
section
variable{H0:Hp}{k:Nat}{x m:Str}{sp:qJ}{e:Expr}{es:#[4]}{tr:RA}{p g aU w:Pos}{C:Addr}{pl:Sem Bool}
theorem vH{f:Addr}{ps:#[1]}{d:D}{q:Addr}{l:Sl}(F:aQ X.prog X.w X.K X.mg X.base (dN X.prog X.w) k f fd ps (liftM X.K X.mg sp))(hr:bT k X.A)(hb:Binds X.K fd ps [])(hs:Hs X.K H0 σ Y G H)(I:#[6])
(el:(0,Y[i]?,l))(hm:l.fq)(hl:l=.ow d\/l=.lk q d)(O:(0,σ[i]?,some (.ref q)))(o:Own X.K G H q d)(rd:aE X.K G ds ws)(r:Vals ws us)(M:sp ds d Qd λ_=>False)
(kk:∀v u s' H' G' x d',(11,Inv X Z σ H' s',RelV v u,Hs X.K H0 σ (sx Y i d') G' H',aO G G',Rep X.K G' x v->Qd x d'->Q u s')):(30,call (.ref f) (.ref q::us),Q):=by
 rw[0,wpAny_call (so (new:=λd'=>if l.locked then .lk q d' else .ow d') (σ1:=σ) F hr (λ_ z=>z) hb hs I el hm O o rd r M (λd'=>by rcases hl with rfl|rfl;exact .inl rfl;exact .inr rfl) (λv u s' K H' x d' a rv J b _ L q2=>?_) λx ea s' z=>z.elim),kk v u s' H' K x d' a rv ?_ b L q2];unfold sx;rw[el]
 rcases hl with rfl|rfl<;>exact J
def I'(i:Nat)(sp:qJ)(tr:RA)(Y:#[0])(Q:(7,D,#[0])):Prop:=∃d,pZ Y i d/\tr Y λds=>sp ds d (λx d'=>Q x (sx Y i d')) λ_=>False
theorem CS(i:Nat)(F:NL X.prog X.w X.K X.mg X.base k y sp)(hr:bT k X.A)(ha:pb X H0 es tr)(hg:Gl X y:=by rfl)(j:(23,y):=by decide)
(hN:(0,X.N[i]?,x):=by rfl)(hv:qL X.env.scope x:=by first|exact Or.inl rfl|exact Or.inr (Or.inl rfl)|exact Or.inr (Or.inr rfl))(hd:(23,x):=by decide)(W:#[21]:=by decide)
(he:(51,.Name x g::es,.Name x g,es):=by rfl)(cU:(28,aU,es):=by rfl):Le X H0 (.Call (.Name y p) (.Name x g::es) [] aU) (I' i sp tr):=by
 obtain⟨f,fd,ps,F,hm,hk,t⟩:=F.ex;intro Z s σ H Q I⟨Y,G,Qd,hs,⟨d,h,M⟩,kk⟩;obtain⟨l,q,el,e,hl,O,o⟩:=hs.fq h;refine wpAny_Call_Name_kw (cc I hg hm ?_ j);have m:A2 (Gx i) (iV X.K H0 tr) σ H (λvs H'=>∃G' ds ws,(3,vs,.ref q::ws,Nx X.K H0 σ Y G H G' H',aE X.K G' ds ws/\sp ds d (λx d'=>Qd x (sx Y i d')) λ_=>False)):=⟨_,O,Y,G,_,hs,M,λvs H' G' ds n r q=>⟨G',ds,vs,rfl,n,r,q⟩⟩;refine PySem.W.callWith_K (h₀:=X.base) I.ok.mod.g9 hk (bK (cZ (eD hN hv hd W) ha he aU Z s σ H _ I m) λus s1⟨vs,H1,I1,r,G',ds,ws,b,n,rd,q⟩=>⟨I1.kM,?_⟩) he cU;subst b
 cases r with
 |cons ru r=>
  subst ru;exact vH F hr t n.hs I1 el e hl O (o.mono n.g (by obtain⟨ob,eo,_⟩:=o.soft;rw[2,eo,n.h _ _ eo])) rd r q λv u s' H' G2 x d' a rv h2 c r2 q2=>⟨v,H',a,rv,kk v _ _ x _ h2 (n.g.trans c) r2 q2⟩
def Ja(i:Nat)(C:Addr)(m:Str)(sp:qJ)(tr:RA)(Y:#[0])(Q:(7,D,#[0])):Prop:=∃kvs,pZ Y i (.obj C kvs)/\(4,vF (kvs.map (·.1)))/\(2,cH kvs (.inr m))/\tr Y λds=>sp ds (.obj C kvs) (λx d'=>Q x (sx Y i d')) λ_=>False
theorem Jb(i:Nat)(F:I_ X.prog X.w X.K X.mg X.base k C m sp)(hr:bT k X.A)(ha:pb X H0 (e::es) tr)
(hN:(0,X.N[i]?,x):=by rfl)(hv:qL X.env.scope x:=by first|exact Or.inl rfl|exact Or.inr (Or.inl rfl)|exact Or.inr (Or.inr rfl))(hd:(23,x):=by decide)(W:#[21]:=by decide)
(iT:#[13]:=by rfl)(cU:(28,aU,es):=by rfl)
(b:eval (31,.Name x g,m,e::es,aU) X.env=(do
let p<-eval (.Name x g) X.env
standAt w.atName
let(f,first)<-holding [p] (getMethod p m pl)
callWith aU f first (backTo aU (starEach (e::es) X.env)) (backToKw aU (keywordEach [] X.env))):=by rfl):Le X H0 (31,.Name x g,m,e::es,aU) (Ja i C m sp tr):=by
 obtain⟨f,fd,ps,F,c,hm,hb⟩:=F.ex;intro Z s σ H Q I⟨Y,G,Qd,hs,⟨kvs,h,ok,n,M⟩,kk⟩;obtain⟨l,q,el,D,hl,O,o⟩:=hs.fq h;obtain⟨T,aZ,eo,rk⟩:=id o;refine PySem.W.methodCall_KW (pl:=pl) (bK (eD (X:=X) hN hv hd W Z s σ H (λv H'=>v=.ref q/\H'=H) I ⟨_,O,rfl,rfl⟩) λu s1⟨v,H1,I1,rv,z,j⟩=>?_) b;subst z j;obtain rfl:u=Value.ref q:=rv;refine fH I1 eo c hm (by rw[fN aZ m (by rw[<-rk.keys];exact j6 ok)];exact rk.valN n) ?_;have B:iV X.K H0 tr σ H1 (λvs H'=>∃G2 ds,Nx X.K H0 σ Y G H1 G2 H'/\aE X.K G2 ds vs/\sp ds (.obj C kvs) (λx d'=>Qd x (sx Y i d')) λ_=>False):=⟨Y,G,_,hs,M,λvs H' G2 ds P r q=>⟨G2,ds,P,r,q⟩⟩;refine PySem.W.callWith_K (first:=[.ref q]) (h₀:=X.base) I.ok.mod.g9 hm.kp (bK (ha aU Z s1 σ H1 _ I1 B) λus s2⟨vs,H2,a,r2,G2,ds,P,rd,q⟩=>⟨a.kM,?_⟩) iT cU;exact vH F hr hb P.hs a el D hl O (o.mono P.g (10,eo,P.h _ _ eo)) rd r2 q λv u s' H' K x d' t rv J y A d=>⟨v,H',t,rv,kk v _ _ x _ J (P.g.trans y) A d⟩
end
section
variable{H0:Hp}{nT:Nat}{g:fX}{e:Expr}{pos p p2 c:Pos}
variable{B iter t:Expr}{F:#[4]}{U:Scope}{N':#[1]}{te tel:RE}{tc:RT}
def Jc(nT:Nat)(te:RE)(g:fX)(tc:RT)(tel:RE)(Y:#[0])(Q:(1,D)):Prop:=te Y λd=>∃z:Str,(3,d,.str z,(4,z.cps.all (· <128)),iX g tc tel Y (nj z) (List.replicate nT .un) [] (λT=>Q (.lst T)))
end
def bG(c:Nat)(n:Int):Str:=⟨Array.replicate n.toNat c⟩
theorem vI(c:Nat):∀(n:Nat)(a:Array Nat),(List.replicate n #[c]).foldl (· ++ ·) a=a++Array.replicate n c
 |0,a=>by simp
 |n+1,a=>by
  rw[List.replicate_succ,List.foldl_cons,vI c n,Array.append_assoc]
  congr 1
  apply Array.ext';simp[List.replicate_succ]
theorem E1:f5 X (binaryOp .Mult) (λx y H Q=>∃(c:Nat)(n:Int),(3,x,.str ⟨#[c]⟩,y=.int n,n.natAbs<=100000/\Q (.str (bG c n)) H)):=by
 intro Z s σ H x y v u Q I L N h;obtain⟨c,n,rfl,rfl,hn,q⟩:=h;rw[8];obtain⟨t',rfl⟩:=N;have hl:sizeLine=16777216:=sizeLine_eq;have z:(⟨#[c]⟩:Str).length=1:=rfl;refine PySem.P.mul_str (by simp only[Bool.or_eq_false_iff,decide_eq_false_iff_not];omega) (λh1 _=>?_) (λh1 _=>?_) ?_
 ·rw[z]
  have:(1:Int)<=(2^63-1)/n:=by rw[Int.le_ediv_iff_mul_le #[3]];omega
  omega
 ·rw[z,Nat.one_mul];unfold PySem.Builtin.Str.tooLong;rw[hl];simp only[gt_iff_lt,decide_eq_false_iff_not];omega
 ·by_cases h1:n<1
  ·rw[if_pos h1]
   have e:bG c n=Str.empty:=by unfold bG;rw[show n.toNat=0 by omega];rfl
   rw[e]at q;rw[3,#[2],⟨.str Str.empty,H,I.tok _,⟨_,rfl⟩,q⟩]
  ·rw[if_neg h1]
   by_cases h2:n=1
   ·subst h2
    rw[2,if_pos (by rfl),⟨.str ⟨#[c]⟩,H,I,⟨_,rfl⟩,q⟩]
   ·rw[if_neg (by rw[z];simp[h2])]
    have e:(⟨(List.replicate n.toNat (⟨#[c]⟩:Str).cps).foldl (· ++ ·) #[]⟩:Str)=bG c n:=by
     unfold bG;rw[vI];simp
    rw[2,e,⟨by unfold bG;simp[Str.length,hl];omega,⟨.str (bG c n),H,I.tok _,⟨_,rfl⟩,q⟩⟩]
def CT(x y:D)(Q:(1,D)):Prop:=∃(c:Nat)(n:Int),(3,x,.str ⟨#[c]⟩,y=.int n,n.natAbs<=100000/\Q (.str (bG c n)))
theorem CU:i7 K (λx y H Q=>∃(c:Nat)(n:Int),(3,x,.str ⟨#[c]⟩,y=.int n,n.natAbs<=100000/\Q (.str (bG c n)) H)) CT:=λH0 σ Y G H x y T l Qd Q hs L N h k=>by
 obtain⟨c,n,rfl,rfl,hn,q⟩:=h;exact⟨c,n,L,N,hn,(52,q)⟩
theorem Jd{H0:Hp}{a b:Expr}{B F:RE}{pos:Pos}(ha:dJ X H0 a B)(hb:dJ X H0 b F):aS X H0 (.BinOp a .Mult b pos) (rK CT B F):=uR E1 CU ha hb
def Lh(a:Addr)(ob:Obj)(aZ:(5,Key,V)):It:=
 ⟨λi H=>(0,H a,.cR ob (.dK aZ))/\i<aZ.length,λi H x H'=>∃p q,(3,H p,none,x=.ref p,(0,aZ[i]?,q)/\H'=upd H p (.tup [kV q.1,q.2])),λi H=>(0,H a,.cR ob (.dK aZ))/\aZ.length<=i⟩
theorem xr{ts:#[4]}{k:Nat}{tp:Pos}(a it:Addr)(ob:Obj)(aZ:(5,Key,V)){es:Array DictEntry}(hd:ob.data=.dict es ep):Turn P w K (.Tuple ts k tp) (Lh a ob aZ) [it] it (λi h=>∃ok p,IsItemIter h it a i aZ.length ep ok p)where
 mem:=by simp
 obj:=λi h st b hb=>by
  have e:b=it:=by simpa using hb
  subst e;obtain⟨ok,p,h1⟩:=st;rw[1,_,h1,λv z=>by cases z]
 keep:=λi h h' st k=>by
  obtain⟨ok,p,h1⟩:=st;rw[1,ok,p,k it (by simp) _ h1]
 item:=by
  rw[13];obtain⟨hq,hi⟩:=hg;obtain⟨vs,g,T⟩:=B8 I hq hd;obtain⟨u,hu,ru⟩:=KV.get g (i:=i) (k:=aZ[i].1) (v:=aZ[i].2) (by simp[hi]);have hl:aZ.length=vs.length:=Paired.length g;obtain⟨ok,p,h1⟩:=st;rw[hl]at h1;obtain⟨D,l,R,j,f4,N⟩:=S it (by simp);have fr:(2,H s.heap.objs.size):=I.bH.fresh (Nat.le_refl _);refine wpAny_pyNext_items_item h1 T hu λkey h' d ho O hsz hk=>⟨_,rfl,?_⟩
  have t:it<s.heap.objs.size:=Heap.lt_size h1;refine wpAny_letOwnedTupleGo_items ho λJ Nf Q=>?_
  replace Q:Heap.SameBut it h' J:=Q;have kk:∀b o,b≠it->(0,s.heap.get? b,o)->(0,J.get? b,o):=λb o hb q=>(Q.2 b hb).trans (hk b o hb q)
  have A:∀b u,(0,H b,u)->b≠it:=λb u q z=>by rw[z,D]at q;cases q
  have Ng:(0,J.get? s.heap.objs.size,{cls:=.type "tuple",data:=.seq #[key,u]}):=(Q.2 _ (Nat.ne_of_gt t)).trans O;refine⟨#[14],upd H s.heap.objs.size (.tup [kV aZ[i].1,aZ[i].2]),?_,rfl,⟨_,aZ[i],fr,rfl,by simp[hi],rfl⟩,⟨key,u,(10,hl,Nf)⟩,λb hb=>?_⟩
  ·suffices h:L2.Inv X Z σ (upd H s.heap.objs.size (.tup [kV aZ[i].1,aZ[i].2])) {s with heap:=J,gens:=s.gens,drawn:=s.drawn,toks:=s.toks}from h
   refine I.step (g':=s.gens) (d':=s.drawn) (ch:=[it]) (h':=J) (t':=s.toks) (λb hb=>?_) (λb o _ _ hc M _=>?_) (λb o _ _ hc M _=>⟨o.slots,?_⟩) (λb o hc M n=>?_) (λb o hc M=>⟨o,?_⟩) (λb ys q=>?_) (λb o u' q=>?_) (λb ps q=>⟨#[],?_⟩) (λm hm=>?_) (λb o q=>?_) I.bare
   ·have z:b=it:=by simpa using hb
    subst z;exact⟨j,l,f4,N⟩
   ·exact kk b o (λz=>hc (by simp[z])) M
   ·exact kk b o (λz=>hc (by simp[z])) M
   ·rw[2,aI (Nat.ne_of_lt (Heap.lt_size M)),n]
   ·exact kk b o (λz=>hc (by simp[z])) M
   ·rw[2,aI (aK q fr),q]
   ·rw[2,aI (aK q fr),q]
   ·rw[aI (aK q fr),q];simp
   ·obtain⟨o,es,ep,f,r⟩:=hm
    rw[4,o,es,ep,kk _ o l.symm f,r]
   ·by_cases hb:b=s.heap.objs.size
    ·subst hb
     rw[aM]at q;cases q;exact⟨(15,(8,2)),[key,u],.cons (B7 d) (.cons ru .nil),⟨_,Ng,rfl,_,rfl⟩⟩
    ·rw[aI hb]at q
     refine(I.bH b o q).km (λc v hc z=>?_) (λc z=>?_) (λc ys z=>?_)
     ·rcases hc with y|y
      ·rw[y]at z⊢;exact kk b v (A b _ q) z
      ·exact kk c v (A c _ y) z
     ·rw[2,aI (aK z fr),z]
     ·rw[2,aI (aK z fr),z]
  ·have z:b=it:=by simpa using hb
   subst z;rw[2,aI (Nat.ne_of_lt t),D]
 done:=by
  rw[13];obtain⟨hq,hi⟩:=hg;obtain⟨vs,g,T⟩:=B8 I hq hd;have hl:aZ.length=vs.length:=Paired.length g;obtain⟨ok,p,h1⟩:=st;rw[hl]at h1;obtain⟨D,l,R,j,f4,N⟩:=S it (by simp);exact wpAny_pyNext_items_end (I.ok.hd hc) h1 T (by simp;omega) λh' F=>⟨rfl,I.turned (t':=s.toks) (λb o hb e=>F b o hb e) D l j f4 N⟩
 self:=λ_ _ _ _ _ st h=>by
  obtain⟨ok,p,h1⟩:=st;exact PySem.W.kcp_self h1 h
section
variable{o:Expr}{to:TE}{ts:#[4]}{k:Nat}{tp w aU:Pos}
def Je(S:TE):TI:=λσ H R=>S σ H λx H1=>∃a aZ,x=.ref a/\(((0,H1 a,.dK aZ)/\ ∀ob,R (Lh a ob aZ) (upd H1 a (.cR ob (.dK aZ))))\/ ∃ob,(0,H1 a,.cR ob (.dK aZ))/\R (Lh a ob aZ) H1)
theorem CV(ho:PE X o to)(l:attributeBase o "items" X.env (eval o X.env)=eval o X.env:=by rfl)(c:(4,w.endLine==aU.line):=by rfl):PI X (.Tuple ts k tp) (31,o,"items",[],aU) (Je to):=by
 intro Z s σ H R I h;refine wpAny_Call_method0_late l c (49,ho,x,?_);obtain⟨a,aZ,e,q⟩:=q1;subst e;cases r1;have go:∀(H2:Hp)(ob:Obj),Inv X Z σ H2 s1->(0,H2 a,.cR ob (.dK aZ))->R (Lh a ob aZ) H2->MethodOn X.prog X.w X.A "items" aU (.ref a) [] (λv s1=>(40,X.A,pyIter v,MK X Z σ (.Tuple ts k tp) R,X.xe,s1)) X.xe s1:=λH2 ob i hq q=>by
  obtain⟨O,hz,C,vs,g,o',es,ep,ho,h1,h2,J⟩:=(show bJ X.prog X.w H2 s1.heap a (.cR ob (.dK aZ))from i.bH a _ hq);rw[O]at ho;cases ho;have hl:aZ.length=vs.length:=Paired.length g;have T:s1.heap.DictAt (bx X.prog X.w) a vs ep:=⟨ob,es,O,h1,h2,J⟩;rw[0,⟨"dict", "dict.items",PySem.F.plainAttrs_dict,PySem.F.slot_dict_items,PySem.F.type_dict_items,⟨ob,O,h1.1⟩,λb F=>by cases F;rw[1,ob,O,h1.2.1],Calls.callWith_builtin rfl (PySem.evalArgs_none ?_)⟩,call_meetsIn PySem.F.slot_dict_items ⟨ob,O,h1.1⟩ PySem.F.entry_dict_items (PySem.F.args_dict_items_1 _) (meets_dict_items (bx X.prog X.w) a C) ⟨⟨vs,ob,es,ep,O,h1,h2,J⟩,?_⟩];have kp:∀b o,(0,s1.heap.get? b,o)->(0,(s1.heap.push {cls:=.type "dict_items",data:=.fields #[.ref a]}).get? b,o):=λb o z=>(22,z)
  have f:Inv X Z σ H2 {s1 with heap:=s1.heap.push {cls:=.type "dict_items",data:=.fields #[.ref a]}}:=i.kept (t':=s1.toks) kp;refine wpAny_pyIter_items (knd:=bx X.prog X.w) (v:=s1.heap.objs.size) (d:=a) (kvs:=vs) (ep:=ep) ⟨_,#[15],rfl,rfl⟩ ⟨ob,es,kp _ _ O,h1,h2,J⟩ ?_;rw[<-hl];refine⟨_,[_],_,_,H2,rfl,f.kept (t':=s1.toks) λb o e=>(22,e),xr a _ ob aZ h2,⟨_,_,#[15]⟩,λb hb=>?_,q⟩;have e:b=_:=List.mem_singleton.mp hb;subst e;exact f.uK (Nat.le_refl _) (f.bH.fresh (Nat.le_refl _))
 rcases q with⟨hq,q⟩|⟨ob,hq,q⟩
 ·obtain⟨hz,C,vs,g,ob,es,ep,ho,h1,h2,J⟩:=A9 I1.bH hq
  exact go _ ob (Inv.cR I1 hq ho) aM (q ob)
 ·exact go _ ob I1 hq q
end
section
variable{H0:Hp}{o:Expr}{t:RE}{ts:#[4]}{m:Nat}{tp w aU pos:Pos}{g:RG}{body:List Stmt}{F:RS}
def xt(kvs:(5,Key,D)):List D:=kvs.map λq=>.tup [kD q.1,q.2]
def Li(t:RE)(g:RG)(F:RS)(E:bC)(Y:#[0]):Prop:=t Y λd=>∃kvs,d=.dK kvs/\loop g F {nx:=E.nx,rt:=λ_ _=>False} (xt kvs) Y
theorem bc.at'{K:PySem.W.Frag}{G:Hp}:∀(kvs:(5,Key,D))(aZ:(5,Key,V))(i:Nat)(q:Key×V),bc K G kvs aZ->(0,aZ[i]?,q)-> ∃d,(0,kvs[i]?,(q.1,d))/\Rep K G d q.2
 |[],aZ,i,q,h,e=>by simp only[bc]at h;subst h;simp at e
 |(k,d)::kvs,aZ,i,q,h,e=>by
  simp only[bc]at h;obtain⟨v,r,rfl,h1,h2⟩:=h
  cases i with
  |zero=>simp at e;subst e;rw[1,d,rfl,h1]
  |succ i=>exact bc.at' kvs r i q h2 (by simpa using e)
theorem Src.items{G1:Hp}{ob:Obj}{aZ:(5,Key,V)}(ha:(0,G1 a,.cR ob (.dK aZ)))(rk:bc K G1 kvs aZ):Src K G1 (Lh a ob aZ) (xt kvs):=
 ⟨λi d h s e=>by
  have W:(0,(kvs.map λq=>D.tup [kD q.1,q.2])[i]?,d):=e;rw[List.getElem?_map]at W
  cases f:kvs[i]? with
  |none=>rw[f]at W;cases W
  |some q=>
   rw[f]at W;cases W;have hi:i<aZ.length:=rk.length▸(33,f).1;refine⟨⟨h.sub _ _ (s _ _ ha),hi⟩,λx H'⟨p,j,fr,ex,b,g⟩=>?_⟩;obtain⟨dv,c,rd⟩:=bc.at' _ _ _ _ rk b;cases f.symm.trans c;subst ex g
   exact h.pair fr (Ij _) (Rep.mono s _ _ rd),λh s=>⟨h.sub _ _ (s _ _ ha),by simp[xt,rk.length]⟩⟩
theorem Jf(hp:PassesOwn (model X.prog X.w) X.A X.env X.xe)(hc:(4,X.calm))(ho:aS X H0 o t)(hg:∀H1,wq X H1 (.Tuple ts m tp) g)(hb:∀H1,e3 X H1 body F)
(l:attributeBase o "items" X.env (eval o X.env)=eval o X.env:=by rfl)(c:(4,w.endLine==aU.line):=by rfl)
(hs:∀y,foldedSetIterable (31,o,"items",[],aU) X.env y=pure y:=by intro _;rfl):
i8 X H0 (.For (.Tuple ts m tp) (31,o,"items",[],aU) body [] pos) (Li t g F):=by
 intro Z s σ H D I⟨Y,G,E,h,M,go⟩;have hR:PS X (.For (.Tuple ts m tp) (31,o,"items",[],aU) body [] pos) _:=mY hp hc (CV ho l c) (hg λ_=>none) (hb λ_=>none) hs;have low:∀{G:Hp},aO (λ_=>none) G:=λ{G}b u z=>by cases z
 refine wpAny_mono (hR Z s σ H {nx:=λL H'=>D.nx L H'\/ ∃a aZ,(∃ob,(0,H' a,.cR ob (.dK aZ)))/\(∀o u,X.wx a≠some (.cR o u))/\D.nx L (upd H' a (.dK aZ)),rt:=λ_ _=>False,bk:=λ_ _=>False,ct:=λ_ _=>False} I ⟨Y,G,_,h,M,λv H1 G1 d n r q=>?_⟩) (λf s' q=>?_) λ_ _ z=>z
 ·obtain⟨kvs,rfl,M⟩:=q
  simp only[Rep]at r;obtain⟨a,aZ,rfl,hq,rk⟩:=r;refine⟨a,aZ,rfl,?_⟩
  rcases hq with hq|⟨ob,hq⟩
  ·have ha:(0,H1 a,.dK aZ):=n.hs.sub _ _ hq
   refine .inl ⟨ha,λob=>?_⟩;have h2:=(n.hs.rebase (H1:=λ_=>none) low).KX (ob:=ob) hq rfl;refine fC h2 (.items aM (bc.cR hq _ _ rk)) (aO.refl _) (E:={nx:=E.nx,rt:=λ_ _=>False}) ⟨λL H' T G' h' s' q=>.inr ⟨a,aZ,⟨ob,h'.sub _ _ (s' _ _ aM)⟩,λo u z=>?_,?_⟩,λ_ _ _ _ _ z=>z.elim,λ_ _ _ _ _ _ z=>z.elim,λ_ _ _ _ _ _ z=>z.elim⟩ M
   ·have e0:=I.base.kL a o u z
    rcases h.ex a with⟨y,_⟩|⟨y,j,aj⟩
    ·have:=n.h _ _ e0;rw[ha]at this;cases this
    ·have:=n.h _ _ e0;rw[ha]at this;cases this
   ·have k:(0,G' a,.cR ob (.dK aZ)):=s' _ _ aM
    have i:aO G1 (upd G' a (.dK aZ)):=λb u q=>by
     by_cases hb:b=a
     ·subst hb;rw[hq]at q;cases q;exact aM
     ·rw[2,aI hb,s' b u (10,aI hb,q)]
    exact go.nx _ _ T _ (h'.cK (H0:=H0) k (n.hs.base.trans i)) (n.g.trans i) q
  ·have ha:(0,H1 a,.cR ob (.dK aZ)):=n.hs.sub _ _ hq
   refine .inr ⟨ob,ha,?_⟩;exact fC (n.hs.rebase low) (.items hq rk) (aO.refl _) (E:={nx:=E.nx,rt:=λ_ _=>False}) ⟨λL H' T G' h' s' q=>.inl (go.nx _ _ T G' (h'.rebase (n.hs.base.trans s')) (n.g.trans s') q),λ_ _ _ _ _ z=>z.elim,λ_ _ _ _ _ _ z=>z.elim,λ_ _ _ _ _ _ z=>z.elim⟩ M
 ·cases f with
  |next=>
   obtain⟨L,H',K,q|⟨a,aZ,⟨ob,e⟩,hx,q⟩⟩:=q
   ·exact⟨L,_,K,q⟩
   ·exact⟨L,_,Inv.cK K e hx,q⟩
  |brk=>obtain⟨_,_,_,z⟩:=q;exact z.elim
  |cont=>obtain⟨_,_,_,z⟩:=q;exact z.elim
  |ret u=>obtain⟨_,_,_,_,_,z⟩:=q;exact z.elim
end
section
variable{H0:Hp}{nT:Nat}{pos p p2 tp:Pos}{g:fX}{a1 kx vx:Expr}{ts F:#[4]}{U:Scope}{N':#[1]}{tr:RA}{tk tv:RE}{tc:RT}{m:Nat}
def E2(nT:Nat)(tr:RA)(g:fX)(tc:RT)(tk tv:RE)(Y:#[0])(Q:(1,D)):Prop:=tr Y λds=>D2 ds λxs=>oj g tc tk tv Y (ku 0 xs) (List.replicate nT .un) [] (λkvs=>Q (.dK kvs))
theorem Ag(hu:X.A.units<cLine)(ok:de X U nT N')(d:Gl X "enumerate")(hm:(2,X.mg "enumerate"))(ha:pb X H0 [a1] tr)(hg:∀s3 A C f fp,yI (a_ X U N' s3 A C f fp) H0 nT (.Tuple ts m tp) g)(O:∀s3 A C f fp,nf (a_ X U N' s3 A C f fp) H0 F tc)(P:∀s3 A C f fp,aS (a_ X U N' s3 A C f fp) H0 kx tk)(t:∀s3 A C f fp,aS (a_ X U N' s3 A C f fp) H0 vx tv)(iT:starEach [a1] X.env=[(false,eval a1 X.env)]:=by rfl)
(hs:(43,.Call (.Name "enumerate" p) [a1] [] p2):=by intro _;rfl):b' X H0 (.DictComp kx vx [⟨.Tuple ts m tp,.Call (.Name "enumerate" p) [a1] [] p2,F,0⟩] U pos) (E2 nT tr g tc tk tv):=
 PE.weak (pK (o:=.dK []) (g:=dt X.K H0 nT g) (tc:=liftT X.K H0 tc) (tk:=bX X.K H0 tk) (tv:=bX X.K H0 tv) (.inl rfl) hu ok (yt d hm ha iT) hg O P t hs) (41,k,λvs H1 G1 ds n1 r1 q1=>by
  obtain⟨xs,rfl,q1⟩:=yu q1;simp only[aE]at r1;obtain⟨v,r,rfl,r1,rfl⟩:=r1;rw[16]
  exact⟨a,rfl,⟨ws,n1.hs.sub.seq h2⟩,λD I=>pM n1.hs (.enum h2 J) I q1 λH' G' T N c b e=>k _ H' G' _ N (n1.g.trans c) (n1.h.trans b) e⟩)
end
section
variable{H0:Hp}{nT:Nat}{g:fX}{pos:Pos}
variable{B iter t:Expr}{F:#[4]}{U:Scope}{N':#[1]}{te tel:RE}{tc:RT}
def Ah(i nT:Nat)(te:RE)(g:fX)(tc:RT)(tel:RE)(E:bC)(Y:#[0]):Prop:=Jc nT te g tc tel Y λd=>pe i d Y E.nx
theorem xu{py hB:Pos}(i:Nat)(h:X.N.Nodup)(ok:de X U nT N')(hi:aS X H0 iter te)(hg:∀s3 A C f fp,yI (a_ X U N' s3 A C f fp) H0 nT B g)(O:∀s3 A C f fp,nf (a_ X U N' s3 A C f fp) H0 F tc)(P:∀s3 A C f fp,aS (a_ X U N' s3 A C f fp) H0 t tel)
(hN:(0,X.N[i]?,y):=by rfl)(hx:Loc X.env.scope y:=by first|exact Or.inl rfl|exact Or.inr rfl)(S:(4,X.fn y)\/(0,X.env.scope.names.lookup y,.local):=by first|exact .inl rfl|exact .inr rfl|assumption)
(hs:(43,iter):=by intro _;rfl)(k:swapsWith #[19] (some (.Name y py)) hB.line X.env=pure true:=by rfl):
i8 X H0 (.Assign [.Name y py] #[19] hB) (Ah i nT te g tc tel):=
 (46,oP (g:=dt X.K H0 nT g) (tc:=liftT X.K H0 tc) (tel:=bX X.K H0 tel) ok (IG hi) hg O P hs (ht h hN hx S) k,go,λv H1 G1 d n1 r1 q1=>by
  obtain⟨z,rfl,ha,q2⟩:=q1;have r1:v=.str z:=r1;refine⟨z,r1,ha,λm I=>fD n1.hs .str I q2 λH' G' T N a c j=>?_⟩;obtain⟨l,e,b,q⟩:=hE j;obtain⟨G2,h4,s4,p⟩:=N.settle;obtain⟨K,h5,V⟩:=h4.put e b p
  exact go.nx _ H' _ K h5 (((n1.g.trans a).trans s4).trans V) q)
end
def E3(r r' j:R2)(B F tc l:TE):TT:=λσ H Q=>B σ H λx H1=>F σ H1 λy H2=>r x y H2 λz A=>∃k,z=.bl k/\
 (29,k,tc σ A λu a=>r' y u a λJ b=>∃i,J=.bl i/\(29,i,l σ b λw O=>j u w O λd p=>∃c,d=.bl c/\Q c p,Q false b),Q false A)
section
variable{H0:Hp}{a b c d:Expr}{pos:Pos}
theorem Ai{g i:CmpOp}{r r' j:R2}{B F tc l:TE}(ho:f5 X (compareOp op) r)(f:f5 X (compareOp g) r')(m:f5 X (compareOp i) j)(ha:PE X a B)(hb:PE X b F)(hc:PE X c tc)(hd:PE X d l)
(hm:lastMarks [op,g,i] [b,c,d]=false:=by with_unfolding_all rfl):PT X (.Compare a [op,g,i] [b,c,d] pos) (E3 r r' j B F tc l):=by
 intro Z s σ H Q I h
 refine isTrue_chain (49,ha,x,test_link (bK (hb Z s1 σ H1 _ I1 q1) λu s2⟨y,H2,o,r2,q2⟩=>
  bK (ho Z s2 σ H2 x y v u _ o r1 r2 q2) λd s3⟨z,A,J,M,k,e,G⟩=>?_)) hm
 subst e;cases M;refine wpAny_truthy_bool ?_
 cases k with
 |false=>exact ite_ff ⟨A,J,G⟩
 |true=>
  refine ite_tt (test_link (bK (hc Z s3 σ A _ J G) λt s4⟨y',T,S,p,D⟩=>bK (f Z s4 σ T y y' u t _ S r2 p D) λd' V⟨n,w,K,r5,k2,W,E⟩=>?_));subst W;cases r5;refine wpAny_truthy_bool ?_
  cases k2 with
  |false=>exact ite_ff ⟨w,K,E⟩
  |true=>
   refine ite_tt (test_last (bK (hd Z V σ w _ K E) λC s6⟨y2,O,I6,r6,U⟩=>bK (m Z s6 σ O y' y2 t C _ I6 p r6 U) λL s7⟨R,N,q,r7,k3,P,q7⟩=>?_));subst P;cases r7;exact wpAny_truthy_bool ⟨N,q,q7⟩
variable{B F tc l:RE}
def y7(r2 AD EO:D->D->(1,(1,D)))(B F tc l:RE)(Y:#[0])(Q:(1,Bool)):Prop:=B Y λx=>F Y λy=>r2 x y λz=>DY z λk=>cS k (tc Y λu=>AD y u λz=>DY z λk=>cS k (l Y λw=>EO u w λz=>DY z Q) (Q false)) (Q false)
theorem xv{d:D}{Q:(1,Bool)}(h:DY d Q):∃k,d=.bl k/\Q k:=by
 unfold DY at h
 split at h
 ·rw[1,_,rfl,h]
 ·exact h.elim
theorem vJ{g i:CmpOp}{r r' j:R2}(ho:f5 X (compareOp op) r)(f:f5 X (compareOp g) r')(m:f5 X (compareOp i) j)(h:i7 X.K r r2)(e:i7 X.K r' AD)(n:i7 X.K j EO)(ha:dJ X H0 a B)(hb:dJ X H0 b F)(hc:dJ X H0 c tc)(hd:dJ X H0 d l)
(hm:lastMarks [op,g,i] [b,c,d]=false:=by with_unfolding_all rfl):qR X H0 (.Compare a [op,g,i] [b,c,d] pos) (y7 r2 AD EO B F tc l):=
 PT.weak (Ai ho f m ha hb hc hd hm) (41,k,λv H1 G1 N n1 r1 q1=>⟨Y,G1,_,n1.hs,q1,λv2 H2 G2 t P r2 q2=>
  h H0 σ Y G2 H2 v v2 N t _ _ P.hs (r1.mono P.g P.h) r2 q2 λv3 A K T q x s=>by
   obtain⟨z,rfl,s⟩:=xv s;refine⟨z,by simpa only[Rep]using x,?_⟩
   cases z with
   |false=>rw[2,if_neg Bool.false_ne_true,k _ A K ((n1.trans P).trans q) (s.2 rfl)]
   |true=>
    rw[if_pos rfl];refine⟨Y,K,_,q.hs,s.1 rfl,λv4 J S d4 C p D=>e H0 σ Y S J v2 v4 t d4 _ _ C.hs (r2.mono (q.g.trans C.g) (q.h.trans C.h)) p D λo w V d5 L r5 E=>?_⟩;obtain⟨z,rfl,E⟩:=xv E;refine⟨z,by simpa only[Rep]using r5,?_⟩
    cases z with
    |false=>rw[2,if_neg Bool.false_ne_true,k _ w V ((((n1.trans P).trans q).trans C).trans L) (E.2 rfl)]
    |true=>
     rw[if_pos rfl];refine⟨Y,V,_,L.hs,E.1 rfl,λv6 O G6 d6 u r6 U=>n H0 σ Y G6 O v4 v6 d4 d6 _ _ u.hs (p.mono (L.g.trans u.g) (L.h.trans u.h)) r6 U λv7 I G7 d7 R W y=>?_⟩;obtain⟨z,rfl,y⟩:=xv y
     rw[1,z,by simpa only[Rep]using W,k _ I G7 ((((((n1.trans P).trans q).trans C).trans L).trans u).trans R) y]⟩)
end
section
variable{H0:Hp}{e:Expr}{te:RE}{pos R:Pos}{x:Str}
def X2:JP:=λx y H Q=>∃l b xs zs,(3,x,.ref l,y=.ref b,(0,H l,.lst xs)/\(0,H b,.lst zs)/\(8,xs.length+zs.length)/\Q (.ref l) (upd H l (.lst (xs++zs))))
theorem qY:seqSlot? (.type "list") (dunderI "add")=pure (some (.builtin "list.__iadd__")):=by
 unfold seqSlot?;rw[PySem.F.slot_list_iadd.1];rfl
theorem E4:JQ X .Add X2:=by
 intro Z s σ H x y v u Q I L N h;obtain⟨l,b,xs,zs,rfl,rfl,a,p,hz,q⟩:=h;cases L;cases N;obtain⟨z,its,n,r,hl,e⟩:=I.Hl a;obtain⟨B,m,P,r2,j,W⟩:=I.Hl p;have hsz:(8,its.toArray.size+m.toArray.size):=by rw[List.size_toArray,List.size_toArray];omega
 have f:¬(4,!its.toArray.isEmpty&&Builtin.List.listTooLong (its.toArray.size+m.toArray.size)):=by
  rw[A8 hsz,Bool.and_false];exact Bool.false_ne_true
 have ha:s.TypeIs (.ref l) "list":=⟨_,e,rfl⟩;have hb:s.TypeIs (.ref b) "list":=⟨_,W,rfl⟩;unfold inplaceOp;refine wpAny_holding ?_;have d:fillsInplaceSlot (.type "list") "add" (Operator.Add==.Add)=pure false:=by
  unfold fillsInplaceSlot
  show(typeLookup (.type "list") (dunderI "add")>>=λc=>pure (c.isSome&& !isSeqSlot c))=pure false
  rw[PySem.F.slot_list_iadd.1];rfl
 refine(6,wpAny_typeOf ha (wpAny_bind (wpAny_of_eq d ?_)))
 show wpAny _ _ (29,false,_,_) _ _ _
 rw[if_neg Bool.false_ne_true];rw[0,(6,wpAny_binaryOp1_none (nm:= "add") ha hb noFill_list_add ?_),(6,wpAny_of_eq qY ?_)];rw[0,wpAny_bind (wpAny_rule (call_meets F.slot_list_iadd ha F.entry_list_iadd (F.args_list_iadd_2 _ _) (AutoSeq1.list___iadd___list_list_0 l its.toArray n b m.toArray P f (by rw[List.size_toArray];omega) #[3]) ⟨e,W,?_⟩)),⟨.ref l,_,I.J5 (its':=its++m) a e (by simp) (r.append r2) ?_,rfl,q⟩];rw[List.length_append];omega
theorem sy{α:Type}:∀{xs:List α}{i:Nat}{a:α},(0,xs[i]?,a)->xs.set i a=xs
 |x::xs,0,a,h=>by cases h;rfl
 |x::xs,i+1,a,h=>by rw[List.set_cons_succ,sy (xs:=xs) h]
def Gb(i:Nat)(te:RE)(E:bC)(Y:#[0]):Prop:=match Y[i]? with
 |some (.ow (.lst xs))=>te Y λd=>match d with
  | .lst ys=>(8,xs.length+ys.length)/\E.nx (Y.set i (.ow (.lst (xs++ys))))
  |_=>False
 |_=>False
theorem xw(i:Nat)(hN:X.N.Nodup)(he:b' X H0 e te)(hi:(0,X.N[i]?,x):=by rfl)(hx:Loc X.env.scope x:=by first|exact Or.inl rfl|exact Or.inr rfl)
(S:#[20]:=by first|exact .inl rfl|exact .inr rfl|assumption):i8 X H0 (.AugAssign (.Name x R) .Add e pos) (Gb i te):=
 PS.weak (AN hN hi hx he E4 S) λD σ H⟨Y,G,E,hs,M,g⟩=>by
  unfold Gb at M
  split at M
  ·rename_i xs e0
   obtain⟨q,O,vs,h1,h2⟩:=hs.ow i _ e0;refine⟨.ref q,O,Y,G,_,hs,M,λv H1 G1 d n1 a f q1=>?_⟩
   cases d with
   |lst ys=>
    obtain⟨b,W,ws,g1,g2⟩:=n1.ow 0 _ rfl;cases W;obtain⟨q',j,k,h,c⟩:=n1.ow (i+1) _ e0;rw[List.getElem?_cons_succ,O]at j;cases j;obtain⟨G',h',s',r'⟩:=n1.settle;refine⟨q,b,k,ws,rfl,rfl,h,g1,by rw[<-c.length,<-g2.length];exact q1.1,?_⟩
    show D.nx (σ.set i (some (.ref q))) _
    rw[2,sy O,g.nx _ _ _ G' (h'.write (d':=.lst (xs++ys)) e0 O ⟨_,aM,aE.append (aE.mono s' _ _ c) (aE.mono s' _ _ g2)⟩) (a.trans s') q1.2]
   |_=>exact q1.elim
  ·exact M.elim
end
def vK(K:PySem.W.Frag)(p:Addr)(ns:List Int):Prop:=∃(o:Obj)(its:Array Value)(n:Nat),(0,K.lookup p,o)/\o.cls=.type "tuple"/\(3,o.data,.seq its n,(8,its.size),Vals (ns.map V.int) its.toList)
section
variable{H0:Hp}{es:#[4]}{gs:rP}{pos:Pos}
def Lj(K:PySem.W.Frag)(n:Nat)(gs:rP)(d:D)(Y:#[0])(Q:(1,#[0])):Prop:=∃p ns,(3,d,.adr p,vK K p ns,ns.length=n/\gs (ns.map D.int) Y Q)
theorem Jg{n k:Nat}(hc:(4,X.calm))(h:qT X H0 es gs)(hn:(assignEach es X.env).length=n:=by rfl)(iT:(2,(assignEach es X.env).findIdx? (·.1)):=by rfl):wq X H0 (.Tuple es k pos) (Lj X.K n gs):=
 PG.weak (wB (n:=n) hc h hn iT) λv σ H Q⟨Y,G,d,Qd,hs,r,⟨p,ns,e,O,hl,hq⟩,k⟩=>by
  subst e;simp only[Rep]at r;subst r;exact⟨p,ns.map V.int,rfl,.inr O,(10,List.length_map,hl),Y,G,ns.map D.int,Qd,hs,aE.ints ns,hq,k⟩
end
theorem vL{xs ys:List α}(h:xs.Perm ys)(hl:ys.length<2):xs=ys:=by
 cases ys with
 |nil=>exact h.eq_nil
 |cons y ys=>
  cases ys with
  |nil=>exact List.perm_singleton.mp h
  |cons z ys=>simp at hl;omega
theorem kU(hl:vs.length<2):w6 X.K H vs ds (λ_=>True) X:=λA σ Z s its I rv E Q k=>by
 have h1:=rv.length;exact oh (by simp;omega) E Q λst tk hp S _=>k st tk hp S λ_ _ _=>trivial
theorem tX{L:(5,D,V)}(hl:vs.length<2)(hp:L.Perm ((List.replicate vs.length D.bu).zip vs)):L.map (·.2)=vs:=by
 rw[vL hp (by simp;omega)];exact List.map_snd_zip (by simp)
def y8(K:PySem.W.Frag)(xs:List V)(H:Hp)(Q:VK):Prop:=∃vs:List V,vs.length<2/\((∃l,xs=[.ref l]/\c_ K H l vs)\/(∃a aZ,(3,xs,[.ref a],Rd H a (.dK aZ),vs=aZ.map λq=>kV q.1)))/\ ∀p,(2,H p)->Q (.ref p) (upd H p (.lst vs))
theorem tY(hc:(4,X.calm)):eZ X (.builtin "sorted") (y8 X.K):=by
 intro Z s σ H xs us Q I r h;obtain⟨vs,hv,h,q⟩:=h
 rcases h with⟨l,rfl,hl⟩|⟨a,aZ,rfl,ha,rfl⟩
 ·cases r with
  |cons r1 r2=>
   cases r2;cases(show _=Value.ref l from r1);refine tG (ds:=List.replicate vs.length D.bu) I hl (by simp) (kU hv) λa L hn hp hR=>?_
   rw[2,tX hv hp,q a hn]
 ·cases r with
  |cons r1 r2=>
   cases r2;cases(show _=Value.ref a from r1);obtain⟨hz,C,ws,g,hd⟩:=iU I.bH ha;obtain⟨ep,d⟩:=hd.dictAt;have c:aZ.length=ws.length:=Paired.length g;refine kP (ds:=List.replicate (aZ.map λq=>kV q.1).length D.bu) (vs:=aZ.map λq=>kV q.1) (by simp) (by rw[List.length_map];omega) (λA Q' w b k=>tL C d (b.trans (I.ok.hd hc)) #[3] λits h' tk kp hl N=>k its _ (I.kept (t':=tk) kp) (zR g its hl N)) (kU hv) λa L hn hp hR=>?_
   rw[2,tX hv hp,q a hn]
def xx(ds:List D)(Q:(1,D)):Prop:=match ds with
 |[.lst xs]=>xs.length<2/\Q (.lst xs)
 |[.dK kvs]=>kvs.length<2/\Q (.lst (kvs.map λq=>kD q.1))
 |_=>False
theorem CW:Kv K (y8 K) xx:=λH0 σ Y G H vs ds Qd Q hs r h k=>by
 unfold xx at h
 split at h
 ·obtain⟨hl,q⟩:=h
  rw[18];exact⟨ws,(26,J.length,hl),.inl ⟨a,rfl,h2⟩,λp hp=>k _ _ G (.lst _) (hs.fresh hp ⟨_,aM,J⟩) (aO.refl _) (bO hp) q⟩
 ·obtain⟨hl,q⟩:=h
  rw[18];have e:=J.keys;refine⟨_,?_,.inr ⟨a,ws,rfl,h2,rfl⟩,λp hp=>k _ _ G (.lst _) (hs.fresh hp ⟨_,aM,?_⟩) (aO.refl _) (bO hp) q⟩
  ·have:=congrArg List.length e
   simp at this⊢;omega
  ·have O:∀ks:List Key,aE K G (ks.map kD) (ks.map kV):=λks=>by
    induction ks with
    |nil=>simp[aE]
    |cons k ks ih=>exact aE.cons (by cases k<;>simp[kD,kV,Rep]) ih
   have:=O (ws.map (·.1));rw[<-e,List.map_map,e,List.map_map]at this;exact this
 ·exact h.elim
section
variable{H0:Hp}{e:Expr}{es:#[4]}{tr:RA}{pos p:Pos}
theorem tZ(hc:(4,X.calm))(hm:(2,X.mg "sorted"))(ha:jc X H0 (e::es) tr)(hg:Gl X "sorted":=by rfl)
(he:#[13]:=by rfl)(cU:(28,pos,es):=by rfl):b' X H0 (.Call (.Name "sorted" p) (e::es) [] pos) (uT xx tr):=
 PE.weak (o6 (tY hc) hg hm rfl ha #[2] #[2] he cU) (uU CW)
end
def Jh(mg:#[11])(base:Heap)(y:Str):Prop:=∃C bm N nm q bs hdct sn sub ab col dd k0 k1 k2 k3 k5 c,(0,mg y,.ref C)/\(0,base.get? C,excClassObj nm q C N bs bm hdct sn sub ab col dd k0 k1 k2 k3 k5 c)/\(4,bm.contains (.type "BaseException"))
theorem Im.has{base:Heap}{C:Addr}(Er:Im K mg base y C bm):Jh mg base y:=by
 obtain⟨B,c,h,f,O⟩:=Er.ex;obtain⟨S,N,nm,qn,bs,hdct,sn,sub,ab,col,dd,k0,k1,k2,k3,k5,mN,hC,hN,d,T⟩:=O.obj;exact⟨_,_,_,_,_,_,_,_,_,_,_,_,_,_,_,_,_,_,O.bound,hC,T.hasType f.hasBase⟩
def Ji(K:PySem.W.Frag)(mg:#[11])(x y:Str):Prop:=∀C C',(0,mg x,.ref C)->(0,mg y,.ref C')->(44,C,C')
theorem cP{x:Str}{C:Addr}(g9:X.K.In X.base)(Er:Im X.K X.mg X.base x C bm)(hy:Jh X.mg X.base y)(n:Ji X.K X.mg x y):F_ X x y:=by
 obtain⟨B,c,h,f,O⟩:=Er.ex;obtain⟨C',m,N',s,q',v,k,D,p,F,o,i,j0,r,H,I,j5,j,G,u,M⟩:=hy;refine⟨C',G,λK w A V ea ob Q E kp ho hc q=>?_⟩;have hm:=n K C' w G;have:K=C:=by
  have:=w.symm.trans O.bound;cases this;rfl
 subst this;obtain⟨S,N,nm,qn,bs,hdct,sn,sub,ab,col,dd,k0,k1,k2,k3,k5,mN,hC,hN,J,T⟩:=O.obj;have l:(Value.ref K::S).contains (.ref C')=false:=by
  unfold PySem.W.mroIn at hm;obtain⟨cd,a,b⟩:=Option.bind_eq_some_iff.mp hm;unfold PySem.W.clsIn at a
  split at a
  ·rename_i e d' P L hl
   have z:=(g9 _ _ hl).symm.trans hC;cases a;cases z
   split at b
   ·cases b
   ·exact Option.some.inj b
  ·cases a
 obtain⟨h5,g,d,t,os⟩:=V;exact qX (kp _ _ hC) (kp _ _ u) ho hc M l q
section
variable{H0:Hp}{nT:Nat}{g:fX}{pos p c:Pos}
variable{B a1 t:Expr}{F:#[4]}{U:Scope}{N':#[1]}{tr:RA}{tel:RE}{tc:RT}
def Aj(i nT:Nat)(tr:RA)(g:fX)(tc:RT)(tel:RE)(E:bC)(Y:#[0]):Prop:=II nT tr g tc tel Y λd=>pe i d Y E.nx
theorem xy{py hB:Pos}(i:Nat)(h:X.N.Nodup)(ok:de X U nT N')(d:Gl X "range")(hm:(2,X.mg "range"))(ha:pb X H0 [a1] tr)(hg:∀s3 A C f fp,yI (a_ X U N' s3 A C f fp) H0 nT B g)(O:∀s3 A C f fp,nf (a_ X U N' s3 A C f fp) H0 F tc)(P:∀s3 A C f fp,aS (a_ X U N' s3 A C f fp) H0 t tel)
(iT:starEach [a1] X.env=[(false,eval a1 X.env)]:=by rfl)(hN:(0,X.N[i]?,y):=by rfl)(hx:Loc X.env.scope y:=by first|exact Or.inl rfl|exact Or.inr rfl)(S:(4,X.fn y)\/(0,X.env.scope.names.lookup y,.local):=by first|exact .inl rfl|exact .inr rfl|assumption)
(hs:(43,.Call (.Name "range" p) [a1] [] c):=by intro _;rfl)(k:swapsWith (.ListComp t [⟨B,.Call (.Name "range" p) [a1] [] c,F,0⟩] U pos) (some (.Name y py)) hB.line X.env=pure true:=by rfl):
i8 X H0 (.Assign [.Name y py] (.ListComp t [⟨B,.Call (.Name "range" p) [a1] [] c,F,0⟩] U pos) hB) (Aj i nT tr g tc tel):=
 (46,oP (g:=dt X.K H0 nT g) (tc:=liftT X.K H0 tc) (tel:=bX X.K H0 tel) ok (zj d hm ha iT) hg O P hs (ht h hN hx S) k,go,λvs H1 G1 ds n1 r1 q1=>by
  obtain⟨j,rfl,⟨h1,h2⟩,q2⟩:=D0 q1;have e:vs=[.int j]:=aE.lQ (ns:=[j]) r1;refine⟨j,e,h1,h2,λm I=>fD n1.hs .Az I q2 λH' G' T N a n r=>?_⟩;obtain⟨l,e,b,q⟩:=hE r;obtain⟨G2,h4,s4,o⟩:=N.settle;obtain⟨K,h5,V⟩:=h4.put e b o
  exact go.nx _ H' _ K h5 (((n1.g.trans a).trans s4).trans V) q)
end
section
def CY(P:Program)(w:World)(xs:List V)(H:Hp)(Q:VK):Prop:=∃(a:Addr)(ps:List (List Int×Addr)),(3,xs,[.ref a],(0,H a,gO P w a ps),ps.length<2/\
 ∀l,(2,H l)->Q (.ref l) (upd H l (.lst (ps.map λp=>V.ref p.2))))
theorem qZ(hc:(4,X.calm)):eZ X (.builtin "sorted") (CY X.prog X.w):=by
 intro Z s σ H xs us Q I r h;obtain⟨a,ps,rfl,ha,hz,q⟩:=h
 cases r with
 |cons r1 r2=>
  cases r2;cases(show _=Value.ref a from r1);obtain⟨b,_,_⟩:=I.bH a _ ha;obtain⟨c,pm,col⟩:=vD b #[3];obtain rfl:=vL pm hz;have hv:(c.map λp=>V.ref p.2).length<2:=(10,List.length_map,hz)
  refine kP (ds:=List.replicate (c.map λp=>V.ref p.2).length D.bu) (vs:=c.map λp=>V.ref p.2) (by simp) (by rw[List.length_map,sizeLine_eq];omega) (λA Q' w g k=>col (g.trans (I.ok.hd hc)) λh' tk kp=>k _ _ (I.kept (t':=tk) kp) (sj c)) (kU hv) λl L hn hp hR=>?_
  rw[2,tX hv hp,q l hn]
end
theorem CZ{ks d:List (List Int)}(nd:d.Nodup)(h:∀k,k∈d↔k∈ks)(hl:ks.length<2):d=ks:=by
 cases ks with
 |nil=>
  cases d with
  |nil=>rfl
  |cons m d=>exact nomatch(h m).mp (.head _)
 |cons k ks=>
  cases ks with
  |cons _ _=>simp at hl;omega
  |nil=>
   have hm:∀m∈d,m=k:=λm hm=>List.mem_singleton.mp ((h m).mp hm)
   cases d with
   |nil=>exact nomatch(h k).mpr (.head _)
   |cons m d=>
    cases d with
    |nil=>rw[hm m (.head _)]
    |cons y d=>
     rw[hm m (.head _),hm y (.tail _ (.head _))]at nd;simp at nd
section
variable{H0:Hp}{e a b:Expr}{te B F:RE}{p p2 g pos c h r:Pos}
def Ak(B F:RE)(Y:#[0])(Q:(1,D)):Prop:=B Y λd=>d=.lst []/\F Y λl=>∃a:List (List Int),(3,l,.lst (a.map tD),a.length<2,Q (.lst (a.map tD)))
theorem xA(hc:(4,X.calm))(hu:X.A.units+9<cLine)(hm:(2,X.mg "sorted"))(w:(2,X.mg "set"))(ha:dJ X H0 a B)(hb:dJ X H0 b F)(hg:Gl X "sorted":=by rfl)(E:Gl X "set":=by rfl)
(he:(51,[a],a,[]):=by rfl)(cU:(28,c,[]):=by rfl)
(e:(51,[b],b,[]):=by rfl)(u:(28,h,[]):=by rfl)
(D:(51,[.BinOp (.Call (.Name "set" p2) [a] [] c) .BitOr (.Call (.Name "set" g) [b] [] h) r],.BinOp (.Call (.Name "set" p2) [a] [] c) .BitOr (.Call (.Name "set" g) [b] [] h) r,[]):=by rfl)(s:(28,pos,[]):=by rfl):
b' X H0 (.Call (.Name "sorted" p) [.BinOp (.Call (.Name "set" p2) [a] [] c) .BitOr (.Call (.Name "set" g) [b] [] h) r] [] pos) (Ak B F):=
 PE.weak (o6 (qZ hc) hg hm rfl (cZ (AU (EW hu) (jX (sh hc hu) E w rfl (cZ ha gj he) #[2] #[2] he cU) (jX (sh hc hu) E w rfl (cZ hb gj e) #[2] #[2] e u)) gj D) #[2] #[2] D s) (41,k,λv H1 G1 d n1 r1⟨W,q⟩=>by
  subst W;obtain⟨l,ws,rfl,h2,J⟩:=r1;obtain⟨R,rfl,tq,ek⟩:=nr (ks:=[]) J;have lq:R.length=0:=by simpa using congrArg List.length ek
  refine⟨l,_,R,rfl,h2,rfl,λx hx=>n1.hs.sub _ _ (tq x hx),#[3],λa1 ps hn mt nd=>?_⟩;obtain⟨P,s2⟩:=n1.hs.laid (o:=gO X.prog X.w a1 ps) hn;refine⟨Y,_,_,P,q,λv2 A K L I N⟨T_,X3,T,q2⟩=>?_⟩;subst X3;obtain⟨l2,n,rfl,g2,C⟩:=N;obtain⟨T',rfl,Ua,Ub⟩:=nr C;have lq2:T'.length=T_.length:=by rw[<-Ub,List.length_map]
  refine⟨l2,_,T',rfl,g2,rfl,λx hx=>I.hs.sub _ _ (Ua x hx),#[3],λa2 Jj t NM nd2=>?_⟩;obtain⟨S,s4⟩:=I.hs.laid (o:=gO X.prog X.w a2 Jj) t;have O:(0,A a1,gO X.prog X.w a1 ps):=I.h _ _ aM;have ne:a1≠a2:=λz=>by rw[z,t]at O;cases O
  have l1:=mt.len;have l2':=NM.len;have i:vE (upd K a2 (gO X.prog X.w a2 Jj)) ps:=λx hx=>s4 _ _ (I.g _ _ (s2 _ _ (tq x (mt.sub x hx))))
  have j:vE (upd K a2 (gO X.prog X.w a2 Jj)) Jj:=λx hx=>s4 _ _ (Ua x (NM.sub x hx))
  refine⟨a1,a2,ps,Jj,rfl,rfl,ne,(10,aI ne,O),aM,λx hx=>S.sub _ _ (i x hx),λx hx=>S.sub _ _ (j x hx),List.eq_nil_of_length_eq_zero #[3],λa3 f m Uc u1 u2 X4=>?_⟩;obtain⟨U,V⟩:=S.laid (o:=gO X.prog X.w a3 f) Uc;have subs:∀x∈f,x∈ps\/x∈Jj:=λx hx=>(u2.sub x hx).imp (λz=>(u1.sub x z).elim (λy=>by cases y) id) id
  have t3:vE (upd (upd K a2 (gO X.prog X.w a2 Jj)) a3 (gO X.prog X.w a3 f)) f:=λx hx=>V _ _ ((subs x hx).elim (i x) (j x))
  have Ud:f.map (·.1)=T_:=CZ X4 (λx=>by rw[u1.keys u2,mt.keys,NM.keys,ek,Ub];simp) T;have X5:f.length<2:=by rw[<-Ud,List.length_map]at T;exact T
  refine⟨a3,f,rfl,aM,X5,λl5 Ue=>?_⟩;rw[<-Ud]at q2;refine k _ _ _ (.lst ((f.map (·.1)).map tD)) (U.fresh Ue ⟨_,aM,?_⟩) (((n1.g.trans s2).trans I.g).trans (s4.trans V)) ((((n1.h.trans (bO hn)).trans I.h).trans (bO t)).trans ((bO Uc).trans (bO Ue))) q2;rw[List.map_map]
  exact yY t3)
end
section
def Lk:R2:=λx y H Q=>∃a b,(3,x,.ref a,y=.ref b,Rd H a (.dK [])/\Rd H b (.dK [])/\Q (.bl false) H)
theorem Jk(hu:X.A.units+64<cLine):f5 X (compareOp .NotEq) Lk:=by
 intro Z s σ H x y v u Q I L N h;obtain⟨a,b,rfl,rfl,ha,hb,q⟩:=h;cases(show v=Value.ref a from L);cases(show u=Value.ref b from N);obtain⟨_,l,vs,rv,o,es,ep,ho,g,k,f,po,no⟩:=iU I.bH ha;obtain⟨_,t,ws,d,M,oH,c,e,m,p,j,n,r⟩:=iU I.bH hb;have l1:es.size=0:=by
  have O:=po.length;have W:=congrArg List.length (KV.keys rv);simp at O W;omega
 have l2:oH.size=0:=by
  have O:=n.length;have W:=congrArg List.length (KV.keys d);simp at O W;omega
 have:=(BG (A:=X.A) (Q:=EP X Z σ Q) (E:=X.xe) ho e g m k p l t j (λ_=>true) #[3] (λi h=>#[3])).2;rw[l1,l2]at this;exact this ⟨.bl _,H,I,rfl,q⟩
def NN(x y:D)(Q:(1,D)):Prop:=(3,x,.dK [],y=.dK [],Q (.bl false))
theorem Jl:i7 K Lk NN:=λH0 σ Y G H x y T l Qd Q hs L N h k=>by
 obtain⟨rfl,rfl,q⟩:=h;obtain⟨a,c,rfl,h1,h2⟩:=L;obtain⟨b,d,rfl,J,h4⟩:=N;simp only[bc]at h2 h4;subst h2 h4;exact⟨a,b,rfl,rfl,h1,J,k _ H G (.bl false) (Nx.refl hs) (by simp only[Rep]) q⟩
end
structure QE(X:Cx)(H0:Hp)(e:Expr)(t:RE):Prop where
 run:aS X H0 e t
structure QB(X:Cx)(H0:Hp)(e:Expr)(t:RE):Prop where
 run:dJ X H0 e t
structure QN(X:Cx)(H0:Hp)(e:Expr)(t:RE):Prop where
 run:b' X H0 e t
structure QT(X:Cx)(H0:Hp)(e:Expr)(t:RT):Prop where
 run:qR X H0 e t
structure QW(X:Cx)(H0:Hp)(e:Expr)(t:RT):Prop where
 run:oJ X H0 e t
structure QA(X:Cx)(H0:Hp)(e:#[4])(t:RA):Prop where
 run:pb X H0 e t
structure QAB(X:Cx)(H0:Hp)(e:#[4])(t:RA):Prop where
 run:jc X H0 e t
structure QAL(X:Cx)(H0:Hp)(i:Nat)(e:#[4])(t:RA):Prop where
 run:JB X H0 i e t
structure QO(X:Cx)(H0:Hp)(e:Option Expr)(t:RO):Prop where
 run:HD X H0 e t
structure QS(X:Cx)(H0:Hp)(e:Stmt)(t:RS):Prop where
 run:i8 X H0 e t
structure LX(X:Cx)(H0:Hp)(e:List Stmt)(t:RS):Prop where
 run:e3 X H0 e t
structure QG(X:Cx)(H0:Hp)(e:Expr)(t:RG):Prop where
 run:wq X H0 e t
structure QGs(X:Cx)(H0:Hp)(e:#[4])(t:rP):Prop where
 run:qT X H0 e t
structure Ug(X:Cx)(H0:Hp)(nT:Nat)(e:Expr)(t:fX):Prop where
 run:yI X H0 nT e t
structure X6(X:Cx)(H0:Hp)(nT:Nat)(e:#[4])(t:w_):Prop where
 run:BX X H0 nT e t
structure Uh(X:Cx)(H0:Hp)(e:#[4])(t:RT):Prop where
 run:nf X H0 e t
namespace U
variable{pos:Pos}{r2:D->D->(1,(1,D))}
section
variable{K:PySem.W.Frag}{H0:Hp}{σ:L2.St}{Y:#[0]}{G G' H H':Hp}{d:D}{v:V}
end
section
variable{X:Cx}{H0:Hp}{e a b c:Expr}{t B F tc:RE}
theorem af(h:QE X H0 e t):QB X H0 e t:=
 ⟨M.aS.bo h.run⟩
theorem ac(h:QN X H0 e t):QE X H0 e t:=
 ⟨M.b'.fx h.run⟩
theorem al(h:QN X H0 e t):QB X H0 e t:=
 ⟨M.b'.bo h.run⟩
theorem ae(i:Nat){x:Str}(hN:(0,X.N[i]?,x):=by rfl)(hv:qL X.env.scope x:=by first|exact Or.inl rfl|exact Or.inr (Or.inl rfl)|exact Or.inr (Or.inr rfl))(hd:(23,x):=by decide)(W:#[21]:=by decide):QE X H0 (.Name x pos) (Hz i):=
 ⟨M.ay i hN hv hd W⟩
theorem ah(i:Nat){x:Str}(hN:(0,X.N[i]?,x):=by rfl)(hv:qL X.env.scope x:=by first|exact Or.inl rfl|exact Or.inr (Or.inl rfl)|exact Or.inr (Or.inr rfl))(hd:(23,x):=by decide)(W:#[21]:=by decide):QB X H0 (.Name x pos) (uQ i):=
 ⟨M.aG i hN hv hd W⟩
theorem ai{i:Int}{j:Nat}:QE X H0 (.Constant (.int i) j pos) (rC (.int i)):=
 ⟨M.aX⟩
theorem ag{x:Str}{j:Nat}:QE X H0 (.Constant (.str x) j pos) (rC (.str x)):=
 ⟨M.bb⟩
theorem as{op:CmpOp}{r:R2}(ho:f5 X (compareOp op) r)(h:i7 X.K r r2)(ha:QB X H0 a B)(hb:QB X H0 b F)(hm:behindInMarks op b=false):QE X H0 (.Compare a [op] [b] pos) (rK r2 B F):=
 ⟨M.lR ho h ha.run hb.run hm⟩
theorem am(ha:QB X H0 a B)(hb:QB X H0 b F):QE X H0 (.BinOp a .Add b pos) (rK (yk λi j=>.int (i+j)) B F):=
 ⟨M.dQ ha.run hb.run⟩
theorem an(ha:QB X H0 a B)(hb:QB X H0 b F):QE X H0 (.BinOp a .FloorDiv b pos) (rK (dI M' λi j=>.int (i/j)) B F):=
 ⟨M.Bl ha.run hb.run⟩
end
section
variable{X:Cx}{H0:Hp}{e a b c:Expr}{t B F tc:RE}{u f m:RT}{rest:#[4]}
variable{es:#[4]}{tr:RA}
theorem ab:QA X H0 [] zy:=
 ⟨M.aC⟩
theorem aa(ha:QE X H0 e t)(hr:QA X H0 es tr)(hs:#[13]:=by rfl):QA X H0 (e::es) (rN t tr):=
 ⟨M.ax ha.run hr.run hs⟩
theorem ad(h:QA X H0 es tr):QN X H0 (.List es pos) (Fx tr):=
 ⟨M.bE h.run⟩
variable{lo hi:Option Expr}{S c:RO}{p2:Pos}
end
section
variable{X:Cx}{H0:Hp}{e:Expr}{t:RE}{lo hi:Option Expr}{S c:RO}{p2:Pos}
end
section
variable{X:Cx}{H0:Hp}{e tg:Expr}{te:RE}{st:Stmt}{rest b1 b2:List Stmt}{t u:RS}{c:Expr}{tc:RT}{R:Pos}{x:Str}
theorem aj(h1:QS X H0 st t)(h2:LX X H0 rest u):LX X H0 (st::rest) (ft t u):=
 ⟨M.aB h1.run h2.run⟩
theorem aq(h1:QS X H0 st t):LX X H0 [st] t:=
 ⟨M.aJ h1.run⟩
theorem ar(he:QE X H0 e te):QS X H0 (.Return (some e) pos) (HE te):=
 ⟨M.bq he.run⟩
theorem ak(i:Nat)(hN:X.N.Nodup)(he:QE X H0 e te)(hi:(0,X.N[i]?,x):=by rfl)(hx:Loc X.env.scope x:=by first|exact Or.inl rfl|exact Or.inr rfl)(hs:swapsWith e (some (.Name x R)) pos.line X.env=pure false:=by rfl)(S:#[20]:=by first|exact .inl rfl|exact .inr rfl|assumption):QS X H0 (.Assign [.Name x R] e pos) (HG i te):=
 ⟨M.bt i hN he.run hi hx hs S⟩
variable{es:#[4]}{g:RG}{gs:rP}
variable{iter:Expr}{body:List Stmt}{F:RS}
section
variable{K:PySem.W.Frag}{G1:Hp}{a:Addr}{ws:List V}{xs:List D}
end
end
section
variable{X:Cx}{H0:Hp}{e tg:Expr}{te:RE}{st:Stmt}{R:Pos}{x:Str}{es:#[4]}{g:RG}{gs:rP}{iter:Expr}{body:List Stmt}{F:RS}
variable{tr:RA}{a1 a2:Expr}
end
section
variable{P:Program}{w:World}{K:PySem.W.Frag}{mg:#[11]}{base:Heap}
theorem ao{x g:Str}{st:Stmt}{f:Addr}{fd:FuncData}{N ps:#[1]}{k:Nat}{sp:cN}(F:(12,x,g,st))(S:aH N ps (az st))(len:∀ds Qd,sp ds Qd->ds.length=ps.length)(c:∀(j:Value)(A:Around)(outer:List Env)(s:Shared)(H:Hp)(E:XK),bT k (A.deeper (envOfC g (az st) s.heap.objs.size f j))-> ∀ds Qd,sp ds Qd->
∃t,LX (gk cy P w K mg base N g (az st) f j A outer s H E).Fc H (c1 st) t/\t {nx:=λ_=>Qd (.val .bu),rt:=λr _=>Qd r} (m7 N ds)):aQ P w K mg base cy (k+1) f fd ps (aV K sp):=
 M.bf F S len λj A outer s H E hr ds Qd h=>let⟨t,a,b⟩:=c j A outer s H E hr ds Qd h;⟨t,a.run,b⟩
end
section
variable{X:Cx}{H0:Hp}{Z:#[9]}{σ σ1:L2.St}{Y:#[0]}{G H:Hp}{s:Shared}
end
section
variable{X:Cx}{H0:Hp}{k:Nat}{x:Str}{sp:cN}{e:Expr}{es:#[4]}{tr:RA}{p:Pos}
end
section
variable{prog:Program}{w:World}{A:Around}{E:#[8]}
end
section
variable{X:Cx}{H0:Hp}{es:#[4]}{gs:rP}
end
section
variable{X:Cx}{H0:Hp}
variable{ts:#[4]}{k:Nat}{tp p c:Pos}{a:Expr}{tr:RA}{g:RG}{F:RS}{body:List Stmt}
end
section
variable{X:Cx}{H0:Hp}{e:Expr}{t:RE}{p:Pos}{es:#[4]}{tr:RA}{x:Str}{id T:String}
variable{r:List V->Hp->(1,VK)}{r2:(7,List D,(1,D))}
end
section
variable{X:Cx}{H0:Hp}{e:Expr}{t:RE}{aU w p:Pos}{x:Str}
end
section
variable{X:Cx}{H0:Hp}{e:Expr}{t:RE}{p p2:Pos}{T:String}{x:Str}
end
section
variable{X:Cx}{H0:Hp}{e:Expr}{es:#[4]}{tr:RA}{p:Pos}
end
section
variable{X:Cx}{H0:Hp}{e:Expr}{te:RE}{R:Pos}{x:Str}
end
section
variable{X:Cx}{H0:Hp}{a b e f value o:Expr}{B F te c:RE}{R w aU p:Pos}{x:Str}
variable{es:#[4]}{tr:RA}
end
section
variable{X:Cx}{H0:Hp}{c:Expr}{body:List Stmt}{tc:RT}{F:RS}
end
section
variable{K:PySem.W.Frag}{H0:Hp}{σ:L2.St}{Y:#[0]}{G H:Hp}
end
section
variable{P:Program}{w:World}{K:PySem.W.Frag}{mg:#[11]}{base:Heap}
end
section
variable{X:Cx}{H0:Hp}{Z:#[9]}{σ:L2.St}{Y:#[0]}{G H:Hp}{s:Shared}
end
section
variable{X:Cx}{H0:Hp}{k:Nat}{x:Str}{sp:AE}{e:Expr}{es:#[4]}{t:RE}{tr:RA}{p:Pos}{i:Nat}
variable{tg:Expr}{g:RG}
end
section
variable{K:PySem.W.Frag}{H0:Hp}{σ:L2.St}{Y:#[0]}{G H H':Hp}
end
section
variable{X:Cx}{H0:Hp}{k:Nat}{fx:Str}{sp:cN}{e:Expr}{te:RE}{p p2 kp:Pos}{S:SR}
end
section
variable{X:Cx}{H0:Hp}{a b e:Expr}{B F:RE}
theorem ap(ha:QB X H0 a B)(hb:QB X H0 b F):QN X H0 (.BinOp a .Add b pos) (FP B F):=
 ⟨M.yB ha.run hb.run⟩
variable{x:Str}{p w aU:Pos}
end
section
variable{prog:Program}{w:World}{A:Around}{E:#[8]}{s:Shared}
end
section
variable{X:Cx}{Z:#[9]}{σ:L2.St}{H:Hp}{s:Shared}
end
section
variable{X:Cx}{H0:Hp}{e:Expr}{es:#[4]}{tr:RA}{p:Pos}
end
section
variable{K:PySem.W.Frag}{H0:Hp}{σ:L2.St}{Y:#[0]}{G H:Hp}
end
section
variable{X:Cx}{H0:Hp}{tg:Expr}{g:RG}{body:List Stmt}{F:RS}{p:Pos}{x:Str}
end
section
variable{X:Cx}{Z:#[9]}{σ:L2.St}{H:Hp}{s:Shared}{h':Heap}
end
section
variable{X:Cx}{H0:Hp}
variable{ts:#[4]}{k:Nat}{tp p c:Pos}{a b:Expr}{tr:RA}{g:RG}{F:RS}{body:List Stmt}
end
section
variable{X:Cx}{H0:Hp}{Z:#[9]}{σ:L2.St}{H:Hp}{s:Shared}
variable{e:Expr}{es:#[4]}{tr:RA}{p:Pos}
variable{k i:Nat}{x:Str}{sp:AE}{b1 b2:List Stmt}{t u:RS}{p2 g l:Pos}
end
section
variable{K:PySem.W.Frag}{H0:Hp}{σ:L2.St}{Y:#[0]}{G H:Hp}
end
section
variable{X:Cx}{H0:Hp}{nT:Nat}{x:Str}{e:Expr}{es:#[4]}
theorem av(i:Nat)(eH:i<nT)(hN:X.N.Nodup)(hi:(0,X.N[i]?,x):=by rfl)(hx:Loc X.env.scope x:=by first|exact Or.inl rfl|exact Or.inr rfl)(S:#[20]:=by first|exact .inl rfl|exact .inr rfl|assumption):Ug X H0 nT (.Name x pos) (pH i):=
 ⟨M.a' i eH hN hi hx S⟩
variable{g:fX}{gs:w_}
theorem aw:Uh X H0 [] yJ:=
 ⟨M.cI⟩
variable{B iter t:Expr}{F:#[4]}{U:Scope}{N':#[1]}{te tel:RE}{tc:RT}
theorem au(ok:de X U nT N')(hi:QE X H0 iter te)(hg:∀s3 A C f fp,Ug (a_ X U N' s3 A C f fp) H0 nT B g)(O:∀s3 A C f fp,Uh (a_ X U N' s3 A C f fp) H0 F tc)(P:∀s3 A C f fp,QE (a_ X U N' s3 A C f fp) H0 t tel)(hs:(43,iter):=by intro _;rfl):QN X H0 #[19] (yK nT te g tc tel):=
 ⟨M.fK ok hi.run (λa b c d e=>(hg a b c d e).run) (λa b c d e=>(O a b c d e).run) (λa b c d e=>(P a b c d e).run) hs⟩
end
section
variable{X:Cx}{H0:Hp}{nT:Nat}{g:fX}{B iter t:Expr}{F:#[4]}{U:Scope}{N':#[1]}{te tel:RE}{tc:RT}
end
section
variable{X:Cx}{H0:Hp}{nT:Nat}{g:fX}{B iter kx vx:Expr}{F:#[4]}{U:Scope}{N':#[1]}{te tk tv:RE}{tc:RT}
end
section
variable{X:Cx}{H0:Hp}{o e:Expr}{B te:RE}{w aU:Pos}
end
section
variable{X:Cx}{U:Scope}{N':#[1]}{B iter kx vx:Expr}{F:#[4]}{g:TG}{tc:TT}{tk tv:TE}{nT:Nat}{G:TI}
end
section
variable{X:Cx}{H0:Hp}{nT:Nat}{g:fX}{B iter kx vx:Expr}{F:#[4]}{U:Scope}{N':#[1]}{te tk tv:RE}{tc:RT}
end
section
variable{X:Cx}{H0:Hp}{a b:Expr}{p p2 c:Pos}
end
section
variable{K:PySem.W.Frag}{H0:Hp}{σ:L2.St}{Y:#[0]}{G H G1 H1:Hp}{i:Nat}{d:D}{p:Addr}
end
section
variable{X:Cx}{H0:Hp}{e:Expr}{t:RE}{u:RT}
end
section
variable{X:Cx}{H0:Hp}{x y:Str}{p1 p2 g:Pos}{k:Nat}
variable{f:Str}{sp:cN}{e:Expr}{es:#[4]}{tr:RA}{p:Pos}
end
section
variable{X:Cx}{Z:#[9]}{σ:L2.St}{H:Hp}{s:Shared}{a:Addr}{aZ:(5,Key,V)}{ob:Obj}
end
section
variable{X:Cx}{tg:Expr}
end
section
variable{X:Cx}{H0:Hp}{tg:Expr}{g:RG}{body:List Stmt}{F:RS}{p:Pos}{x:Str}
end
section
variable{prog:Program}{w:World}{A:Around}{E:#[8]}{s:Shared}
end
section
variable{X:Cx}{H0:Hp}{e:Expr}{es:#[4]}{tr:RA}{p:Pos}
end
section
variable{X:Cx}{H0:Hp}{e value:Expr}{te tv:RE}{R aU w p:Pos}{x:Str}
end
section
variable{X:Cx}{H0:Hp}{ts:#[4]}{k:Nat}{tp p p2 c:Pos}{a:Expr}{B:RE}{g:RG}{F:RS}{body:List Stmt}{x:Str}
end
section
variable{K:PySem.W.Frag}{H0:Hp}{σ:L2.St}{Y:#[0]}{G H:Hp}
end
section
variable{X:Cx}{H0:Hp}{e O W:Expr}{t i j:RE}{p1 g:Pos}{k3:Nat}{x:Str}
end
section
variable{X:Cx}{H0:Hp}{f x:Str}{sp:cN}{e:Expr}{es:#[4]}{tr:RA}{k:Nat}{p p1 h:Pos}
end
section
variable{K:PySem.W.Frag}{H0:Hp}{σ:L2.St}{Y:#[0]}{G H:Hp}{i k g:Nat}{q:Addr}{ds:List D}{y:D}
end
section
variable{X:Cx}{H0:Hp}{e:Expr}{t:RE}{u:RT}
end
section
variable{X:Cx}{H0:Hp}{e:Expr}{te:RE}{aU w p ps pk:Pos}{x:Str}{kc:Nat}
end
section
variable{X:Cx}{H0:Hp}{f x:Str}{sp:cN}{e:Expr}{es:#[4]}{tr:RA}{k:Nat}{p p1 h:Pos}
end
section
variable{X:Cx}{H0:Hp}{e a:Expr}{te B:RE}{R aU w p p2 g l h p6:Pos}{x f:Str}{j:Nat}
end
end U
open PySem PySem.Spec PyProof.Rows L2
structure QM(X:Cx)(H0:Hp)(e:Expr)(t:RM):Prop where
 run:Le X H0 e t
structure QTM(X:Cx)(H0:Hp)(e:Expr)(t:I3):Prop where
 run:CP X H0 e t
structure QJ(X:Cx)(H0:Hp)(e:#[4])(t:RJ):Prop where
 run:Eu X H0 e t
structure QH(X:Cx)(H0:Hp)(hs:List ExceptHandler)(x:Er)(t:RS):Prop where
 run:PH X H0 hs x t
namespace U
section
variable{P:Program}{w:World}{K:PySem.W.Frag}{mg:#[11]}{base:Heap}{N:#[1]}{g:Str}{U:Scope}{f:Addr}{cd:Value}{A:Around}{outer:List Env}{s s1:Shared}{H H1:Hp}{E:XK}{Z:#[9]}{σ:L2.St}
end
section
variable{X:Cx}{H0:Hp}{es:#[4]}{e:Expr}{te:RE}{g:RJ}{c:Str}{pos:Pos}{j:Nat}
theorem dH:QJ X H0 [] KY:=
 ⟨M.dH⟩
theorem cg(h:QJ X H0 es g)(hc:c.length<=2000:=by decide):QJ X H0 (.Constant (.str c) j pos::es) (KZ c g):=
 ⟨M.cg h.run hc⟩
theorem cD(he:QE X H0 e te)(h:QJ X H0 es g):QJ X H0 (.FormattedValue e (-1) none pos::es) (K0 te g):=
 ⟨M.cD he.run h.run⟩
theorem cJ{O W:Expr}(h:QJ X H0 (O::W::es) g)(hl:(8,2000*(O::W::es).length):=by decide):QE X H0 (.JoinedStr (O::W::es) pos) (F0 g):=
 ⟨M.cJ h.run hl⟩
end
section
variable{X:Cx}{H0:Hp}{x:Str}{C:Addr}{bm:#[5]}{e:Expr}{es:#[4]}{tr:RA}{J aU pos:Pos}{R:Prop}
end
section
variable{X:Cx}{H0:Hp}{Z:#[9]}{σ:L2.St}{Y:#[0]}{G H:Hp}{x:Er}{y:Str}{ea:Addr}{s':Shared}{b:Stmt}{d:List Stmt}{J a:Pos}{rest:List ExceptHandler}{Q:(18,Flow)}
end
section
variable{X:Cx}{H0:Hp}{k:Nat}{f y:Str}{sp:dO}{e:Expr}{es:#[4]}{tr:RA}{p J aU h a pos:Pos}{b:Stmt}{d:List Stmt}{F:RS}
end
section
variable{X:Cx}{H0:Hp}{k:Nat}{f y c n:Str}{sp:dO}{e:Expr}{es:#[4]}{tr:RA}{p J aU h a pos:Pos}{b:Stmt}{d:List Stmt}{F:Addr->RS}{i:Nat}
end
section
variable{X:Cx}{H0:Hp}{ea C:Addr}{ob:Obj}{e:Expr}{te:RE}{c:Str}{T:String}{C':Addr}{b:Bool}{p p2 pos:Pos}
end
section
variable{P:Program}{w:World}{K:PySem.W.Frag}{mg:#[11]}{base:Heap}{N:#[1]}{g:Str}{U:Scope}{f:Addr}{cd:Value}{A:Around}{outer:List Env}{s:Shared}{H:Hp}{E:XK}{x:Er}
end
section
variable{X:Cx}{H0:Hp}{k:Nat}{f:Str}{sp:dO}{e:Expr}{es:#[4]}{tr:RA}{p aU:Pos}{R:(1,Er)}
end
section
variable{X:Cx}{H0:Hp}{g:Str}{tab:(5,Str,Addr)}{e a:Expr}{te B:RE}{J pos c:Pos}
end
section
variable{X:Cx}{Z:#[9]}{σ:L2.St}{H:Hp}{s:Shared}{a:Addr}{aZ:(5,Key,V)}{ob:Obj}
end
section
variable{X:Cx}{tg:Expr}
end
section
variable{X:Cx}{H0:Hp}{tg:Expr}{g:RG}{body:List Stmt}{F:RS}{pos p:Pos}{x:Str}
end
section
variable{X:Cx}{H0:Hp}{nT:Nat}{g:fX}{e:Expr}{pos p2:Pos}
variable{B iter t:Expr}{F:#[4]}{U:Scope}{N':#[1]}{te tel:RE}{tc:RT}
end
section
variable{X:Cx}{H0:Hp}{a b e o:Expr}{es:#[4]}{B F te to:RE}{tr:RA}{g:RJ}{pos p w aU p2:Pos}
end
section
variable{X:Cx}{H0:Hp}{e:Expr}{te:RE}{lo hi:Option Expr}{S c:RO}{pos p2:Pos}
end
section
variable{X:Cx}{H0:Hp}{nT:Nat}{g1 g2:fX}{te a tel:RE}{pos:Pos}{t i i1 j i2:Expr}{U:Scope}{N':#[1]}
end
section
variable{X:Cx}{H0:Hp}{e a:Expr}{es:#[4]}{tr:RA}{te:RE}{pos p:Pos}
end
section
variable{X:Cx}{U:Scope}{N':#[1]}{t i i1 j i2:Expr}{pos:Pos}{g1 g2:TG}{G:TI}{tel:TE}{nT:Nat}
end
section
variable{X:Cx}{H0:Hp}{nT:Nat}{g1 g2:fX}{te a tel:RE}{pos:Pos}{t i i1 j i2:Expr}{U:Scope}{N':#[1]}
end
section
variable{X:Cx}{H0:Hp}{e:Expr}{es:#[4]}{tr:RA}{pos p:Pos}
end
section
variable{X:Cx}{H0:Hp}{e value:Expr}{te tv:RE}{pos R aU w p:Pos}{x:Str}
end
section
variable{X:Cx}{H0:Hp}{nT:Nat}{pos:Pos}{g:fX}{B t:Expr}{F:#[4]}{U:Scope}{N':#[1]}{tel:RE}{tc:RT}
end
section
variable{X:Cx}{H0:Hp}{o e:Expr}{es:#[4]}{te B:RE}{tr:RA}{pos p w aU:Pos}
end
section
variable{X:Cx}{H0:Hp}
variable{ts:#[4]}{k:Nat}{tp p pos c:Pos}{a b:Expr}{tr:RA}{g:RG}{F:RS}{body:List Stmt}
end
section
variable{X:Cx}{H0:Hp}{pos:Pos}{e:Expr}{te:RE}
end
section
variable{X:Cx}{H0:Hp}{a b e o:Expr}{es:#[4]}{B F te:RE}{tr:RA}{lo hi:Option Expr}{S c:RO}{pos p p2 w aU:Pos}
end
section
variable{X:Cx}{H0:Hp}{tg iter e o:Expr}{te B:RE}{g:RG}{F:RS}{body:List Stmt}{pos w aU:Pos}
end
section
variable{X:Cx}{H0:Hp}
variable{ts:#[4]}{k:Nat}{tp p pos c:Pos}{a b:Expr}{tr:RA}{g:RG}{F:RS}{body:List Stmt}
end
section
variable{X:Cx}{H0:Hp}{k:Nat}{f y c n xn:Str}{sp:dO}{e:Expr}{es:#[4]}{tr:RA}{p J aU h a pos g:Pos}{b:Stmt}{d:List Stmt}{F:Addr->RS}{i j:Nat}
end
section
variable{X:Cx}{H0:Hp}{k:Nat}{x:Str}{sp:cN}{p pos:Pos}
end
section
variable{X:Cx}{o e value:Expr}{f:Str}{pos R b:Pos}{B tv:TE}
end
section
variable{X:Cx}{H0:Hp}{C f:Addr}{k:Nat}{fd:FuncData}{ps:#[1]}{sp:Sp}{x:Str}{e:Expr}{es:#[4]}{tr:RA}{te:RE}{p pos:Pos}{bm:#[5]}
variable{c:Str}{C':Addr}{Ty:String}{p2:Pos}{T:(7,Addr,Bool)}
end
section
variable{X:Cx}{H0:Hp}{nT:Nat}{g:fX}{e a1:Expr}{pos p p2 c:Pos}
variable{B iter t:Expr}{F:#[4]}{U:Scope}{N':#[1]}{te tel:RE}{tc:RT}{tr:RA}
end
section
variable{prog:Program}{w:World}{A:Around}{E:#[8]}{s:Shared}{d it:Addr}{es:Array DictEntry}{ep i:Nat}
end
section
variable{X:Cx}{H0:Hp}{e:Expr}{es:#[4]}{tr:RA}{pos p:Pos}
end
section
variable{X:Cx}{H0:Hp}{C:Addr}{o value:Expr}{f:Str}{t tv:RE}{pos R:Pos}
end
section
variable{X:Cx}{H0:Hp}{k:Nat}{C:Addr}{m:Str}{sp:cN}{o e:Expr}{es:#[4]}{t:RE}{tr:RA}{w pos:Pos}{pl:Sem Bool}
end
section
variable{K:PySem.W.Frag}{H0:Hp}{σ:L2.St}{Y:#[0]}{G H:Hp}
end
section
variable{P:Program}{w:World}{K:PySem.W.Frag}{mg:#[11]}{base:Heap}{x g:Str}{st:Stmt}{f:Addr}{fd:FuncData}{N ps:#[1]}{k:Nat}{sp:qJ}
end
section
variable{X:Cx}{H0:Hp}{k:Nat}{x:Str}{C:Addr}{sp:qJ}{e:Expr}{es:#[4]}{tr:RA}{p pos:Pos}
end
section
variable{n:Model}{A:Around}{E:#[8]}
variable{nm q s q':Str}{C N C' N':Addr}{bs bm v m:#[5]}{hdct k:Bool}{sn D:#[1]}{sub p:#[5]}{ab F:Bool}{col o:Option Bool}{dd i:Option Addr}{k0 k1 k2 k3 k5 j0 r H I j5:Option Value}{c j:String}
end
section
variable{X:Cx}{H0:Hp}{x:Er}{y n:Str}{b:Stmt}{d:List Stmt}{J a:Pos}{rest:List ExceptHandler}{t:RS}{e:Option Str}{p:List Stmt}
end
section
variable{n:Model}{A:Around}{E:#[8]}{env:Env}
variable{nm q:Str}{C N:Addr}{bs bm:#[5]}{hdct:Bool}{sn:#[1]}{sub:#[5]}{ab:Bool}{col:Option Bool}{dd:Option Addr}{k0 k1 k2 k3 k5:Option Value}{c:String}
end
section
variable{P:Program}{w:World}{K:PySem.W.Frag}{mg:#[11]}{base:Heap}{N:#[1]}{g:Str}{U:Scope}{f:Addr}{cd:Value}{A:Around}{outer:List Env}{s s1:Shared}{H H1:Hp}{E:XK}{Z:#[9]}{σ:L2.St}
end
section
variable{X:Cx}{H0:Hp}{C f:Addr}{k:Nat}{fd:FuncData}{ps:#[1]}{x:Str}{e:Expr}{es:#[4]}{tr:RA}{p pos hB:Pos}{R:(1,List Int)}
end
section
variable{K:PySem.W.Frag}{H0 G1:Hp}{σ:L2.St}{Y:#[0]}{G H H':Hp}{v:V}{r:uD}{E:bC}{D:Ends}
end
section
variable{X:Cx}{Z R:#[9]}{σ:L2.St}{H:Hp}{s:Shared}{H0:Hp}{x:Er}{Y:#[0]}{G:Hp}{ea:Addr}{E:#[8]}
end
section
variable{X:Cx}{H0:Hp}{d:List Stmt}{h₀:ExceptHandler}{y:List ExceptHandler}{pos:Pos}{F:(7,Er,#[0])->RS}
end
section
variable{X:Cx}{H0:Hp}{σ:L2.St}{Y:#[0]}{G H G1:Hp}{v:V}{r:uD}{Q:(1,D)}
end
section
variable{X:Cx}{H0:Hp}{k:Nat}{f:Addr}{sp:dO}{e:Expr}{es:#[4]}{tr:RA}{p aU:Pos}{R:(7,Er,#[0])}{y:Str}{i:Nat}
end
section
variable{X:Cx}{H0:Hp}{k:Nat}{f:Addr}{fd:FuncData}{ps:#[1]}{sp:dO}{Z:#[9]}{σ:L2.St}{Y:#[0]}{G H:Hp}{s:Shared}{i:Nat}{l:Sl}{p:Addr}{C:Addr}{kvs:(5,Key,D)}
end
section
variable{X:Cx}{H0:Hp}{k:Nat}{x y m:Str}{sp:dO}{es:#[4]}{tr:RA}{p g aU w:Pos}{i:Nat}{C:Addr}{pl:Sem Bool}
end
section
variable{X:Cx}{H0:Hp}{k:Nat}{x m:Str}{sp:dO}{o e:Expr}{es:#[4]}{t:RE}{tr:RA}{p aU w pos:Pos}{i:Nat}{R:(7,Er,#[0])}{C:Addr}{pl:Sem Bool}
theorem bR(F:fY X.prog X.w X.K X.mg X.base k C m sp)(hr:bT k X.A)(B:∀x Y,R x Y->mj X H0 x Y)(ho:QE X H0 o t)(ha:QA X H0 (e::es) tr)(iT:#[13]:=by rfl)(cU:(28,pos,es):=by rfl)(b:eval (31,o,m,e::es,pos) X.env=(do
let p<-eval o X.env
standAt w.atName
let(f,first)<-holding [p] (getMethod p m pl)
callWith pos f first (backTo pos (starEach (e::es) X.env)) (backToKw pos (keywordEach [] X.env))):=by rfl):QE X H0 (31,o,m,e::es,pos) (y6 C m sp t tr R):=
 ⟨M.bR F hr B ho.run ha.run iT cU b⟩
end
section
variable{X:Cx}{H0:Hp}{a b e:Expr}{B:RM}{F:RE}{pos R:Pos}{x:Str}{u:I3}{m:RT}{rest:#[4]}
end
section
variable{X:Cx}{H0:Hp}{k:Nat}{x y m:Str}{sp:qJ}{e:Expr}{es:#[4]}{tr:RA}{p g aU w:Pos}{i:Nat}{C:Addr}{pl:Sem Bool}{Z:#[9]}{σ:L2.St}{Y:#[0]}{G H:Hp}{s:Shared}
end
section
variable{X:Cx}{H0:Hp}{nT:Nat}{g:fX}{e:Expr}{pos p p2 c:Pos}
variable{B iter t:Expr}{F:#[4]}{U:Scope}{N':#[1]}{te tel:RE}{tc:RT}
end
section
variable{X:Cx}{H0:Hp}{o:Expr}{t:RE}{ts:#[4]}{m:Nat}{tp w aU pos:Pos}{g:RG}{body:List Stmt}{F:RS}
end
section
variable{X:Cx}{H0:Hp}{nT:Nat}{pos p p2 tp:Pos}{g:fX}{a1 kx vx:Expr}{ts F:#[4]}{U:Scope}{N':#[1]}{tr:RA}{tk tv:RE}{tc:RT}{m:Nat}
end
section
variable{X:Cx}{H0:Hp}{nT:Nat}{g:fX}{pos:Pos}
variable{B iter t:Expr}{F:#[4]}{U:Scope}{N':#[1]}{te tel:RE}{tc:RT}
end
section
variable{X:Cx}{H0:Hp}{a b c d:Expr}{pos:Pos}
variable{B F tc l:RE}
end
section
variable{X:Cx}{H0:Hp}{e:Expr}{te:RE}{pos R:Pos}{x:Str}
end
section
variable{X:Cx}{H0:Hp}{es:#[4]}{gs:rP}{pos:Pos}
end
section
variable{X:Cx}{H0:Hp}{e:Expr}{es:#[4]}{tr:RA}{pos p:Pos}
end
section
variable{X:Cx}{H0:Hp}{nT:Nat}{g:fX}{pos p c:Pos}
variable{B a1 t:Expr}{F:#[4]}{U:Scope}{N':#[1]}{tr:RA}{tel:RE}{tc:RT}
end
section
variable{X:Cx}
end
section
variable{X:Cx}{H0:Hp}{e a b:Expr}{te B F:RE}{p p2 g pos c h r:Pos}
end
end U
end M
namespace My
open PySem L2 M
variable{E:bC}{K:PySem.W.Frag}{Q ct:(1,#[0])}{XP:(7,#[11],Heap)}{a m n:Int}{c:Nat}{cs:List Nat}{ds:List D}{fd:FuncData}{g:Int->Int->Bool}{l:PySem.W.OpenLaw}{mg:#[11]}{ps:#[1]}{rt:(7,uD,#[0])}{us:#[5]}{Y:#[0]}
def top(i:Nat):Stmt:=PySem.Challenge.pw_feastfall_k59_a_new_book.main.body.getD i (.Pass ⟨0,0,0,0⟩)
abbrev Z1b:Stmt:=inClass (top 13) 0
abbrev Z3k:#[1]:=["self", "number", "year", "day"]
abbrev NO:Stmt:=top 15
abbrev X7:#[1]:=["lengths"]
theorem X8:aH X7 ["lengths"] (az NO):=#[7]
abbrev NP:Stmt:=top 16
abbrev X9:#[1]:=["lengths", "year", "day"]
theorem X_:aH X9 ["lengths", "year", "day"] (az NP):=#[7]
abbrev NQ:Stmt:=top 17
abbrev X':#[1]:=["lengths", "year", "day"]
theorem Yn:aH X' ["lengths", "year", "day"] (az NQ):=#[7]
abbrev NR:Stmt:=top 18
abbrev Yq:#[1]:=["lengths", "day", "left", "year", "length"]
theorem Ll:aH Yq ["lengths", "day"] (az NR):=#[7]
abbrev NT:Stmt:=top 20
abbrev Yy:#[1]:=["entry"]
theorem YA:aH Yy ["entry"] (az NT):=#[7]
abbrev NU:Stmt:=top 21
abbrev YB:#[1]:=["entries"]
theorem YC:aH YB ["entries"] (az NU):=#[7]
abbrev NV:Stmt:=top 22
abbrev YD:#[1]:=["rank", "day", "shut"]
theorem YE:aH YD ["rank", "day", "shut"] (az NV):=#[7]
abbrev NW:Stmt:=top 24
abbrev YF:#[1]:=["rank", "day", "shut", "onward", "passed", "gone"]
theorem LY:aH YF ["rank", "day", "shut", "onward"] (az NW):=#[7]
abbrev NX:Stmt:=top 25
abbrev YG:#[1]:=["entry", "shut", "onward", "rank", "number", "year", "way", "own", "day"]
theorem Jm:aH YG ["entry", "shut", "onward"] (az NX):=#[7]
abbrev NY:Stmt:=top 26
abbrev YH:#[1]:=["entries", "shut", "onward", "rows", "entry", "how", "day"]
theorem JF:aH YH ["entries", "shut"] (az NY):=#[7]
abbrev LZ:Stmt:=top 28
abbrev Ui:#[1]:=["rows"]
theorem YI:aH Ui ["rows"] (az LZ):=#[7]
abbrev L0:Stmt:=top 29
abbrev Uj:#[1]:=["rows", "day", "noted"]
theorem Uk:aH Uj ["rows", "day"] (az L0):=#[7]
abbrev L1:Stmt:=top 30
abbrev Ul:#[1]:=["entries", "rows", "day", "ranks", "standing", "this", "that"]
theorem Lm:aH Ul ["entries", "rows", "day"] (az L1):=#[7]
abbrev L3:Stmt:=top 31
abbrev Um:#[1]:=["turn", "number", "year", "before", "after"]
theorem Ln:aH Um ["turn"] (az L3):=#[7]
abbrev NZ:Stmt:=inClass (top 39) 0
abbrev YJ:#[1]:=["self", "years", "feasts", "figures", "seals"]
theorem YK:aH YJ ["self", "years", "feasts", "figures", "seals"] (az NZ):=#[7]
abbrev N0:Stmt:=top 40
abbrev YL:#[1]:=[]
theorem YM:aH YL [] (az N0):=#[7]
abbrev N1:Stmt:=top 41
abbrev YN:#[1]:=["chart", "feasts"]
theorem YO:aH YN ["chart", "feasts"] (az N1):=#[7]
abbrev Z3j:Stmt:=top 42
abbrev Z55:#[1]:=["chart", "seals"]
abbrev L4:Stmt:=top 43
abbrev Uo:#[1]:=["chart"]
theorem YP:aH Uo ["chart"] (az L4):=#[7]
abbrev Lo:Stmt:=top 44
abbrev N2:#[1]:=["chart", "bounds"]
theorem Up:aH N2 ["chart"] (az Lo):=#[7]
abbrev N3:Stmt:=top 45
abbrev YQ:#[1]:=["rule", "day", "first", "length", "anchor", "own"]
theorem Uq:aH YQ ["rule", "day", "first", "length", "anchor"] (az N3):=#[7]
abbrev N4:Stmt:=top 46
abbrev YR:#[1]:=["chart", "entries", "first", "year", "length", "anchor", "number", "feast", "rank", "way", "rule", "day", "since", "until", "own"]
theorem wt:aH YR ["chart"] (az N4):=#[7]
abbrev N5:Stmt:=top 47
abbrev YS:#[1]:=["chart"]
theorem YT:aH YS ["chart"] (az N5):=#[7]
abbrev Zg:Stmt:=top 48
abbrev YU:#[1]:=["length", "anchor"]
theorem Zi:aH YU ["length", "anchor"] (az Zg):=#[7]
abbrev N6:Stmt:=top 49
abbrev YV:#[1]:=["chart", "year"]
theorem YW:aH YV ["chart", "year"] (az N6):=#[7]
abbrev Ze:Stmt:=top 50
abbrev Zj:#[1]:=["chart", "number"]
theorem Zb:aH Zj ["chart", "number"] (az Ze):=#[7]
abbrev N7:Stmt:=top 51
abbrev YX:#[1]:=["rank"]
theorem YY:aH YX ["rank"] (az N7):=#[7]
abbrev N8:Stmt:=top 52
abbrev YZ:#[1]:=["chart", "order", "word", "length", "anchor", "years"]
theorem Lp:aH YZ ["chart", "order"] (az N8):=#[7]
abbrev N9:Stmt:=top 53
abbrev Y3:#[1]:=["chart", "order", "word", "number", "rank", "way", "rule", "day", "since", "until", "least", "most", "feasts"]
theorem AG:aH Y3 ["chart", "order"] (az N9):=#[7]
abbrev N_:Stmt:=top 54
abbrev Y6:#[1]:=["chart", "order", "word", "number", "feasts"]
theorem Oa:aH Y6 ["chart", "order"] (az N_):=#[7]
abbrev Ob:Stmt:=top 55
abbrev Y7:#[1]:=["chart", "order", "word", "number", "rank", "feasts"]
theorem L5:aH Y7 ["chart", "order"] (az Ob):=#[7]
abbrev Oc:Stmt:=top 56
abbrev Y_:#[1]:=["chart", "order", "word", "first", "last", "bound", "figures"]
theorem Lq:aH Y_ ["chart", "order"] (az Oc):=#[7]
abbrev Od:Stmt:=top 57
abbrev Y':#[1]:=["chart", "order", "word", "year", "day", "length", "years"]
theorem L6:aH Y' ["chart", "order"] (az Od):=#[7]
abbrev Oe:Stmt:=top 58
abbrev ZA:#[1]:=["chart", "order", "word", "year"]
theorem Of:aH ZA ["chart", "order"] (az Oe):=#[7]
abbrev Og:Stmt:=top 59
abbrev ZC:#[1]:=["chart", "order", "word", "year"]
theorem Oh:aH ZC ["chart", "order"] (az Og):=#[7]
abbrev Oi:Stmt:=top 61
abbrev ZD:#[1]:=["chart", "order", "change"]
theorem Ur:aH ZD ["chart", "order"] (az Oi):=#[7]
abbrev L7:Stmt:=top 62
abbrev Us:#[1]:=["chart", "turns", "lengths", "turn", "days"]
theorem L8:aH Us ["chart", "turns"] (az L7):=#[7]
abbrev L9:Stmt:=top 64
abbrev Ut:#[1]:=["rows"]
theorem ZE:aH Ut ["rows"] (az L9):=#[7]
abbrev Oj:Stmt:=top 65
abbrev ZF:#[1]:=["names", "befores", "afters", "old", "new", "turns", "number", "year", "before", "after"]
theorem Gd:aH ZF ["names", "befores", "afters"] (az Oj):=#[7]
abbrev L_:Stmt:=top 66
abbrev Uu:#[1]:=["rows"]
theorem ZG:aH Uu ["rows"] (az L_):=#[7]
abbrev Ol:Stmt:=top 67
abbrev ZH:#[1]:=["befores", "afters", "names"]
theorem Uv:aH ZH ["befores", "afters"] (az Ol):=#[7]
abbrev Om:Stmt:=top 69
abbrev ZI:#[1]:=["entries", "number", "year", "entry"]
theorem Uw:aH ZI ["entries", "number", "year"] (az Om):=#[7]
abbrev Z1v:Stmt:=top 70
abbrev Z48:#[1]:=["own", "how", "day"]
abbrev Z9t:Stmt:=top 71
abbrev Zap:#[1]:=["rank", "day", "shut", "standing", "number", "year"]
abbrev Oo:Stmt:=top 72
abbrev ZJ:#[1]:=["entries", "shut", "number", "year", "rank", "way", "own", "rows", "how", "day", "standing"]
theorem JG:aH ZJ ["entries", "shut", "number", "year"] (az Oo):=#[7]
abbrev Oq:Stmt:=top 78
abbrev ZK:#[1]:=["text", "figures"]
theorem Ux:aH ZK ["text"] (az Oq):=#[7]
abbrev Ot:Stmt:=top 79
abbrev ZL:#[1]:=["text", "sort"]
theorem ZM:aH ZL ["text", "sort"] (az Ot):=#[7]
abbrev Ou:Stmt:=top 80
abbrev ZN:#[1]:=["texts", "sorts", "parts", "text", "sort"]
theorem L':aH ZN ["texts", "sorts"] (az Ou):=#[7]
abbrev Ov:Stmt:=top 81
abbrev ZO:#[1]:=["text", "word", "texts"]
theorem Ow:aH ZO ["text"] (az Ov):=#[7]
abbrev Ma:Stmt:=top 82
abbrev Uy:#[1]:=["parts"]
theorem ZP:aH Uy ["parts"] (az Ma):=#[7]
abbrev Ox:Stmt:=top 83
abbrev ZQ:#[1]:=["order"]
theorem ZR:aH ZQ ["order"] (az Ox):=#[7]
abbrev Oy:Stmt:=top 84
abbrev ZS:#[1]:=["place"]
theorem ZT:aH ZS ["place"] (az Oy):=#[7]
abbrev Z65:Stmt:=top 85
abbrev Z7r:#[1]:=["row"]
abbrev Z46:Stmt:=top 86
abbrev Z6b:#[1]:=["turn", "number", "year", "before", "after"]
abbrev Zu:Stmt:=top 87
abbrev Z1h:#[1]:=["reason"]
abbrev Oz:Stmt:=top 89
abbrev ZU:#[1]:=["shut", "found", "day"]
theorem OA:aH ZU ["shut"] (az Oz):=#[7]
abbrev Jn:Stmt:=top 90
abbrev Lr:#[1]:=["chart", "orders"]
theorem Ls:aH Lr ["chart"] (az Jn):=#[7]
abbrev OB:Stmt:=inClass (top 91) 0
abbrev ZV:#[1]:=["self"]
theorem ZW:aH ZV ["self"] (az OB):=#[7]
abbrev OC:Stmt:=inClass (top 91) 1
abbrev ZX:#[1]:=["self", "order", "chart", "laid", "turns"]
theorem Uz:aH ZX ["self", "order"] (az OC):=#[7]
abbrev Zl:Stmt:=inClass (top 91) 2
abbrev ZY:#[1]:=["self"]
theorem Zm:aH ZY ["self"] (az Zl):=#[7]
abbrev OD:Stmt:=inClass (top 91) 3
abbrev ZZ:#[1]:=["self"]
theorem Z_:aH ZZ ["self"] (az OD):=#[7]
abbrev OE:Stmt:=inClass (top 91) 4
abbrev Z':#[1]:=["self"]
theorem Z5g:aH Z' ["self"] (az OE):=#[7]
abbrev Zf:Stmt:=inClass (top 91) 5
abbrev Z1x:#[1]:=["self"]
theorem Z13:aH Z1x ["self"] (az Zf):=#[7]
abbrev OF:Stmt:=inClass (top 91) 6
abbrev Z75:#[1]:=["self"]
theorem Z6p:aH Z75 ["self"] (az OF):=#[7]
abbrev OG:Stmt:=inClass (top 91) 7
abbrev Z61:#[1]:=["self", "number", "year", "place"]
theorem UA:aH Z61 ["self", "number", "year"] (az OG):=#[7]
abbrev OH:Stmt:=inClass (top 91) 8
abbrev Z8g:#[1]:=["self", "year", "day"]
theorem Z6j:aH Z8g ["self", "year", "day"] (az OH):=#[7]
abbrev Zs:Stmt:=inClass (top 91) 9
abbrev Z2c:#[1]:=["self", "year", "day"]
theorem Z11:aH Z2c ["self", "year", "day"] (az Zs):=#[7]
abbrev OI:Stmt:=inClass (top 91) 10
abbrev Z8z:#[1]:=["self", "number", "year"]
theorem Z89:aH Z8z ["self", "number", "year"] (az OI):=#[7]
abbrev Mb:Stmt:=inClass (top 91) 11
abbrev UB:#[1]:=["self"]
theorem Z4s:aH UB ["self"] (az Mb):=#[7]
abbrev OJ:Stmt:=inClass (top 91) 12
abbrev Z7h:#[1]:=["self"]
theorem Z6w:aH Z7h ["self"] (az OJ):=#[7]
abbrev OK:Stmt:=top 92
abbrev Z72:#[1]:=["chart", "laid", "book"]
theorem UC:aH Z72 ["chart", "laid"] (az OK):=#[7]
abbrev OL:Stmt:=inClass (top 94) 0
abbrev Z8y:#[1]:=["self"]
theorem Z6x:aH Z8y ["self"] (az OL):=#[7]
abbrev OM:Stmt:=inClass (top 94) 1
abbrev Z8q:#[1]:=["self", "order", "turns"]
theorem UD:aH Z8q ["self", "order"] (az OM):=#[7]
abbrev Z77:Stmt:=inClass (top 94) 2
abbrev Z98:#[1]:=["self"]
abbrev Z6m:Stmt:=inClass (top 94) 3
abbrev Z8h:#[1]:=["self"]
abbrev Za7:Stmt:=inClass (top 94) 4
abbrev Zau:#[1]:=["self", "at", "before", "after"]
abbrev ON:Stmt:=inClass (top 94) 5
abbrev Z79:#[1]:=["self"]
theorem Z62:aH Z79 ["self"] (az ON):=#[7]
abbrev OO:Stmt:=inClass (top 94) 6
abbrev Z31:#[1]:=["self", "one", "other", "at"]
theorem UE:aH Z31 ["self", "one", "other"] (az OO):=#[7]
abbrev OP:Stmt:=inClass (top 94) 7
abbrev Z8s:#[1]:=["self"]
theorem Z8e:aH Z8s ["self"] (az OP):=#[7]
abbrev OQ:Stmt:=top 96
abbrev Z2y:#[1]:=["turns"]
theorem Z1l:aH Z2y ["turns"] (az OQ):=#[7]
abbrev OR:Stmt:=top 97
abbrev Z5j:#[1]:=["name", "number", "year"]
theorem Z3i:aH Z5j ["name"] (az OR):=#[7]
abbrev Z8r:Stmt:=top 98
abbrev Z9u:#[1]:=["log"]
abbrev Z7c:Stmt:=top 99
abbrev Z95:#[1]:=["log"]
abbrev Md:Stmt:=top 100
abbrev UG:#[1]:=["log"]
theorem Z6l:aH UG ["log"] (az Md):=#[7]
abbrev OS:Stmt:=top 101
abbrev Z71:#[1]:=["log"]
theorem Z4v:aH Z71 ["log"] (az OS):=#[7]
abbrev Me:Stmt:=top 102
abbrev UH:#[1]:=["book", "year", "day", "holder", "noted"]
theorem OT:aH UH ["book", "year", "day"] (az Me):=#[7]
abbrev Zq:Stmt:=top 103
abbrev Z22:#[1]:=["book", "year", "day"]
theorem Zy:aH Z22 ["book", "year", "day"] (az Zq):=#[7]
abbrev OU:Stmt:=top 104
abbrev Z6t:#[1]:=["book", "number", "year"]
theorem Z40:aH Z6t ["book", "number", "year"] (az OU):=#[7]
abbrev Mg:Stmt:=top 105
abbrev UI:#[1]:=["book", "number", "year"]
theorem Z7s:aH UI ["book", "number", "year"] (az Mg):=#[7]
abbrev OV:Stmt:=top 108
abbrev Zb3:#[1]:=["log", "text", "tell", "word", "texts", "ask", "one", "other"]
theorem Jo:aH Zb3 ["log", "text"] (az OV):=#[7]
abbrev OW:Stmt:=inClass (top 109) 0
abbrev Z8i:#[1]:=["self"]
theorem Z59:aH Z8i ["self"] (az OW):=#[7]
abbrev OX:Stmt:=inClass (top 109) 1
abbrev Z8m:#[1]:=["self", "text", "refusal"]
theorem Z6y:aH Z8m ["self", "text"] (az OX):=#[7]
abbrev OY:Stmt:=top 111
abbrev Z7f:#[1]:=["_law_script", "_law_place"]
theorem Z5d:aH Z7f ["_law_script", "_law_place"] (az OY):=#[7]
abbrev OZ:Stmt:=top 112
abbrev Z8f:#[1]:=["_law_cell_here", "_law_one", "_law_two"]
theorem O0:aH Z8f ["_law_cell_here"] (az OZ):=#[7]
abbrev O1:Stmt:=top 113
abbrev Z37:#[1]:=["_law_cell_here", "_law_sizes", "_law_rest", "_law_found", "_law_k", "_law_size"]
theorem Jp:aH Z37 ["_law_cell_here", "_law_sizes"] (az O1):=#[7]
abbrev Z4a:Stmt:=top 114
abbrev Z6i:#[1]:=["_law_thing"]
abbrev O2:Stmt:=top 115
abbrev Z94:#[1]:=["_law_hall", "_law_order", "_law_word", "_law_turns", "_law_kept", "e"]
theorem Ge:aH Z94 ["_law_hall", "_law_order"] (az O2):=#[7]
abbrev Zo:Stmt:=top 116
abbrev Z16:#[1]:=["_law_hall", "_law_what", "_law_one", "_law_other", "_law_word"]
theorem JH:aH Z16 ["_law_hall", "_law_what", "_law_one", "_law_other"] (az Zo):=#[7]
abbrev Z3:Stmt:=top 117
abbrev Z8:#[1]:=["_law_hand", "_law_one", "_law_other", "_law_refused_here"]
theorem Z2:aH Z8 ["_law_hand", "_law_one", "_law_other"] (az Z3):=#[7]
abbrev Lu:Stmt:=top 118
abbrev O3:#[1]:=["_law_hall", "_law_number", "_law_year", "_law_day", "_law_words"]
theorem O4:aH O3 ["_law_hall", "_law_number", "_law_year", "_law_day"] (az Lu):=#[7]
abbrev Z7:Stmt:=top 119
abbrev Za:#[1]:=["_law_desk", "_law_great", "_law_texts", "_law_due"]
theorem Z5:aH Za ["_law_desk", "_law_great"] (az Z7):=#[7]
abbrev Ds:Stmt:=top 120
abbrev Mh:#[1]:=["_law_script", "_law_number", "_law_year", "_law_rank", "_law_sort", "_law_day", "_law_bound", "_law_rule", "_law_first", "_law_hall", "_law_hand", "_law_desk", "_law_great", "_law_bad", "_law_found", "_law_said", "_law_way", "_law_kind", "_law_order", "_law_turns"]
theorem sC:aH Mh ["_law_script"] (az Ds):=#[7]
abbrev UJ:Stmt:=inClass (top 91) 1
abbrev Z3q:#[1]:=["self", "order", "chart", "laid", "turns"]
theorem Mi:aH Z3q ["self", "order"] (az UJ):=#[7]
abbrev UK:Stmt:=top 115
abbrev Z6n:#[1]:=["_law_hall", "_law_order", "_law_word", "_law_turns", "_law_kept", "e"]
theorem Lv:aH Z6n ["_law_hall", "_law_order"] (az UK):=#[7]
theorem Mj:(["number", "year", "how", "day", "0acc", "0rows"]:#[1]).Nodup:=#[10]
theorem Ml:(["number", "year", "how", "own", "0acc", "0rows", "day", "0noted"]:#[1]).Nodup:=#[10]
theorem Zk:(["rank", "number", "year", "way", "own", "0acc", "0entries", "0rows", "0day", "0ranks", "0standing", "0this", "0that"]:#[1]).Nodup:=#[10]
theorem Z5p:(["place", "0acc", "0turn", "0number", "0year", "0before", "0after"]:#[1]).Nodup:=#[10]
theorem Zz:(["length", "anchor", "0acc", "0chart"]:#[1]).Nodup:=#[10]
theorem Z6h:(["figure", "0acc", "0chart", "0bounds"]:#[1]).Nodup:=#[10]
theorem UL:(["day", "bound", "0acc", "0chart", "0bounds"]:#[1]).Nodup:=#[10]
theorem Zd:(["day", "0acc", "chart", "0turns", "lengths", "0turn", "0days"]:#[1]).Nodup:=#[10]
theorem Mm:(["number", "year", "how", "day", "0acc", "0rows"]:#[1]).Nodup:=#[10]
theorem Mn:(["number", "year", "how", "day", "0acc", "0rows"]:#[1]).Nodup:=#[10]
theorem Zc:(["part", "0acc", "0parts"]:#[1]).Nodup:=#[10]
theorem UN:(["length", "anchor", "0acc", "0chart", "0orders"]:#[1]).Nodup:=#[10]
theorem Z1d:(["number", "0acc", "chart", "0orders"]:#[1]).Nodup:=#[10]
theorem O5:(["first", "last", "bound", "0acc", "0chart", "0orders"]:#[1]).Nodup:=#[10]
theorem Z1o:(["year", "0acc", "0chart", "0orders"]:#[1]).Nodup:=#[10]
theorem Z1q:(["order", "0acc", "0self"]:#[1]).Nodup:=#[10]
theorem Z1r:(["row", "0acc", "0log"]:#[1]).Nodup:=#[10]
theorem Z2i:(["name", "0acc", "0book", "0year", "0day", "0holder", "0noted"]:#[1]).Nodup:=#[10]
theorem Z3f:(["reason", "0acc", "0book", "0number", "0year"]:#[1]).Nodup:=#[10]
theorem Zr:(["_law_what", "0acc", "_law_hall", "_law_number", "_law_year", "0_law_day", "0_law_words"]:#[1]).Nodup:=#[10]
theorem Zx:(["_law_what", "0acc", "_law_hall", "0_law_number", "_law_year", "_law_day", "0_law_words"]:#[1]).Nodup:=#[10]
theorem Z0:(["_law_text", "0acc", "_law_desk", "0_law_great", "0_law_texts", "0_law_due"]:#[1]).Nodup:=#[10]
theorem Zaw:(["_law_order", "0acc", "0_law_script", "0_law_number", "0_law_year", "0_law_rank", "0_law_sort", "0_law_day", "0_law_bound", "0_law_rule", "0_law_first", "_law_hall", "0_law_hand", "0_law_desk", "0_law_great", "0_law_bad", "0_law_found", "0_law_said", "0_law_way", "0_law_kind", "0_law_order", "0_law_turns"]:#[1]).Nodup:=#[10]
theorem Zax:(["_law_one", "0acc", "0_law_script", "0_law_number", "0_law_year", "0_law_rank", "0_law_sort", "0_law_day", "0_law_bound", "0_law_rule", "0_law_first", "0_law_hall", "0_law_hand", "0_law_desk", "0_law_great", "0_law_bad", "0_law_found", "0_law_said", "0_law_way", "0_law_kind", "0_law_order", "0_law_turns"]:#[1]).Nodup:=#[10]
theorem Zas:(["_law_text", "0acc", "0_law_script", "0_law_number", "0_law_year", "0_law_rank", "0_law_sort", "0_law_day", "0_law_bound", "0_law_rule", "0_law_first", "0_law_hall", "0_law_hand", "_law_desk", "0_law_great", "0_law_bad", "0_law_found", "0_law_said", "0_law_way", "0_law_kind", "0_law_order", "0_law_turns"]:#[1]).Nodup:=#[10]
theorem t2{X:Cx}{H0:Hp}{e:Expr}:aS X H0 e (λ_ _=>False):=λ_ _ _ _ _ _⟨_,_,_,_,z,_⟩=>z.elim
def nt(mg:#[11])(x:Str)(n:Int):Prop:=∃t,(0,mg x,.int n t)
def vM(K:PySem.W.Frag)(mg:#[11])(base:Heap)(x:Str):Prop:=∃C bm,(0,mg x,.ref C)/\Im K mg base x C bm
def E5:(5,Str,Str):=[("NoDay", "Sealed"),("NoDay", "NoFeast"),("NoYear", "Sealed"),("NoYear", "NoDay"),("NoYear", "BadYear"),("NoYear", "BadDay"),("NoYear", "BadFeast"),("NoYear", "Taken"),("NoYear", "NoFeast"),("NoFeast", "Sealed"),("NoFeast", "NoDay"),("NoFeast", "NoYear"),("NoFeast", "BadYear"),("NoFeast", "BadDay"),("NoFeast", "BadFeast"),("NoFeast", "Taken"),("BadDay", "Sealed"),("BadDay", "BadYear")]
structure eB(K:PySem.W.Frag)(mg:#[11])(base:Heap):Prop where
 g9:K.In base
 kB:vM K mg base "NoDay"
 eJ:vM K mg base "NoYear"
 oS:vM K mg base "BadYear"
 ji:vM K mg base "BadDay"
 p0:vM K mg base "BadFeast"
 Taken:vM K mg base "Taken"
 bQ:vM K mg base "NoFeast"
 t4:vM K mg base "NoStand"
 nu:Jh mg base "Sealed"
 no:∀x y,(x,y)∈E5->Ji K mg x y
theorem bz{P:Program}{w:World}{base:Heap}{x g:Str}{st:Stmt}{f:Addr}{N:#[1]}{k:Nat}{sp:dO}(F:(12,x,g,st))(S:aH N ps (az st))(len:∀ds Qd Xd,sp ds Qd Xd->ds.length=ps.length)
(c:∀(j:Value)(A:Around)(outer:List Env)(s:Shared)(H:Hp)(E:XK),bT k (A.deeper (PyProof.Rows.envOfC g (az st) s.heap.objs.size f j))-> ∀ds Qd(Xd:(1,Er)),sp ds Qd Xd->
(∀x C,(0,mg x,.ref C)->Xd (x,[])->LS (gk (dN P w) P w K mg base N g (az st) f j A outer s H E) H C)->(∀x Y,Xd x->mj (gk (dN P w) P w K mg base N g (az st) f j A outer s H E) H x Y)->
∃t,e3 (gk (dN P w) P w K mg base N g (az st) f j A outer s H E) H (c1 st) t/\t {nx:=λ_=>Qd (.val .bu),rt:=λr _=>Qd r} (m7 N ds)):aQ P w K mg base (dN P w) (k+1) f fd ps (bM K mg sp):=
 M.Cw F S len λj A outer s H E hr ds Qd Xd h L B=>let⟨t,a,b⟩:=c j A outer s H E hr ds Qd Xd h L (λx Y r Z σ G H1 ea s' fl=>B x r Z σ Y G H1 ea s' fl);⟨t,a,b⟩
abbrev Sm(n:Int):Prop:=n.natAbs.log2<1920
theorem aT{f:(1,#[0])}{bk:(1,#[0])}(h:f Y):FA {nx:=f,rt:=rt,bk:=bk,ct:=ct} Y:=h
theorem UO{i:Nat}{te:RE}{u:RS}{l:Sl}(d:D)(h:lH te Y d)(e:(0,Y[i]?,l))(b:l.locked=false)(k:u E (Y.set i (.fr d))):ft (HG i te) u E Y:=h _ (ba e b k)
theorem cQ{f:Int->Int->Bool}{b c:Int}{B F tc:RE}(ha:lH B Y (.int a))(hb:lH F Y (.int b))(hc:lH tc Y (.int c)):fV (lT (Bj (yk λi j=>.bl (f i j)) (yk λi j=>.bl (g i j)) B F tc)) Y (f a b&&g b c):=λQ q=>by
 refine ha _ (hb _ ?_)
 cases h:f a b with
 |true=>
  rw[h]at q
  show(match D.bl (f a b)with| .bl k=>if(4,k)then _ else _|_=>False)
  rw[2,h,hc _ q]
 |false=>
  rw[h]at q
  show(match D.bl (f a b)with| .bl k=>if(4,k)then _ else _|_=>False)
  rw[2,h,q]
theorem ny{f k:Int->Int->Bool}{b c d:Int}{B F tc l:RE}(ha:lH B Y (.int a))(hb:lH F Y (.int b))(hc:lH tc Y (.int c))(hd:lH l Y (.int d)):fV (y7 (yk λi j=>.bl (f i j)) (yk λi j=>.bl (g i j)) (yk λi j=>.bl (k i j)) B F tc l) Y (f a b&&(g b c&&k c d)):=λQ q=>by
 refine ha _ (hb _ ⟨λh=>hc _ ⟨λh2=>hd _ ?_,λh2=>?_⟩,λh=>?_⟩)
 ·rw[h,h2]at q;exact q
 ·rw[h,h2]at q;exact q
 ·rw[h]at q;exact q
def bh(C:Addr)(ys:List D)(fs:(5,Key,D))(g:Str)(i:List D):D:=.obj C [(.inr "years",.lst ys),(.inr "feasts",.dK fs),(.inr "figures",.str g),(.inr "seals",.lst i)]
def d_(C:Addr):qJ:=λds d Q _=>∃ys fs g i,(3,ds,[.lst ys,.dK fs,.str g,.lst i],d=.obj C [],Q .bu (bh C ys fs g i))
structure eK(K:PySem.W.Frag)(C:Addr):Prop where
 c:qI K C
 p3:bS K C "years"
 jj:bS K C "feasts"
 oT:bS K C "figures"
 sD:bS K C "seals"
section
variable{P:Program}{w:World}{base:Heap}{CChart CBook CLog cu:Addr}{cA eW di cj ck V gn dj fE eM cm cn cq I b6 cB nB j_ gQ nC nE gS e8 gT:Addr}
theorem p4{f:Addr}(F:(12,"__init__","Chart.__init__",NZ))(c:eK K CChart):aQ P w K mg base cy (0+1) f fd ["self", "years", "feasts", "figures", "seals"] (liftM K mg (d_ CChart)):=by
 refine j7 F YK (by rintro ds d Qd Xd⟨ys,fs,g,i,rfl,_⟩;rfl) (λj A outer s H G E p hr ds d Qd Xd h=>?_);obtain⟨ys,fs,g,i,rfl,rfl,q⟩:=h
 rw[5,aB (dY 0 c.c c.p3 (ay 1))
   (aB (dY 0 c.c c.jj (ay 2))
   (aB (dY 0 c.c c.oT (ay 3))
   (aJ (dY 0 c.c c.sD (ay 4)))))]
 exact⟨rfl,rfl,#[2],rfl,rfl,(15,1<900),rfl,rfl,(15,2<900),rfl,rfl,(15,3<900),_,rfl,q⟩
def UP(C:Addr):cN:=λds Q=>ds=[]/\Q (.val (bh C [] [] (bG 57 0) []))
theorem Z4d{f:Addr}(F:(12,"new_chart","new_chart",N0))(a:AF P w K mg base 1 "Chart" CChart (d_ CChart)):aQ P w K mg base cy (2+1) f fd [] (aV K (UP CChart)):=by
 refine(19,bf,F,YM,by rintro ds Qd⟨rfl,_⟩;rfl);obtain⟨rfl,q⟩:=h;rw[5,aJ (bq (b'.fx (xq a hr (ax (b'.fx (bE aC)) (ax (b'.fx (HC)) (ax (bb) (ax (b'.fx (bE aC)) aC)))))))];exact⟨(15,(8,0)),(15,(8,0)),_,_,_,_,rfl,rfl,rfl,q⟩
def Mo(C:Addr):cN:=λds Q=>(∃fs g i,ds=[bh C [] fs g i]/\Q (.new (.lst [])))\/ ∃a b fs g i,ds=[bh C [.tup [.int a,.int b]] fs g i]/\Q (.new (.lst [.int a]))
theorem Z2x{f:Addr}(F:(12,"lengths_of","lengths_of",L4))(c:eK K CChart):aQ P w K mg base cy (0+1) f fd ["chart"] (aV K (Mo CChart)):=by
 rw[0,(19,bf,F,YP,by rintro ds Qd(⟨fs,g,i,rfl,_⟩|⟨a,b,fs,g,i,rfl,_⟩)<;>rfl),⟨_,(aJ (bF (fK (nT:=2) (N':=["length", "anchor", "0acc", "0chart"]) (47,L4,Uo) (bL c.c c.p3 (aG 0)) (55,2,Zz,Zz,fu) (λ_ _ _ _ _=>cI) (λ_ _ _ _ _=>(ay 0))))),?_⟩]
 rcases h with⟨fs,g,i,rfl,q⟩|⟨a,b,fs,g,i,rfl,q⟩
 ·exact⟨_,_,rfl,rfl,rfl,q⟩
 ·exact⟨_,_,rfl,rfl,rfl,rfl,cS.t ⟨(25,0),q⟩⟩
theorem jk(n:Nat):nj (bG 57 n)=List.replicate n (.str ⟨#[57]⟩):=by
 unfold nj bG;simp
theorem vN(n:Nat):(4,(bG 57 n).cps.all (· <128)):=by
 unfold bG;rw[Array.all_eq_true];intro i hi;simp
theorem vO{tc:RT}{tk tv:RE}{Y:#[0]}{Q:(1,(5,Key,D))}(M:∀k:Nat,fV tc ((9,k)::(9,9):: .ow (.dK [])::Y) false)(q:Q []):∀(m k:Nat)(l0 l1:Sl),
 oj (FW 2 (w' (pH 0) (w' (pH 1) FV))) tc tk tv Y (ku k (List.replicate m (.int 9))) [l0,l1] [] Q
  |0,k,l0,l1=>q
  |m+1,k,l0,l1=>⟨rfl,M k _ (cS.f (vO M q m (k+1) _ _))⟩
def Mp(C:Addr):cN:=λds Q=>∃ys fs i,∃n:Nat,(3,ds,[bh C ys fs (bG 57 n) i],n<=1000,Q (.new (.dK [])))
theorem Z99{f:Addr}(F:(12,"shut_of","shut_of",Lo))(c:eK K CChart)(u:nt mg "OPENING" 9)(kC:(2,mg "int"))(bD:(2,mg "enumerate")):aQ P w K mg base cy (0+1) f fd ["chart"] (aV K (Mp CChart)):=by
 refine(19,bf,F,Up,by rintro ds Qd⟨ys,fs,i,n,rfl,_⟩;rfl);obtain⟨ys,fs,i,n,rfl,hn,q⟩:=h
 rw[0,⟨_,(aB (xu 1 Up.nd (nT:=1) (N':=["figure", "0acc", "0chart", "0bounds"]) (47,Lo,N2) (bL c.c c.oT (aG 0)) (λ_ _ _ _ _=>(a' 0 #[2] Z6h)) (λ_ _ _ _ _=>cI) (λ_ _ _ _ _=>(Cj kC (b_ (aG 0) cG))))
   (aJ (bF (Ag (Nat.lt_of_succ_lt (c8 hr)) (nT:=2) (N':=["day", "bound", "0acc", "0chart", "0bounds"]) (47,Lo,N2) rfl bD (ax (ay 1) aC) (55,2,UL,UL,fu) (λ_ _ _ _ _=>(pJ (br yc ta (aG 1) (aS.bo (kR u.choose_spec)) (aY _)))) (λ_ _ _ _ _=>(ay 0)) (λ_ _ _ _ _=>(ay 1)))))),?_⟩,⟨_,_,rfl,rfl,rfl,bG 57 n,rfl,vN n,?_⟩];refine nh (p:=λ_=>true) (f:=λ_=>.int 9) (nj (bG 57 n)) _ [] (by rw[jk];simp;exact Nat.le_trans hn #[2]) (λx hx T=>λQ q=>q) (λx hx _ T=>?_) ?_
 ·rw[jk]at hx
  obtain rfl:=List.eq_of_mem_replicate hx;exact λQ q=>⟨⟨#[57]⟩,9,rfl,#[10],#[2],q⟩
 ·rw[jk,List.nil_append,List.filter_eq_self.mpr λ_ _=>rfl,List.map_replicate]
  exact vO (λk Q q=>q) q n 0 _ _
def UQ(C:Addr):cN:=λds Q=>∃ys fs g i a,ds=[bh C ys fs g i,.dK a]/\Q (.new (bh C ys a g i))
theorem Z17{f:Addr}(F:(12,"with_feasts","with_feasts",N1))(a:AF P w K mg base 1 "Chart" CChart (d_ CChart))(c:eK K CChart):aQ P w K mg base cy (2+1) f fd ["chart", "feasts"] (aV K (UQ CChart)):=by
 refine(19,bf,F,YO,by rintro ds Qd⟨ys,fs,g,i,b,rfl,_⟩;rfl);obtain⟨ys,fs,g,i,b,rfl,q⟩:=h;rw[5,aJ (bF (xq a hr (ax (bL c.c c.p3 (aG 0)) (ax (ay 1) (ax (bL c.c c.oT (aG 0)) (ax (bL c.c c.sD (aG 0)) aC))))))];exact⟨_,_,rfl,rfl,rfl,_,_,rfl,rfl,rfl,_,_,rfl,rfl,rfl,ys,b,g,i,rfl,rfl,rfl,q⟩
def UR:cN:=λds Q=>∃(r:Str)(n:Int),(3,ds,[.str r,.int 0,.int 0,.int n,.int 0],r= "fixed"\/r= "anchor",1<=n/\Q (.val (.int 0)))
theorem Z9i{f:Addr}(F:(12,"own_day","own_day",N3)):aQ P w K mg base cy (0+1) f fd ["rule", "day", "first", "length", "anchor"] (aV K UR):=by
 refine(19,bf,F,Uq,by rintro ds Qd⟨r,n,rfl,_⟩;rfl);obtain⟨r,n,rfl,a,hn,q⟩:=h
 rw[5,aB (b8 (br fk c' (aG 0) (aS.bo (bb)) (aY _))
   (aJ (bq (tb (br i_ ja (aG 1) (aG 3) (aY _)) (dQ (aG 2) (aG 1)) (e2))))
   bw)
   (aB (bt 5 Uq.nd (dQ (aS.bo (dQ (aG 2) (aG 4))) (aG 1)))
   (aJ (bq (tb (br Fj Fv (aG 5) (aS.bo (aX)) (aY _)) (ay 5) (e2)))))]
 rcases a with rfl|rfl
 ·refine fW (λQ q=>q) ?_
  exact cS.dec (λ_=>q) (λh=>absurd (show(0:Int)<n by omega) h)
 ·refine cx (λQ q=>q) ?_
  exact cS.t q
def O6:cN:=λds Q=>ds=[.lst []]/\Q (.val (.int 0))
theorem Zav{f:Addr}(F:(12,"total","total",NO))(p5:(2,mg "sum")):aQ P w K mg base cy (0+1) f fd ["lengths"] (aV K O6):=by
 refine(19,bf,F,X8,by rintro ds Qd⟨rfl,_⟩;rfl);obtain⟨rfl,q⟩:=h;rw[5,aJ (bq (KC rfl p5 (b_ (aG 0) cG)))];rw[1,[],rfl,q]
def US:cN:=λds Q=>∃y d:Int,ds=[.lst [],.int y,.int d]/\((3,y,0,0<=d,Q (.val (.bl true)))\/(¬(y=0/\0<=d)/\Q (.val (.bl false))))
theorem Z7i{f:Addr}(F:(12,"has_date","has_date",NP))(cW:(2,mg "len")):aQ P w K mg base cy (0+1) f fd ["lengths", "year", "day"] (aV K US):=by
 refine(19,bf,F,X_,by rintro ds Qd⟨y,d,rfl,_⟩;rfl);obtain⟨y,d,rfl,h⟩:=h
 rw[0,⟨_,(aB (b8 (oJ.pt (jb (br i_ ja (aG 1) (aS.bo (aX)) (aY _)) (jb (br Fi Fu (aG 1) (aS.bo (rS cW (b_ (aG 0) cG))) (aY _)) (iW (br i_ ja (aG 2) (aS.bo (aX)) (aY _))))))
   (aJ (bq (kN)))
   bw)
   (aJ (bq (HA (lR fk c' (aG 1) (aS.bo (rS cW (b_ (aG 0) cG))) (aY _)) (ym t2))))),?_⟩,yx (rT (λQ q=>q) λ_=>rT (λQ q=>q) λ_=>λQ q=>q) (λe=>?_) (λe=>?_)]
 ·rcases h with⟨rfl,M,q⟩|⟨hn,q⟩
  ·simp at e
   omega
  ·exact q
 ·rcases h with⟨rfl,M,q⟩|⟨hn,q⟩
  ·exact aT (cS.t q)
  ·simp at e
   omega
def p7:dO:=λds Q Xd=>∃y d:Int,(3,ds,[.lst [],.int y,.int d],Sm y,Sm d/\((3,y,0,0<=d,Q (.val (.int d)))\/(¬(y=0/\0<=d)/\Xd ("NoDay",[]))))
theorem C0{f:Addr}(F:(12,"line","line",NQ))(Y19:dM P w K mg base 1 "has_date" US)(a:dM P w K mg base 1 "total" O6)(t:eB K mg base):aQ P w K mg base (dN P w) (1+1) f fd ["lengths", "year", "day"] (bM K mg p7):=by
 rw[7,bz,F,Yn,by rintro ds Qd Xd⟨y,d,rfl,_⟩;rfl,?_];obtain⟨y,d,rfl,hy,hd,h⟩:=h
 rw[5,aB (b8 (eA (lU (bg Y19 hr (ax (ay 0) (ax (ay 1) (ax (ay 2) aC))))))
   (aJ (hQ (R:=Xd ("NoDay",[])) t.kB.choose_spec.choose_spec.2 (λr=>L _ _ t.kB.choose_spec.choose_spec.1 r) (ax (cJ (cg (cD (ay 2) (cg (cD (ay 1) dH))))) aC) rfl))
   bw)
   (aJ (bq (dQ (aS.bo (bg a hr (ax (b'.fx (Kh (aG 0) Bp (td (aG 1)))) aC))) (aG 2))))]
 rcases h with⟨rfl,M,q⟩|⟨hn,xd⟩
 ·rw[0,cx (b7 (b1:=true) λQ q=>⟨_,_,rfl,.inl ⟨rfl,M,q⟩⟩) ?_,aT ⟨rfl,?_⟩]
  show Qd (.val (.int (0+d)))
  rw[2,Int.zero_add,q]
 ·refine fW (b7 (b1:=false) λQ q=>⟨_,_,rfl,.inr ⟨hn,q⟩⟩) ?_
  exact⟨_,rfl,hd,_,rfl,hy,(show 1<=9 by decide),xd⟩
def UT:cN:=λds Q=>∃d:Int,(3,ds,[.lst [],.int d],0<=d,Q (.val (.tup [.int 0,.int d])))
theorem Zbb{f:Addr}(F:(12,"date","date",NR))(bD:(2,mg "enumerate"))(cW:(2,mg "len")):aQ P w K mg base cy (0+1) f fd ["lengths", "day"] (aV K UT):=by
 refine(19,bf,F,Ll,by rintro ds Qd⟨d,rfl,_⟩;rfl);obtain⟨d,rfl,M,q⟩:=h
 rw[0,⟨_,(aB (b8 (br i_ ja (aG 1) (aS.bo (aX)) (aY _))
   (aJ dk)
   bw)
   (aB (bt 2 Ll.nd (ay 1))
   (aB (wY PassesOwn.never rfl rfl bD (ax (ay 0) aC) (c9 (n:=2) rfl (aL (aP 3 Ll.nd) (aL (aP 4 Ll.nd) bZ)))
   (aB (b8 (br i_ ja (aG 2) (aG 4) (aY _))
   (aJ (bq (bI (24,3,2))))
   bw)
   (aJ (Bz 2 Ll.nd (ay 4)))))
   (aJ (bq (bI (ax (rS cW (b_ (aG 0) cG)) (ax (ay 2) aC)))))))),?_⟩,cx (fV.eq (λQ q=>q) (decide_eq_false #[3])) ?_];refine aT ?_;rw[3,kn,q]
def UU:cN:=λds Q=>∃a b c x y:D,ds=[.tup [a,b,c,x,y]]/\Q (.val (.tup [a,b,c]))
theorem Za9{f:Addr}(F:(12,"height","height",NT)):aQ P w K mg base cy (0+1) f fd ["entry"] (aV K UU):=by
 refine(19,bf,F,YA,by rintro ds Qd⟨a,b,c,x,y,rfl,_⟩;rfl);obtain⟨a,b,c,x,y,rfl,q⟩:=h;rw[5,aJ (bq (Fz (aG 0) Bp (td (aS.bo (aX)))))];rw[3,λz=>absurd (show(3:Nat)=5 from z.2) #[2],q]
def dw(a:Int)(t rule:Str)(u:Int):D:=.tup [.int a,.str t,.str rule,.int 0,.int 0,.int u]
def jl(a n:Int)(t:Str):D:=.tup [.int a,.int n,.int 0,.str t,.int 0]
def q0(n:Int):D:=.tup [.int n,.int 0,.str "stands",.int 0]
def p9(n:Int):D:=.tup [.int n,.int 0,.bu,.tup [.str "stands",.int 0]]
def Lw:D->D
 | .tup [a,b,c,_,_]=>.tup [a,b,c]
 |d=>d
def O7:cN:=λds Q=>(ds=[.lst []]/\Q (.new (.lst [])))\/ ∃r n w,ds=[.lst [jl r n w]]/\Q (.new (.lst [jl r n w]))
theorem Z8x{f:Addr}(F:(12,"ordered","ordered",NU))(Y1q:dM P w K mg base 1 "height" UU)(bU:(2,mg "sorted")):aQ P w K mg base cy (3+1) f fd ["entries"] (aV K O7):=by
 rw[0,(19,bf,F,YC,by rintro ds Qd(⟨rfl,_⟩|⟨r,n,w,rfl,_⟩)<;>rfl),⟨_,(aJ (bF (Ef BN Y1q hr bU (ay 0)))),?_⟩]
 rcases h with⟨rfl,q⟩|⟨r,n,w,rfl,q⟩
 ·rw[4,Lw,_,λd hd=>(by cases hd),⟨#[2],rfl⟩,λy hp _=>(10,hp.eq_nil,q)]
 ·refine⟨Lw,_,λd hd=>?_,⟨(15,1<2),rfl⟩,λy hp _=>(10,List.perm_singleton.mp hp,q)⟩
  rw[2,List.mem_singleton.mp hd,⟨_,_,_,_,_,rfl,rfl⟩]
def UW:cN:=λds Q=>∃r d:Int,ds=[.int r,.int d,.dK []]/\Q (.val (.bl true))
theorem Z8l{f:Addr}(F:(12,"open_to","open_to",NV)):aQ P w K mg base cy (0+1) f fd ["rank", "day", "shut"] (aV K UW):=by
 refine(19,bf,F,YE,by rintro ds Qd⟨r,d,rfl,_⟩;rfl);obtain⟨r,d,rfl,q⟩:=h;rw[5,aJ (bq (HA (BC (c8 hr) (aG 1) (aG 2)) (ym (lR dE dG (aG 0) (aS.bo (tE (c8 hr) (aG 2) (aG 1))) (aY _)))))];exact cS.t q
def UX:AE:=λds d Q=>∃r:Int,(3,ds,[.int r,.int 0,.dK []],d=.dK [],Q (.int 0) (.dK []))
theorem Z3x{f:Addr}(F:(12,"first_free","first_free",NW))(Y1m:dM P w K mg base 1 "open_to" UW):aQ P w K mg base cy (1+1) f fd ["rank", "day", "shut", "onward"] (hK K UX):=by
 refine yz F LY (by rintro ds d Qd⟨r,rfl,_⟩;rfl) (λj A outer s H G E p hr ds d Qd h=>?_);obtain⟨r,rfl,rfl,q⟩:=h
 rw[0,⟨_,(aB (e6 4 LY.nd (bE aC))
   (aB (Ec PassesOwn.never (oJ.pt (jb (FK (c8 hr) (aG 1) (aG 3)) (iW (eA (lU (bg Y1m hr (ax (ay 0) (ax (ay 1) (ax (ay 2) aC)))))))))
   (aB (pq 4 (ay 1))
   (aJ (bt 1 LY.nd (Ea (c8 hr) (aG 3) (ay 1) (dQ (aG 1) (aS.bo (aX))))))))
   (aB (H3 4 PassesOwn.never rfl (aP 5 LY.nd)
   (aJ (w1 3 (c8 hr) (ay 5) (ay 1))))
   (aJ (bq (ay 1)))))),?_⟩,⟨Nat.zero_le _,?_⟩];refine zJ (λm Y=>Y=[(9,r),(9,0),.fr (.dK []),.lk p (.dK []),.ow (.lst []),.un]) 0 rfl ?_;rintro m Y L g rfl;refine(rT (b1:=false) (λQ q=>q) λ_=>b7 (b1:=true) λQ q=>⟨_,_,rfl,q⟩) _ (cS.f ?_);exact λp1=>⟨rfl,_,_,rfl,rfl,q⟩
def UY:AE:=λds d Q=>∃r n w,(3,ds,[jl r n w,.dK []],d=.dK [],Q (.tup [.str "stands",.int 0]) (.dK [(.inl 0,.int 1)]))
theorem Z7g{f:Addr}(F:(12,"place_of","place_of",NX))(Yt:KG P w K mg base 2 "first_free" UX):aQ P w K mg base cy (2+1) f fd ["entry", "shut", "onward"] (hK K UY):=by
 refine yz F Jm (by rintro ds d Qd⟨r,n,w,rfl,_⟩;rfl) (λj A outer s H G E p hr ds d Qd h=>?_);obtain⟨r,n,w,rfl,rfl,q⟩:=h
 rw[0,⟨_,(aB (dS (ay 0) (c9 (n:=5) rfl (aL (aP 3 Jm.nd) (aL (aP 4 Jm.nd) (aL (aP 5 Jm.nd) (aL (aP 6 Jm.nd) (aL (aP 7 Jm.nd) bZ)))))))
   (aB (BL Yt hr (l_ (ay 3) (l_ (ay 7) (l_ (ay 1) (BJ 2)))) (aP 8 Jm.nd))
   (aB (b8 (oJ.pt (jb (br fk c' (aG 6) (aS.bo (bb)) (aY _)) (iW (br fk c' (aG 8) (aG 7) (aY _)))))
   (aB (w1 2 (c8 hr) (ay 8) (dQ (aG 8) (aS.bo (aX))))
   (aJ (bq (bI (ax (bb) (ax (ay 8) aC))))))
   bw)
   (aB (b8 (br fk c' (aG 6) (aS.bo (bb)) (aY _))
   (aJ (bq (bI (ax (bb) (ax (ay 7) aC)))))
   bw)
   (aJ (bq (bI (ax (bb) (ax (ay 7) aC))))))))),?_⟩,⟨rfl,_,rfl,rfl,?_⟩];refine fW (fV.eq (rT (λQ q=>q) λ_=>λQ q=>q) (b2:=true) (by simp)) ?_;exact⟨(25,0),kn,_,_,rfl,rfl,q⟩
def UZ:cN:=λds Q=>(ds=[.lst [],.dK []]/\Q (.new (.lst [])))\/ ∃r n w,ds=[.lst [jl r n w],.dK []]/\Q (.new (.lst [q0 n]))
theorem Zbx{f:Addr}(F:(12,"lay","lay",NY))(a:dM P w K mg base 4 "ordered" O7)(Y1c:KG P w K mg base 4 "place_of" UY):aQ P w K mg base cy (4+1) f fd ["entries", "shut"] (aV K UZ):=by
 rw[0,(19,bf,F,JF,by rintro ds Qd(⟨rfl,_⟩|⟨r,n,w,rfl,_⟩)<;>rfl),⟨_,(aB (e6 2 JF.nd (HC))
   (aB (e6 3 JF.nd (bE aC))
   (aB (pf PassesOwn.never rfl (bg a hr (ax (ay 0) aC)) (aP 4 JF.nd)
   (aB (BL Y1c hr (l_ (ay 4) (l_ (ay 1) (BJ 2))) (c9 (n:=2) rfl (aL (aP 5 JF.nd) (aL (aP 6 JF.nd) bZ))))
   (aJ (pq 3 (bI (ax (m5 (aG 4) (aS.bo (aX))) (ax (m5 (aG 4) (aS.bo (aX))) (24,5,6))))))))
   (aJ (m6 3))))),?_⟩]
 rcases h with⟨rfl,q⟩|⟨r,n,w,rfl,q⟩
 ·rw[3,(15,(8,0)),.inl ⟨rfl,q⟩]
 ·rw[0,⟨(15,(8,0)),.inr ⟨_,_,_,rfl,?_⟩⟩,⟨_,_,_,rfl,rfl,?_⟩];exact⟨rfl,_,rfl,_,rfl,D8,(25,0),_,Fg.refl _,q⟩
def O8:cN:=λds Q=>ds=[.lst []]/\Q (.new (.dK []))
theorem Z9h{f:Addr}(F:(12,"holders","holders",LZ)):aQ P w K mg base cy (0+1) f fd ["rows"] (aV K O8):=by
 refine(19,bf,F,YI,by rintro ds Qd⟨rfl,_⟩;rfl);obtain⟨rfl,q⟩:=h;rw[5,aJ (bF (B3 (Nat.lt_of_succ_lt (c8 hr)) (nT:=4) (N':=["number", "year", "how", "day", "0acc", "0rows"]) (47,LZ,Ui) (ay 0) (55,4,Mj,Mj,bj (a' 2 #[2] Mj) (bj (a' 3 #[2] Mj) fu)) (λ_ _ _ _ _=>(pJ (br fk c' (aG 2) (aS.bo (bb)) (aY _)))) (λ_ _ _ _ _=>(ay 3)) (λ_ _ _ _ _=>(bI (24,0,1)))))];exact q
def U0:cN:=λds Q=>∃d:Int,ds=[.lst [],.int d]/\Q (.val (.tup [.bu,.lst []]))
theorem Z90{f:Addr}(F:(12,"page_of","page_of",L0))(a:dM P w K mg base 1 "holders" O8)(bU:(2,mg "sorted")):aQ P w K mg base cy (1+1) f fd ["rows", "day"] (aV K U0):=by
 refine(19,bf,F,Uk,by rintro ds Qd⟨d,rfl,_⟩;rfl);obtain⟨d,rfl,q⟩:=h
 rw[5,aB (hO 2 Uk.nd (nT:=4) (N':=["number", "year", "how", "own", "0acc", "0rows", "day", "0noted"]) (47,L0,Uj) (ay 0) (55,4,Ml,Ml,bj (a' 2 #[2] Ml) (bj (a' 3 #[2] Ml) fu)) (λ_ _ _ _ _=>(pJ (oJ.pt (Bm (br fk c' (aG 2) (aS.bo (bb)) (aY _)) (wX (br fk c' (aG 3) (aG 6) (aY _))))))) (λ_ _ _ _ _=>(bI (24,0,1))))
   (aJ (bq (bI (ax (j3 (c8 hr) (aS.bo (bg a hr (ax (ay 0) aC))) (ay 1)) (ax (b'.fx (tZ rfl bU (b_ (aG 2) cG))) aC)))))]
 exact⟨rfl,(15,0<2),kn,q⟩
def U1:cN:=λds Q=>∃d:Int,ds=[.lst [],.lst [],.int d]/\Q (.val .bu)
theorem Z34{f:Addr}(F:(12,"evening_of","evening_of",L1))(a:dM P w K mg base 1 "holders" O8):aQ P w K mg base cy (1+1) f fd ["entries", "rows", "day"] (aV K U1):=by
 refine(19,bf,F,Lm,by rintro ds Qd⟨d,rfl,_⟩;rfl);obtain⟨d,rfl,q⟩:=h
 rw[5,aB (vl 3 (Nat.lt_of_succ_lt (c8 hr)) Lm.nd (nT:=5) (N':=["rank", "number", "year", "way", "own", "0acc", "0entries", "0rows", "0day", "0ranks", "0standing", "0this", "0that"]) (47,L1,Ul) (ay 0) (55,5,Zk,Zk,bj (a' 2 #[2] Zk) (bj (a' 3 #[2] Zk) (bj (a' 4 #[2] Zk) fu))) (λ_ _ _ _ _=>cI) (λ_ _ _ _ _=>(bI (24,1,2))) (λ_ _ _ _ _=>(ay 0)))
   (aB (bt 4 Lm.nd (bg a hr (ax (ay 1) aC)))
   (aB (bt 5 Lm.nd (j3 (c8 hr) (aG 4) (ay 2)))
   (aB (bt 6 Lm.nd (j3 (c8 hr) (aG 4) (dQ (aG 2) (aS.bo (aX)))))
   (aB (b8 (br sP tJ (aG 5) (aS.bo (e2)) (aY _))
   (aJ (bq (ay 6)))
   bw)
   (aB (b8 (oJ.pt (jb (br sP tJ (aG 6) (aS.bo (e2)) (aY _)) (iW (br i_ ja (aS.bo (tE (c8 hr) (aG 3) (aG 5))) (aS.bo (tE (c8 hr) (aG 3) (aG 6))) (aY _)))))
   (aJ (bq (ay 5)))
   bw)
   (aJ (bq (ay 6))))))))]
 rw[3,rfl,fW (λQ q=>q) q]
def U2:cN:=λds Q=>∃n:Int,ds=[p9 n]/\Q (.new (.lst [.int 0]))
theorem Z9q{f:Addr}(F:(12,"days_of","days_of",L3)):aQ P w K mg base cy (0+1) f fd ["turn"] (aV K U2):=by
 refine(19,bf,F,Ln,by rintro ds Qd⟨n,rfl,_⟩;rfl);obtain⟨n,rfl,q⟩:=h
 rw[0,⟨_,(aB (dS (ay 0) (c9 (n:=4) rfl (aL (aP 1 Ln.nd) (aL (aP 2 Ln.nd) (aL (aP 3 Ln.nd) (aL (aP 4 Ln.nd) bZ))))))
   (aJ (bF (tN (nT:=1) (N':=["place", "0acc", "0turn", "0number", "0year", "0before", "0after"]) (47,L3,Um) (bI (24,3,4)) (λ_ _ _ _ _=>(a' 0 #[2] Z5p)) (λ_ _ _ _ _=>(pJ (oJ.pt (Bm (br lJ ma (aG 0) (aS.bo (e2)) (aY _)) (wX (br yc ta (aS.bo (m5 (aG 0) (aS.bo (aX)))) (aS.bo (bb)) (aY _))))))) (λ_ _ _ _ _=>(m5 (aG 0) (aS.bo (aX)))))))),?_⟩,⟨rfl,kn,?_⟩];exact cS.f (cS.f (cS.t ⟨_,rfl,cS.t ⟨_,rfl,(25,0),q⟩⟩))
theorem g_{g:RG}{r:rP}{d:D}(h:g d Y λa=>r ds a Q):tf g r (d::ds) Y Q:=h
theorem AH(h:Q Y):FD [] Y Q:=h
theorem O9{n:Nat}{gs:rP}(e:ds.length=n)(h:gs ds Y Q):Bt n gs (.tup ds) Y Q:=⟨e,h⟩
theorem Lx{te:RE}{g:RG}{u:RS}{d:D}(h:lH te Y d)(k:g d Y (u E)):ft (Kn te g) u E Y:=h _ k
def O_(C:Addr):cN:=λds Q=>(∃fs g i,ds=[bh C [] fs g i]/\Q (.new (.lst [])))\/
 ∃len r n u t rule g i,(3,ds,[bh C [.tup [.int len,.int 0]] [(.inl n,dw r t rule u)] g i],1<=len,0<=u/\(rule= "fixed"\/rule= "anchor")/\Q (.new (.lst [jl r n t])))
theorem Z39{f:Addr}(F:(12,"entries_of","entries_of",N4))(Y1n:dM P w K mg base 4 "own_day" UR)(a:dM P w K mg base 4 "ordered" O7)(c:eK K CChart)(bD:(2,mg "enumerate")):aQ P w K mg base cy (4+1) f fd ["chart"] (aV K (O_ CChart)):=by
 rw[0,(19,bf,F,wt,by rintro ds Qd(⟨fs,g,i,rfl,_⟩|⟨len,r,n,u,t,rule,g,i,rfl,_⟩)<;>rfl),⟨_,(aB (e6 1 wt.nd (bE aC))
   (aB (bt 2 wt.nd (aX))
   (aB (wY PassesOwn.never rfl rfl bD (ax (bL c.c c.p3 (aG 0)) aC) (c9 (n:=2) rfl (aL (aP 3 wt.nd) (aL (c9 (n:=2) rfl (aL (aP 4 wt.nd) (aL (aP 5 wt.nd) bZ))) bZ)))
   (aB (Jf PassesOwn.never rfl (bL c.c c.jj (aG 0)) (λ_=>(c9 (n:=2) rfl (aL (aP 6 wt.nd) (aL (aP 7 wt.nd) bZ))))
   (λ_=>(aB (dS (ay 7) (c9 (n:=6) rfl (aL (aP 8 wt.nd) (aL (aP 9 wt.nd) (aL (aP 10 wt.nd) (aL (aP 11 wt.nd) (aL (aP 12 wt.nd) (aL (aP 13 wt.nd) bZ))))))))
   (aB (bt 14 wt.nd (bg Y1n hr (ax (ay 10) (ax (ay 11) (ax (ay 2) (ax (ay 4) (ax (ay 5) aC)))))))
   (aJ (b8 (oJ.pt (Bm (f_ dE dE dG dG (aG 12) (aG 3) (aG 13)) (wX (br lJ ma (aG 14) (aS.bo (e2)) (aY _)))))
   (aJ (pq 1 (bI (ax (ay 8) (ax (ay 6) (ax (ay 3) (ax (ay 9) (ax (ay 14) aC))))))))
   bw))))))
   (aJ (By 2 wt.nd (ay 4)))))
   (pd 1 (aJ (bF (gm a hr (ax (ay 1) aC)))))))),?_⟩]
 rcases h with⟨fs,g,i,rfl,q⟩|⟨len,r,n,u,t,rule,g,i,rfl,hl,hu,b,q⟩
 ·refine⟨(15,(8,0)),_,_,rfl,rfl,rfl,?_⟩
  exact .inl ⟨rfl,q⟩
 ·rw[0,⟨(15,(8,0)),_,_,rfl,rfl,rfl,?_⟩,⟨rfl,rfl,?_⟩];rw[0,⟨_,_,rfl,rfl,rfl,_,rfl,?_⟩,⟨rfl,?_⟩]
  show tf _ _ [.int n,dw r t rule u] [.fr (bh CChart [.tup [.int len,.int 0]] [(.inl n,dw r t rule u)] g i),.ow (.lst []),(9,0),(9,0),(9,len),(9,0),.un,.un,.un,.un,.un,.un,.un,.un,.un] _
  rw[0,g_ (ba (l:=.un) rfl rfl (g_ (ba (l:=.un) rfl rfl (AH ?_)))),Lx (d:=dw r t rule u) (λQ q=>q) ?_]
  show Bt 6 _ (.tup [.int r,.str t,.str rule,.int 0,.int 0,.int u]) [.fr (bh CChart [.tup [.int len,.int 0]] [(.inl n,dw r t rule u)] g i),.ow (.lst []),(9,0),(9,0),(9,len),(9,0),(9,n),.fr (dw r t rule u),.un,.un,.un,.un,.un,.un,.un] _
  refine O9 rfl (g_ (ba (l:=.un) rfl rfl (g_ (ba (l:=.un) rfl rfl (g_ #[26])))))
  show ft _ _ _ [.fr (bh CChart [.tup [.int len,.int 0]] [(.inl n,dw r t rule u)] g i),.ow (.lst []),(9,0),(9,0),(9,len),(9,0),(9,n),.fr (dw r t rule u),(9,r),.fr (.str t),.fr (.str rule),(9,0),(9,0),(9,u),.un]
  rw[0,⟨_,_,rfl,b,hl,?_⟩,fW (fV.eq (HN (cQ (λQ q=>q) (λQ q=>q) (λQ q=>q)) λ_=>λQ q=>q) (b2:=true) (by simp[hu,B1])) ?_];exact⟨(15,(8,5)),(25,0),_,Fg.refl _,_,Fg.refl _,.inr ⟨_,_,_,rfl,q⟩⟩
def O'(C:Addr):cN:=λds Q=>(∃fs i,∃n:Nat,(3,ds,[bh C [] fs (bG 57 n) i],n<=1000,Q (.new (.lst []))))\/
 ∃len r n u t rule i,∃m:Nat,(3,ds,[bh C [.tup [.int len,.int 0]] [(.inl n,dw r t rule u)] (bG 57 m) i],m<=1000,1<=len/\0<=u/\(rule= "fixed"\/rule= "anchor")/\Q (.new (.lst [q0 n])))
theorem Z5x{f:Addr}(F:(12,"laying_of","laying_of",N5))(Y23:dM P w K mg base 5 "lay" UZ)(d:dM P w K mg base 5 "shut_of" (Mp CChart))(Ys:dM P w K mg base 5 "entries_of" (O_ CChart)):aQ P w K mg base cy (5+1) f fd ["chart"] (aV K (O' CChart)):=by
 rw[0,(19,bf,F,YT,by rintro ds Qd(⟨fs,i,n,rfl,_⟩|⟨len,r,n,u,t,rule,i,m,rfl,_⟩)<;>rfl),⟨_,(aJ (bF (gm Y23 hr (ax (bg Ys hr (ax (ay 0) aC)) (ax (bg d hr (ax (ay 0) aC)) aC))))),?_⟩]
 rcases h with⟨fs,i,n,rfl,hn,q⟩|⟨len,r,n,u,t,rule,i,m,rfl,hm,hl,hu,b,q⟩
 ·exact .inl ⟨_,_,_,rfl,_,_,_,_,rfl,hn,.inl ⟨rfl,q⟩⟩
 ·exact .inr ⟨_,_,_,_,_,_,_,_,rfl,hl,hu,b,_,_,_,_,rfl,hm,.inr ⟨_,_,_,rfl,q⟩⟩
theorem sE(n:Int):(bG 57 n).length=n.toNat:=by
 show(Array.replicate n.toNat 57).size=n.toNat
 simp
theorem Jq(n:Int):bG 57 0++bG 57 n=bG 57 n:=by
 show Str.mk ((Array.replicate (0:Int).toNat 57)++(Array.replicate n.toNat 57))=Str.mk (Array.replicate n.toNat 57)
 simp
def U3:cN:=λds Q=>∃n:Int,(3,ds,[.int n,.int 0],1<=n,Q (.val .bu))
theorem Zt{f:Addr}(F:(12,"check_anchor","check_anchor",Zg)):aQ P w K mg base cy (0+1) f fd ["length", "anchor"] (aV K U3):=by
 refine(19,bf,F,Zi,by rintro ds Qd⟨n,rfl,_⟩;rfl);obtain⟨n,rfl,hn,q⟩:=h
 rw[0,⟨_,(aJ (b8 (eA (f_ dE i_ dG ja (aS.bo (aX)) (aG 1) (aG 0)))
   (aJ dk)
   bw)),?_⟩,cx (b7 (b1:=true) (fV.eq (cQ (λQ q=>q) (λQ q=>q) (λQ q=>q)) (by simp;omega))) ?_];exact aT q
def eb(C:Addr):dO:=λds Q Xd=>∃fs g i,∃y:Int,(3,ds,[bh C [] fs g i,.int y],Sm y,Xd ("NoYear",[]))
theorem p_{f:Addr}(F:(12,"check_year","check_year",N6))(c:eK K CChart)(t:eB K mg base)(cW:(2,mg "len")):aQ P w K mg base (dN P w) (0+1) f fd ["chart", "year"] (bM K mg (eb CChart)):=by
 rw[7,bz,F,YW,by rintro ds Qd Xd⟨fs,g,i,y,rfl,_⟩;rfl,?_];obtain⟨fs,g,i,y,rfl,hy,xd⟩:=h
 rw[0,⟨_,(aJ (b8 (eA (f_ dE i_ dG ja (aS.bo (aX)) (aG 1) (aS.bo (rS cW (b_ (aS.bo (bL c.c c.p3 (aG 0))) cG)))))
   (aJ (hQ (R:=Xd ("NoYear",[])) t.eJ.choose_spec.choose_spec.2 (λr=>L _ _ t.eJ.choose_spec.choose_spec.1 r) (ax (cJ (cg (cD (ay 1) dH))) aC) rfl))
   bw)),?_⟩,fW (b7 (b1:=false) (fV.eq (cQ (λQ q=>q) (λQ q=>q) (λQ q=>⟨_,_,rfl,rfl,rfl,q⟩)) (by simp))) ?_];rw[4,_,rfl,hy,show 1<=9 by decide,xd]
def ec(C:Addr):dO:=λds Q Xd=>∃ys g i,∃n:Int,(3,ds,[bh C ys [] g i,.int n],Sm n,Xd ("NoFeast",[]))
theorem mn{f:Addr}(F:(12,"check_entered","check_entered",Ze))(c:eK K CChart)(t:eB K mg base):aQ P w K mg base (dN P w) (0+1) f fd ["chart", "number"] (bM K mg (ec CChart)):=by
 rw[7,bz,F,Zb,by rintro ds Qd Xd⟨fs,g,i,y,rfl,_⟩;rfl,?_];obtain⟨ys,g,i,n,rfl,hy,xd⟩:=h
 rw[0,⟨_,(aJ (b8 (BD (c8 hr) (aG 1) (aS.bo (bL c.c c.jj (aG 0))))
   (aJ (hQ (R:=Xd ("NoFeast",[])) #[17] (λr=>L _ _ t.bQ.choose_spec.choose_spec.1 r) (ax (cJ (cg (cD (ay 1) dH))) aC) rfl))
   bw)),?_⟩,fW (λQ q=>⟨_,_,rfl,rfl,rfl,q⟩) ?_];rw[4,_,rfl,hy,show 1<=9 by decide,xd]
def U4:cN:=λds Q=>∃r:Int,(3,ds,[.int r],1<=r,r<=9/\Q (.val .bu))
theorem Z3a{f:Addr}(F:(12,"check_rank","check_rank",N7))(gq:nt mg "LOWEST_RANK" 9):aQ P w K mg base cy (0+1) f fd ["rank"] (aV K U4):=by
 refine(19,bf,F,YY,by rintro ds Qd⟨n,rfl,_⟩;rfl);obtain⟨n,rfl,h1,a,q⟩:=h
 rw[0,⟨_,(aJ (b8 (eA (f_ dE dE dG dG (aS.bo (aX)) (aG 0) (aS.bo (kR gq.choose_spec))))
   (aJ dk)
   bw)),?_⟩,cx (b7 (b1:=true) (fV.eq (cQ (λQ q=>q) (λQ q=>q) (λQ q=>q)) (by simp;omega))) ?_];exact aT q
def hU(C:Addr):dO:=λds Q Xd=>∃fs i w,∃n:Int,(3,ds,[bh C [] fs (bG 57 0) i,.tup [.str w,.int n,.int 0]],1<=n,n<=400/\Q (.new (bh C [.tup [.int n,.int 0]] fs (bG 57 n) i)))
theorem t5{f:Addr}(F:(12,"add_year","add_year",N8))(Y4:dM P w K mg base 2 "check_anchor" U3)(a:AF P w K mg base 1 "Chart" CChart (d_ CChart))(J:nt mg "LONGEST_YEAR" 400)(c:eK K CChart)(u:nt mg "OPENING" 9)(kE:(2,mg "str")):aQ P w K mg base (dN P w) (2+1) f fd ["chart", "order"] (bM K mg (hU CChart)):=by
 rw[7,bz,F,Lp,by rintro ds Qd Xd⟨fs,i,w,n,rfl,_⟩;rfl,?_];obtain⟨fs,i,w,n,rfl,h1,h4,q⟩:=h
 rw[0,⟨_,(aB (dS (ay 1) (c9 (n:=3) rfl (aL (aP 2 Lp.nd) (aL (aP 3 Lp.nd) (aL (aP 4 Lp.nd) bZ)))))
   (aB (b8 (eA (f_ dE dE dG dG (aS.bo (aX)) (aG 3) (aS.bo (kR J.choose_spec))))
   (aJ dk)
   bw)
   (aB (eF (aS.bo (bg Y4 hr (24,3,4))))
   (aB (bt 5 Lp.nd (b'.fx (yB (aS.bo (bL c.c c.p3 (aG 0))) (b'.bo (bE (ax (bI (24,3,4)) aC))))))
   (aJ (bF (xq a hr (ax (ay 5) (ax (bL c.c c.jj (aG 0)) (ax (Ir (aS.bo (bL c.c c.oT (aG 0))) (aS.bo (Jd (aS.bo (yQ kE (b_ (aS.bo (kR u.choose_spec)) cG))) (aG 3)))) (ax (bL c.c c.sD (aG 0)) aC))))))))))),?_⟩,⟨rfl,?_⟩]
 show ft (HF _ _ _) _ _ [.fr (bh CChart [] fs (bG 57 0) i),.fr (.tup [.str w,.int n,.int 0]),.fr (.str w),(9,n),(9,0),.un]
 rw[0,cx (b7 (b1:=true) (fV.eq (cQ (λQ q=>q) (λQ q=>q) (λQ q=>q)) (by simp;omega))) (aT ?_),⟨_,rfl,h1,?_⟩];rw[0,⟨_,_,rfl,rfl,rfl,kn,pv,(15,(8,0+1)),?_⟩,⟨_,_,rfl,rfl,rfl,_,_,rfl,rfl,rfl,?_⟩];refine⟨#[2],57,n,rfl,rfl,#[3],?_,?_⟩
 ·show(8,(bG 57 0).length+(bG 57 n).length)
  rw[sE,sE];exact Nat.le_trans (show(0:Int).toNat+n.toNat<=400 by omega) #[2]
 refine⟨_,_,rfl,rfl,rfl,_,_,_,_,rfl,rfl,rfl,?_⟩;rw[2,Jq,q]
def nG(C:Addr):dO:=λds Q Xd=>∃g i w t rule,∃n r u:Int,(3,ds,[bh C [] [] g i,.tup [.str w,.int n,.int r,.str t,.str rule,.int 0,.int 0,.int u]],0<=n,n<=999999/\1<=r/\r<=9/\(rule= "fixed"\/rule= "anchor")/\0<=u/\u<=99/\Q (.new (bh C [] [(.inl n,dw r t rule u)] g i)))
theorem Al{f:Addr}(F:(12,"enter","enter",N9))(Yl:dM P w K mg base 3 "check_rank" U4)(Ya:dM P w K mg base 3 "with_feasts" (UQ CChart))(p:nt mg "GREATEST_NUMBER" 999999)(jm:nt mg "LAST_YEAR" 99)(c:eK K CChart)(kW:(2,mg "dict")){aF aA:Addr}(xB:Ey P w K mg "DAYS" [("fixed",aF),("anchor",aA)])(Pa:vK K aF [0,399])(Pb:vK K aA [-400,400]):aQ P w K mg base (dN P w) (3+1) f fd ["chart", "order"] (bM K mg (nG CChart)):=by
 rw[7,bz,F,AG,by rintro ds Qd Xd⟨g,i,w,t,rule,n,r,u,rfl,_⟩;rfl,?_];obtain⟨g,i,w,t,rule,n,r,u,rfl,n0,n1,r0,r1,a,u0,u1,q⟩:=h
 rw[0,⟨_,(aB (dS (ay 1) (c9 (n:=8) rfl (aL (aP 2 AG.nd) (aL (aP 3 AG.nd) (aL (aP 4 AG.nd) (aL (aP 5 AG.nd) (aL (aP 6 AG.nd) (aL (aP 7 AG.nd) (aL (aP 8 AG.nd) (aL (aP 9 AG.nd) bZ))))))))))
   (aB (eF (aS.bo (bg Yl hr (ax (ay 4) aC))))
   (aB (b8 (eA (f_ dE dE dG dG (aS.bo (aX)) (aG 3) (aS.bo (kR p.choose_spec))))
   (aJ dk)
   bw)
   (aB (dS (pQ xB (ay 6)) (Jg (n:=2) rfl (aL (aP 10 AG.nd) (aL (aP 11 AG.nd) bZ))))
   (aB (b8 (eA (f_ dE dE dG dG (aG 10) (aG 7) (aG 11)))
   (aJ dk)
   bw)
   (aB (b8 (eA (vJ dE dE dE dG dG dG (aS.bo (aX)) (aG 8) (aG 9) (aS.bo (kR jm.choose_spec))))
   (aJ dk)
   bw)
   (aB (b8 (FK (c8 hr) (aG 3) (aS.bo (bL c.c c.jj (aG 0))))
   (aJ dk)
   bw)
   (aB (e6 12 AG.nd (HW kW (b_ (aS.bo (bL c.c c.jj (aG 0))) cG)))
   (aB (w1 12 (c8 hr) (ay 3) (bI (ax (ay 4) (ax (ay 5) (ax (ay 6) (ax (ay 7) (24,8,9)))))))
   (pd 12 (aJ (bF (gm Ya hr (24,0,12)))))))))))))),?_⟩,Lx (d:=.tup [.str w,.int n,.int r,.str t,.str rule,.int 0,.int 0,.int u]) (λQ q=>q) ?_];refine O9 rfl (g_ (ba (l:=.un) rfl rfl (g_ (ba (l:=.un) rfl rfl (g_ (ba (l:=.un) rfl rfl (g_ (ba (l:=.un) rfl rfl (g_ #[26])))))))))
 show ft _ _ _ [.fr (bh CChart [] [] g i),.fr (.tup [.str w,.int n,.int r,.str t,.str rule,.int 0,.int 0,.int u]),.fr (.str w),(9,n),(9,r),.fr (.str t),.fr (.str rule),(9,0),(9,0),(9,u),.un,.un,.un]
 rw[0,⟨_,rfl,r0,r1,?_⟩,cx (b7 (b1:=true) (fV.eq (cQ (λQ q=>q) (λQ q=>q) (λQ q=>q)) (by simp;omega))) (aT ?_)]
 rcases a with rfl|rfl
 ·rw[0,Lx (d:=.adr aF) (λQ q=>⟨_,_,rfl,rfl,q⟩) ⟨_,_,rfl,Pa,rfl,?_⟩,g_ (ba (l:=.un) rfl rfl (g_ (ba (l:=.un) rfl rfl (AH ?_))))]
  show ft _ _ _ [.fr (bh CChart [] [] g i),.fr (.tup [.str w,.int n,.int r,.str t,.str "fixed",.int 0,.int 0,.int u]),.fr (.str w),(9,n),(9,r),.fr (.str t),.fr (.str "fixed"),(9,0),(9,0),(9,u),(9,0),(9,399),.un]
  rw[0,cx (b7 (b1:=true) (fV.eq (cQ (λQ q=>q) (λQ q=>q) (λQ q=>q)) (by simp))) (aT ?_),cx (b7 (b1:=true) (fV.eq (ny (λQ q=>q) (λQ q=>q) (λQ q=>q) (λQ q=>q)) (by simp;omega))) (aT ?_)];refine cx (λQ q=>⟨_,_,rfl,rfl,rfl,q⟩) (aT ?_);exact⟨_,_,rfl,rfl,rfl,LO,(25,0),_,_,_,_,_,rfl,q⟩
 ·rw[0,Lx (d:=.adr aA) (λQ q=>⟨_,_,rfl,rfl,q⟩) ⟨_,_,rfl,Pb,rfl,?_⟩,g_ (ba (l:=.un) rfl rfl (g_ (ba (l:=.un) rfl rfl (AH ?_))))]
  show ft _ _ _ [.fr (bh CChart [] [] g i),.fr (.tup [.str w,.int n,.int r,.str t,.str "anchor",.int 0,.int 0,.int u]),.fr (.str w),(9,n),(9,r),.fr (.str t),.fr (.str "anchor"),(9,0),(9,0),(9,u),(9,-400),(9,400),.un]
  rw[0,cx (b7 (b1:=true) (fV.eq (cQ (λQ q=>q) (λQ q=>q) (λQ q=>q)) (by simp))) (aT ?_),cx (b7 (b1:=true) (fV.eq (ny (λQ q=>q) (λQ q=>q) (λQ q=>q) (λQ q=>q)) (by simp;omega))) (aT ?_)];refine cx (λQ q=>⟨_,_,rfl,rfl,rfl,q⟩) (aT ?_);exact⟨_,_,rfl,rfl,rfl,LO,(25,0),_,_,_,_,_,rfl,q⟩
def kX(C:Addr):dO:=λds Q Xd=>∃ys g i w,∃n:Int,(3,ds,[bh C ys [] g i,.tup [.str w,.int n]],Sm n,Xd ("NoFeast",[]))
theorem xC{f:Addr}(F:(12,"strike","strike",N_))(Y2:uE P w K mg base 1 "check_entered" (ec CChart)):aQ P w K mg base (dN P w) (1+1) f fd ["chart", "order"] (bM K mg (kX CChart)):=by
 rw[7,bz,F,Oa,by rintro ds Qd Xd⟨fs,g,i,w,y,rfl,_⟩;rfl,?_];obtain⟨ys,g,i,w,n,rfl,hy,xd⟩:=h
 rw[5,aB (dS (ay 1) (c9 (n:=2) rfl (aL (aP 2 Oa.nd) (aL (aP 3 Oa.nd) bZ))))
   (aB (eF (aS.bo (cO (R:=λx _=>Xd x) Y2 hr (λx Y r=>B x Y r) (24,0,3))))
   cb)]
 exact⟨rfl,_,_,_,_,rfl,hy,xd⟩
def gu(C:Addr):dO:=λds Q Xd=>∃ys g i w,∃n r:Int,(3,ds,[bh C ys [] g i,.tup [.str w,.int n,.int r]],Sm n,Xd ("NoFeast",[]))
theorem q3{f:Addr}(F:(12,"give_rank","give_rank",Ob))(Y2:uE P w K mg base 1 "check_entered" (ec CChart)):aQ P w K mg base (dN P w) (1+1) f fd ["chart", "order"] (bM K mg (gu CChart)):=by
 rw[7,bz,F,L5,by rintro ds Qd Xd⟨fs,g,i,w,y,r,rfl,_⟩;rfl,?_];obtain⟨ys,g,i,w,n,r,rfl,hy,xd⟩:=h
 rw[5,aB (dS (ay 1) (c9 (n:=3) rfl (aL (aP 2 L5.nd) (aL (aP 3 L5.nd) (aL (aP 4 L5.nd) bZ)))))
   (aB (eF (aS.bo (cO (R:=λx _=>Xd x) Y2 hr (λx Y r=>B x Y r) (24,0,3))))
   cb)]
 exact⟨rfl,_,_,_,_,rfl,hy,xd⟩
def gx(C:Addr):dO:=λds Q Xd=>∃fs g i w,∃d b:Int,(3,ds,[bh C [] fs g i,.tup [.str w,.int 0,.int d,.int b]],0<=d,Sm d/\Xd ("BadDay",[]))
theorem q4{f:Addr}(F:(12,"shut_days","shut_days",Oc))(a:dM P w K mg base 1 "total" O6)(e:dM P w K mg base 1 "lengths_of" (Mo CChart))(t:eB K mg base):aQ P w K mg base (dN P w) (1+1) f fd ["chart", "order"] (bM K mg (gx CChart)):=by
 rw[7,bz,F,Lq,by rintro ds Qd Xd⟨fs,g,i,w,d,b,rfl,_⟩;rfl,?_];obtain⟨fs,g,i,w,d,b,rfl,M,hy,xd⟩:=h
 rw[0,⟨_,(aB (dS (ay 1) (c9 (n:=4) rfl (aL (aP 2 Lq.nd) (aL (aP 3 Lq.nd) (aL (aP 4 Lq.nd) (aL (aP 5 Lq.nd) bZ))))))
   (aB (b8 (eA (vJ dE dE i_ dG dG ja (aS.bo (aX)) (aG 3) (aG 4) (aS.bo (bg a hr (ax (bg e hr (ax (ay 0) aC)) aC)))))
   (aJ (hQ (R:=Xd ("BadDay",[])) t.ji.choose_spec.choose_spec.2 (λr=>L _ _ t.ji.choose_spec.choose_spec.1 r) (ax (cJ (cg (cD (ay 3) (cg (cD (ay 4) dH))))) aC) rfl))
   bw)
   cb)),?_⟩,Lx (d:=.tup [.str w,.int 0,.int d,.int b]) (λQ q=>q) ?_];refine O9 rfl (g_ #[26])
 show ft _ _ _ [.fr (bh CChart [] fs g i),.fr (.tup [.str w,.int 0,.int d,.int b]),.fr (.str w),(9,0),(9,d),(9,b),.un]
 refine fW (b7 (b1:=false) (fV.eq (ny (λQ q=>q) (λQ q=>q) (λQ q=>q) (λQ q=>.inl ⟨_,_,_,rfl,rfl,q⟩)) (by simp))) ?_;exact⟨_,rfl,#[2],_,rfl,hy,(show 1<=9 by decide),xd⟩
def e_(C:Addr):dO:=λds Q Xd=>∃fs g i w,∃y d:Int,(3,ds,[bh C [] fs g i,.tup [.str w,.int y,.int d]],Sm y,Xd ("NoYear",[]))
theorem oy{f:Addr}(F:(12,"move_anchor","move_anchor",Od))(a:uE P w K mg base 1 "check_year" (eb CChart)):aQ P w K mg base (dN P w) (1+1) f fd ["chart", "order"] (bM K mg (e_ CChart)):=by
 rw[7,bz,F,L6,by rintro ds Qd Xd⟨fs,g,i,w,y,d,rfl,_⟩;rfl,?_];obtain⟨fs,g,i,w,y,d,rfl,hy,xd⟩:=h
 rw[5,aB (dS (ay 1) (c9 (n:=3) rfl (aL (aP 2 L6.nd) (aL (aP 3 L6.nd) (aL (aP 4 L6.nd) bZ)))))
   (aB (eF (aS.bo (cO (R:=λx _=>Xd x) a hr (λx Y r=>B x Y r) (24,0,3))))
   cb)]
 exact⟨rfl,_,_,_,_,rfl,hy,xd⟩
def p'(C:Addr):dO:=λds Q Xd=>∃fs g i w,∃y:Int,(3,ds,[bh C [] fs g i,.tup [.str w,.int y]],Sm y,Xd ("NoYear",[]))
theorem C1{f:Addr}(F:(12,"seal","seal",Oe))(a:uE P w K mg base 1 "check_year" (eb CChart)):aQ P w K mg base (dN P w) (1+1) f fd ["chart", "order"] (bM K mg (p' CChart)):=by
 rw[7,bz,F,Of,by rintro ds Qd Xd⟨fs,g,i,w,y,rfl,_⟩;rfl,?_];obtain⟨fs,g,i,w,y,rfl,hy,xd⟩:=h
 rw[5,aB (dS (ay 1) (c9 (n:=2) rfl (aL (aP 2 Of.nd) (aL (aP 3 Of.nd) bZ))))
   (aB (eF (aS.bo (cO (R:=λx _=>Xd x) a hr (λx Y r=>B x Y r) (24,0,3))))
   cb)]
 exact⟨rfl,_,_,_,_,rfl,hy,xd⟩
def kY(C:Addr):dO:=λds Q Xd=>∃fs g i w,∃y:Int,(3,ds,[bh C [] fs g i,.tup [.str w,.int y]],Sm y,Xd ("NoYear",[]))
theorem xD{f:Addr}(F:(12,"unseal","unseal",Og))(a:uE P w K mg base 1 "check_year" (eb CChart)):aQ P w K mg base (dN P w) (1+1) f fd ["chart", "order"] (bM K mg (kY CChart)):=by
 rw[7,bz,F,Oh,by rintro ds Qd Xd⟨fs,g,i,w,y,rfl,_⟩;rfl,?_];obtain⟨fs,g,i,w,y,rfl,hy,xd⟩:=h
 rw[5,aB (dS (ay 1) (c9 (n:=2) rfl (aL (aP 2 Oh.nd) (aL (aP 3 Oh.nd) bZ))))
   (aB (eF (aS.bo (cO (R:=λx _=>Xd x) a hr (λx Y r=>B x Y r) (24,0,3))))
   cb)]
 exact⟨rfl,_,_,_,_,rfl,hy,xd⟩
def cL(C:Addr):dO:=λds Q Xd=>∃c o,ds=[c,.tup o]/\
  (((0,o.head?,.str "strike")/\kX C ds Q Xd)\/((0,o.head?,.str "rank")/\gu C ds Q Xd)\/((0,o.head?,.str "anchor")/\e_ C ds Q Xd)\/((0,o.head?,.str "seal")/\p' C ds Q Xd)\/
   ((0,o.head?,.str "unseal")/\kY C ds Q Xd)\/((0,o.head?,.str "shut")/\gx C ds Q Xd)\/((0,o.head?,.str "enter")/\nG C ds Q Xd)\/((0,o.head?,.str "year")/\hU C ds Q Xd))
theorem vP{f:Addr}(F:(12,"changed","changed",Oi))(nH:ni P w K mg "CHANGES" [("year",cA),("enter",eW),("strike",di),("rank",cj),("shut",ck),("anchor",V),("seal",gn),("unseal",dj)])(l:uF P w K mg base 4 cA (hU CChart))(v:uF P w K mg base 4 eW (nG CChart))(p:uF P w K mg base 4 di (kX CChart))(k:uF P w K mg base 4 cj (gu CChart))(e:uF P w K mg base 4 ck (gx CChart))(a:uF P w K mg base 4 V (e_ CChart))(z:uF P w K mg base 4 gn (p' CChart))(m:uF P w K mg base 4 dj (kY CChart)):aQ P w K mg base (dN P w) (4+1) f fd ["chart", "order"] (bM K mg (cL CChart)):=by
 rw[7,bz,F,Ur,by rintro ds Qd Xd⟨c,o,rfl,_⟩;rfl,?_];obtain⟨c,o,rfl,h⟩:=h
 rw[5,aB (bt 2 Ur.nd (pQ nH.tab (m5 (aG 1) (aS.bo (aX)))))
   (aJ (bF (tW 2 (R:=λx _=>Xd x) hr (λx Y r=>B x Y r) (24,0,1))))]
 rcases h with⟨O,ys,g,i,w,n,W,hy,xd⟩|⟨O,ys,g,i,w,n,r,W,hy,xd⟩|⟨O,fs,g,i,w,y,d,W,hy,xd⟩|⟨O,fs,g,i,w,y,W,hy,xd⟩|⟨O,fs,g,i,w,y,W,hy,xd⟩|⟨O,fs,g,i,w,d,b,W,M,hy,xd⟩|⟨O,g,i,w,t,rule,n,r,u,W,h1,h2,J,h4,h5,h6,C,q⟩|⟨O,fs,i,w,n,W,h1,h2,q⟩
 ·cases W;cases O
  exact⟨_,rfl,_,_,rfl,rfl,_,_,rfl,p,_,_,_,_,_,rfl,hy,xd⟩
 ·cases W;cases O
  exact⟨_,rfl,_,_,rfl,rfl,_,_,rfl,k,_,_,_,_,_,_,rfl,hy,xd⟩
 ·cases W;cases O
  exact⟨_,rfl,_,_,rfl,rfl,_,_,rfl,a,_,_,_,_,_,_,rfl,hy,xd⟩
 ·cases W;cases O
  exact⟨_,rfl,_,_,rfl,rfl,_,_,rfl,z,_,_,_,_,_,rfl,hy,xd⟩
 ·cases W;cases O
  exact⟨_,rfl,_,_,rfl,rfl,_,_,rfl,m,_,_,_,_,_,rfl,hy,xd⟩
 ·cases W;cases O
  exact⟨_,rfl,_,_,rfl,rfl,_,_,rfl,e,_,_,_,_,_,_,rfl,M,hy,xd⟩
 ·cases W;cases O
  exact⟨_,rfl,_,_,rfl,rfl,_,_,rfl,v,_,_,_,_,_,_,_,_,rfl,h1,h2,J,h4,h5,h6,C,q⟩
 ·cases W;cases O
  exact⟨_,rfl,_,_,rfl,rfl,_,_,rfl,l,_,_,_,_,rfl,h1,h2,q⟩
def U5(C:Addr):cN:=λds Q=>∃fs g ts,(3,ds,[bh C [] fs g [],.lst ts],ts=[]\/ ∃n,ts=[p9 n],Q (.val .bu))
theorem Z2m{f:Addr}(F:(12,"check_seals","check_seals",L7))(e:dM P w K mg base 1 "lengths_of" (Mo CChart))(Y1i:dM P w K mg base 1 "days_of" U2)(Y22:dM P w K mg base 1 "date" UT)(c:eK K CChart):aQ P w K mg base cy (1+1) f fd ["chart", "turns"] (aV K (U5 CChart)):=by
 refine(19,bf,F,L8,by rintro ds Qd⟨fs,g,ts,rfl,_⟩;rfl);obtain⟨fs,g,ts,rfl,h,q⟩:=h
 rw[0,⟨_,(aB (bt 2 L8.nd (bg e hr (ax (ay 0) aC)))
   (aJ (pf PassesOwn.never rfl (ay 1) (aP 3 L8.nd)
   (aB (hO 4 L8.nd (nT:=1) (N':=["day", "0acc", "chart", "0turns", "lengths", "0turn", "0days"]) (47,L7,Us) (bg Y1i hr (ax (ay 3) aC)) (λ_ _ _ _ _=>(a' 0 #[2] Zd)) (λ_ _ _ _ _=>(pJ (br (H4 hr.units) H_ (aS.bo (m5 (aS.bo (bg Y22 hr (24,4,0))) (aS.bo (aX)))) (aS.bo (bL c.c c.sD (aG 2))) rfl))) (λ_ _ _ _ _=>(ay 0)))
   (aJ (b8 (K3 (ay 4))
   (aJ dk)
   bw)))))),?_⟩,.inl ⟨_,_,_,rfl,?_⟩]
 rcases h with rfl|⟨n,rfl⟩
 ·exact q
 ·refine⟨_,rfl,_,rfl,Int.le_refl 0,_,rfl,_,_,rfl,rfl,rfl,?_⟩
  rw[1,rfl,rfl,cS.f (cx (λQ q=>q) (aT ⟨_,Fg.refl _,q⟩))]
theorem Gg{κ:Type} [DecidableEq κ]{k:κ}{d:D}:(0,cH [(k,d)] k,d):=by simp[cH]
def Pc:cN:=λds Q=>(ds=[.lst []]/\Q (.new (.dT [])))\/ ∃n,ds=[.lst [q0 n]]/\Q (.new (.dT [([.inl n,.inl 0],.tup [.str "stands",.int 0])]))
theorem Zaa{f:Addr}(F:(12,"places","places",L9)):aQ P w K mg base cy (0+1) f fd ["rows"] (aV K Pc):=by
 rw[0,(19,bf,F,ZE,by rintro ds Qd(⟨rfl,_⟩|⟨n,rfl,_⟩)<;>rfl),⟨_,(aJ (bF (B5 (Nat.lt_of_succ_lt (c8 hr)) (nT:=4) (N':=["number", "year", "how", "day", "0acc", "0rows"]) (47,L9,Ut) (ay 0) (55,4,Mm,Mm,bj (a' 2 #[2] Mm) (bj (a' 3 #[2] Mm) fu)) (λ_ _ _ _ _=>cI) (λ_ _ _ _ _=>(bI (24,0,1))) (λ_ _ _ _ _=>(bI (24,2,3)))))),?_⟩]
 rcases h with⟨rfl,q⟩|⟨n,rfl,q⟩
 ·exact q
 ·rw[3,rfl,cS.t ⟨kn,kn,[.inl n,.inl 0],rfl,(25,0),q⟩]
def U6:cN:=λds Q=>(ds=[.lst [],.lst [],.lst []]/\Q (.new (.lst [])))\/ ∃n,ds=[.lst [.tup [.int n,.int 0]],.lst [],.lst [q0 n]]/\Q (.new (.lst [p9 n]))
theorem Z2d{f:Addr}(F:(12,"turns_among","turns_among",Oj))(a:dM P w K mg base 1 "places" Pc):aQ P w K mg base cy (1+1) f fd ["names", "befores", "afters"] (aV K U6):=by
 rw[0,(19,bf,F,Gd,by rintro ds Qd(⟨rfl,_⟩|⟨n,rfl,_⟩)<;>rfl),⟨_,(aB (bt 3 Gd.nd (bg a hr (ax (ay 1) aC)))
   (aB (bt 4 Gd.nd (bg a hr (ax (ay 2) aC)))
   (aB (e6 5 Gd.nd (bE aC))
   (aB (pf PassesOwn.never rfl (ay 0) (c9 (n:=2) rfl (aL (aP 6 Gd.nd) (aL (aP 7 Gd.nd) bZ)))
   (aB (bt 8 Gd.nd (j3 (c8 hr) (aG 3) (bI (24,6,7))))
   (aB (bt 9 Gd.nd (j3 (c8 hr) (aG 4) (bI (24,6,7))))
   (aJ (b8 (br (da hr.units) cz (aG 8) (aG 9) (aY _))
   (aJ (pq 5 (bI (ax (ay 6) (ax (ay 7) (24,8,9))))))
   bw)))))
   (aJ (m6 5)))))),?_⟩]
 rcases h with⟨rfl,q⟩|⟨n,rfl,q⟩
 ·exact .inl ⟨rfl,.inl ⟨rfl,(15,(8,0)),q⟩⟩
 ·rw[0,.inl ⟨rfl,.inr ⟨n,rfl,(15,(8,0)),rfl,?_⟩⟩,g_ (ba (l:=.un) rfl rfl (g_ (ba (l:=.un) rfl rfl (AH ?_))))]
  show ft _ _ _ [.fr (.lst [.tup [.int n,.int 0]]),.fr (.lst []),.fr (.lst [q0 n]),.fr (.dT []),.fr (.dT [([.inl n,.inl 0],.tup [.str "stands",.int 0])]),.ow (.lst []),(9,n),(9,0),.un,.un]
  rw[0,UO (l:=.un) .bu (λQ q=>⟨kn,[.inl n,.inl 0],rfl,q⟩) rfl rfl ?_,UO (l:=.un) (.tup [.str "stands",.int 0]) (λQ q=>⟨kn,[.inl n,.inl 0],rfl,?_⟩) rfl rfl ?_]
  ·show Q ((cH [(([.inl n,.inl 0]:List Key),_)] [.inl n,.inl 0]).getD .bu)
   rw[2,Gg,q]
  refine fW (λQ q=>⟨rfl,rfl,q⟩) ?_;rw[4,D8,(25,0),_,Fg.refl _,q]
def U7:cN:=λds Q=>(ds=[.lst []]/\Q (.new (.lst [])))\/ ∃n,ds=[.lst [q0 n]]/\Q (.new (.lst [.tup [.int n,.int 0]]))
theorem Z87{f:Addr}(F:(12,"names_of","names_of",L_)):aQ P w K mg base cy (0+1) f fd ["rows"] (aV K U7):=by
 rw[0,(19,bf,F,ZG,by rintro ds Qd(⟨rfl,_⟩|⟨n,rfl,_⟩)<;>rfl),⟨_,(aJ (bF (fK (nT:=4) (N':=["number", "year", "how", "day", "0acc", "0rows"]) (47,L_,Uu) (ay 0) (55,4,Mn,Mn,bj (a' 2 #[2] Mn) (bj (a' 3 #[2] Mn) fu)) (λ_ _ _ _ _=>cI) (λ_ _ _ _ _=>(bI (24,0,1)))))),?_⟩]
 rcases h with⟨rfl,q⟩|⟨n,rfl,q⟩
 ·exact q
 ·rw[3,rfl,cS.t ⟨kn,(25,0),q⟩]
theorem hu9{k:Nat}{A:Around}(hr:bT k A):A.units+9<cLine:=by have:=hr.un;omega
def Pd:cN:=λds Q=>(ds=[.lst [],.lst []]/\Q (.new (.lst [])))\/ ∃n,ds=[.lst [],.lst [q0 n]]/\Q (.new (.lst [p9 n]))
theorem Za6{f:Addr}(F:(12,"turned","turned",Ol))(a:dM P w K mg base 2 "names_of" U7)(Ye:dM P w K mg base 2 "turns_among" U6)(bU:(2,mg "sorted"))(qa:(2,mg "set")):aQ P w K mg base cy (2+1) f fd ["befores", "afters"] (aV K Pd):=by
 rw[0,(19,bf,F,Uv,by rintro ds Qd(⟨rfl,_⟩|⟨n,rfl,_⟩)<;>rfl),⟨_,(aB (bt 2 Uv.nd (b'.fx (xA rfl (hu9 hr) bU qa (aS.bo (bg a hr (ax (ay 0) aC))) (aS.bo (bg a hr (ax (ay 1) aC))))))
   (aJ (bF (gm Ye hr (ax (ay 2) (ax (ay 0) (ax (ay 1) aC))))))),?_⟩]
 rcases h with⟨rfl,q⟩|⟨n,rfl,q⟩
 ·exact .inl ⟨rfl,rfl,.inl ⟨rfl,[],rfl,#[2],.inl ⟨rfl,q⟩⟩⟩
 ·exact .inl ⟨rfl,rfl,.inr ⟨n,rfl,[[n,0]],rfl,(15,1<2),.inr ⟨n,rfl,q⟩⟩⟩
def mq:dO:=λds Q Xd=>∃n y:Int,(3,ds,[.lst [],.int n,.int y],Sm n,Sm y/\Xd ("NoFeast",[]))
theorem t6{f:Addr}(F:(12,"entry_of","entry_of",Om))(t:eB K mg base):aQ P w K mg base (dN P w) (0+1) f fd ["entries", "number", "year"] (bM K mg mq):=by
 rw[7,bz,F,Uw,by rintro ds Qd Xd⟨n,y,rfl,_⟩;rfl,?_];obtain⟨n,y,rfl,hn,hy,xd⟩:=h
 rw[5,aB (pf PassesOwn.leaving rfl (ay 0) (aP 3 Uw.nd)
   (aJ (b8 (br (pz hr.units) cz (aS.bo (Fz (aG 3) (td (aS.bo (aX))) (td (aS.bo (aX))))) (aS.bo (bI (24,1,2))) (aY _))
   (aJ (bq (ay 3)))
   bw)))
   (aJ (hQ (R:=Xd ("NoFeast",[])) #[17] (λr=>L _ _ t.bQ.choose_spec.choose_spec.1 r) (ax (cJ (cg (cD (ay 1) (cg (cD (ay 2) dH))))) aC) rfl))]
 exact⟨_,rfl,hn,_,rfl,hy,(show 1<=9 by decide),xd⟩
def jn:dO:=λds Q Xd=>∃k,∃n y:Int,(3,ds,[.lst [],k,.int n,.int y],Sm n,Sm y/\Xd ("NoFeast",[]))
theorem qb{f:Addr}(F:(12,"reasons_of","reasons_of",Oo))(Y1a:uE P w K mg base 1 "entry_of" mq):aQ P w K mg base (dN P w) (1+1) f fd ["entries", "shut", "number", "year"] (bM K mg jn):=by
 rw[7,bz,F,JG,by rintro ds Qd Xd⟨k,n,y,rfl,_⟩;rfl,?_];obtain⟨k,n,y,rfl,hn,hy,xd⟩:=h
 rw[5,aB (dS (cO (R:=λx _=>Xd x) Y1a hr (λx Y r=>B x Y r) (ax (ay 0) (ax (ay 2) (ax (ay 3) aC)))) (c9 (n:=5) rfl (aL (aP 4 JG.nd) (aL (aP 2 JG.nd) (aL (aP 3 JG.nd) (aL (aP 5 JG.nd) (aL (aP 6 JG.nd) bZ)))))))
   cb]
 exact⟨_,_,rfl,hn,hy,xd⟩
theorem gU{x:Int}(h1: -(10^12)<=x)(h2:x<=10^13):Sm x:=by
 by_cases h:x.natAbs=0
 ·show x.natAbs.log2<1920;rw[h];decide
 ·exact(Nat.log2_lt h).mpr (Nat.lt_of_le_of_lt (show x.natAbs<=10^13 by omega) #[2])
def tS(n:Int):Str:=Str.ofString (toString n)
theorem Jr(h:Sm n):(tS n).length<=1950:=by
 have e:=int_text_length_le (k:=1920) #[2] h;unfold tS;rw[PySem.ofString_length];omega
inductive Pt where
 |i(n:Int)
 |s(x:Str)
def Pt.d:Pt->D
 | .i n=>.int n
 | .s x=>.str x
def Pt.t:Pt->Str
 | .i n=>tS n
 | .s x=>x
def Pt.ok:(1,Pt)
 | .i n=>Sm n
 | .s x=>x.length<=100
theorem Pt.len{p:Pt}(h:p.ok):p.t.length<=2000:=by
 cases p with
 |i n=>have:=Jr h;show(tS n).length<=2000;omega
 |s x=>have h:x.length<=100:=h;show x.length<=2000;omega
def Pe:cN:=λds Q=>∃ps:List Pt,(3,ds,[.tup (ps.map Pt.d)],ps.length<=20,(∀p∈ps,p.ok)/\Q (.val (.str (Txt.join " " (ps.map Pt.t)))))
theorem Z1n{f:Addr}(F:(12,"shown_parts","shown_parts",Ma))(kE:(2,mg "str")):aQ P w K mg base cy (0+1) f fd ["parts"] (aV K Pe):=by
 refine(19,bf,F,ZP,by rintro ds Qd⟨ps,rfl,_⟩;rfl);obtain⟨ps,rfl,hl,hp,q⟩:=h;rw[5,aJ (bq (Iv (b'.bo (54,tN,["part", "0acc", "0parts"],Ma,Uy,ay 0,Zc,yQ kE (b_ (aG 0) cG)))))]
 have key:∀(xs:List Pt)(l:Sl)(T:#[1])(Q:(1,List D))(Y:#[0]),(∀p∈xs,p.ok)->T.length+xs.length<=20->Q ((T++xs.map Pt.t).map D.str)->
   iX (pH 0) yJ (uT Cd (rN (uQ 0) zy)) Y (xs.map Pt.d) [l] (T.map D.str) Q:=by
  intro xs
  induction xs with
  |nil=>intro l T Q Y _ _ b;rw[List.map_nil,List.append_nil]at b;exact b
  |cons x xs ih=>
   intro l T Q Y hx a b;rw[List.length_cons]at a;have step:(T.map D.str).length<sizeLine/\iX (pH 0) yJ (uT Cd (rN (uQ 0) zy)) Y (xs.map Pt.d) [.fr x.d] (T.map D.str++[.str x.t]) Q:=by
    refine⟨by rw[List.length_map];exact rJ #[3],?_⟩;have e:T.map D.str++[.str x.t]=(T++[x.t]).map D.str:=by simp
    rw[2,e,ih _ (T++[x.t]) Q Y (λp hp=>hx p (.tail _ hp)) (by simp;omega) (10,List.append_assoc,b)]
   cases x with
   |i n=>rw[3,λ_=>⟨hx _ (.head _),step⟩,λz=>by cases z]
   |s y=>rw[3,λ_=>step,λz=>by cases z]
 refine key ps .un [] _ _ hp (by simpa using hl) ?_;rw[List.nil_append];refine⟨_,rfl,?_,q⟩
 have g:=StrLaws.joinFits (sep:= " ") (texts:=ps.map Pt.t) (B:=2000) (λy hy=>by
  obtain⟨p,h1,rfl⟩:=List.mem_map.mp hy
  exact Pt.len (hp p h1)) (by
  rw[List.length_map]
  show ps.length*2000+ps.length*1<=16777216
  omega)
 unfold JoinOk;rw[g];rfl
theorem vQ{c:Nat}:∀{a b A B:List Nat},c∉a->c∉b->a++c::A=b++c::B->a=b/\A=B
 |[],[],A,B,_,_,e=>⟨rfl,by simpa using e⟩
 |[],y::b,A,B,_,hb,e=>by
  simp only[List.nil_append,List.cons_append,List.cons.injEq]at e;exact absurd (by rw[e.1];exact .head _) hb
 |x::a,[],A,B,ha,_,e=>by
  simp only[List.nil_append,List.cons_append,List.cons.injEq]at e;exact absurd (by rw[<-e.1];exact .head _) ha
 |x::a,y::b,A,B,ha,hb,e=>by
  simp only[List.cons_append,List.cons.injEq]at e;obtain⟨h1,h2⟩:=vQ (λz=>ha (.tail _ z)) (λz=>hb (.tail _ z)) e.2;rw[3,by rw[e.1,h1],h2]
theorem oU{x y:Str}(h:x.cps.toList=y.cps.toList):x=y:=by
 cases x;cases y
 congr 1
 exact Array.ext' h
theorem vR{c:Nat}:∀{xs ys:#[1]},(11,xs≠[],ys≠[],∀x∈xs,c∉x.cps.toList,∀y∈ys,c∉y.cps.toList,Str.join ⟨#[c]⟩ xs=Str.join ⟨#[c]⟩ ys->xs=ys)
 |[],_,h,_,_,_,_=>absurd rfl h
 |_,[],_,h,_,_,_=>absurd rfl h
 |[x],[y],_,_,_,_,e=>by
  have e:x=y:=e;rw[e]
 |[x],y::z::r,_,_,hx,_,e=>by
  have e:=congrArg (λs:Str=>s.cps.toList) e;simp only[PyProof.Rows.join_one,PyProof.Rows.join_cons_cons,PyProof.Rows.cps_toList_append]at e;exact absurd (by rw[e];simp) (hx x (.head _))
 |x::z::r,[y],_,_,_,hy,e=>by
  have e:=congrArg (λs:Str=>s.cps.toList) e;simp only[PyProof.Rows.join_one,PyProof.Rows.join_cons_cons,PyProof.Rows.cps_toList_append]at e;exact absurd (by rw[<-e];simp) (hy y (.head _))
 |x::z::r,y::a::r2,_,_,hx,hy,e=>by
  have W:=congrArg (λs:Str=>s.cps.toList) e;simp only[PyProof.Rows.join_cons_cons,PyProof.Rows.cps_toList_append,List.append_assoc]at W;obtain⟨h1,h2⟩:=vQ (c:=c) (A:=(Str.join ⟨#[c]⟩ (z::r)).cps.toList) (B:=(Str.join ⟨#[c]⟩ (a::r2)).cps.toList) (hx x (.head _)) (hy y (.head _)) W;rw[oU h1,vR (c:=c) (by simp) (by simp) (λw hw=>hx w (.tail _ hw)) (λw hw=>hy w (.tail _ hw)) (oU h2)]
theorem C2(x y:Str):Txt.split x y≠[]:=by
 unfold Txt.split
 split
 ·simp
 ·split
  ·simp
  ·intro e
   have:=congrArg List.length e;rw[length_partsBetween]at this;simp at this
theorem xE{xs:#[1]}(h:xs≠[])(S:∀x∈xs,c∉x.cps.toList):Txt.split (Txt.join ⟨#[c]⟩ xs) ⟨#[c]⟩=xs:=by
 show Txt.split (Builtin.Str.glued ⟨#[c]⟩ xs) ⟨#[c]⟩=xs
 rw[2,StrLaws.glued_eq_join,vR (C2 _ _) h (StrLaws.split_free _ c) S (StrLaws.join_split _ _)]
abbrev bA(n:Int):Str:=Str.ofString (toString n)
theorem vS(m:Nat):(bA (m:Int)).cps.toList=(Nat.toDigits 10 m).map Char.toNat:=PySem.W.KIN.signs_num m
theorem vT(m:Nat)(h:0<m):(bA (-(m:Int))).cps.toList=45::(Nat.toDigits 10 m).map Char.toNat:=by
 rw[PyProof.Rows.signs_ofString];have e:toString (-(m:Int))= "-"++Nat.repr m:=by
  obtain⟨k,rfl⟩:∃k,m=k+1:=⟨m-1,#[3]⟩;rw[Int.toString_eq_repr,Int.repr_eq_if,if_neg #[3]]
  congr 2
 rw[e,String.toList_append,Nat.toList_repr];rfl
theorem mr(m:Nat):NumText.AllDigits ((Nat.toDigits 10 m).map Char.toNat):=by
 intro c hc;obtain⟨ch,a,e⟩:=List.mem_map.mp hc;have r:=PyProof.Rows.digit_range (Nat.isDigit_of_mem_toDigits #[2] #[2] a);rw[<-e];exact r
theorem oV(m:Nat):(Nat.toDigits 10 m).map Char.toNat≠[]:=λe=>by
 have h:=List.map_eq_nil_iff.mp e;have:(Nat.toDigits 10 m).length≠0:=by
  intro z;have:=(Nat.length_toDigits_le_iff (b:=10) (n:=m) (k:=(Nat.toDigits 10 m).length+1) #[2] #[3]);exact absurd (Nat.length_toDigits_pos (b:=10) (n:=m)) #[3]
 rw[h]at this;exact this rfl
theorem qc{m k:Nat}(hk:0<k)(h:m<10^k):((Nat.toDigits 10 m).map Char.toNat).length<=k:=by
 rw[List.length_map];exact(Nat.length_toDigits_le_iff #[2] hk).mpr h
theorem C3{a b:List Nat}(h:a≠[]):(a++b).head?=a.head?:=by
 cases a with
 |nil=>exact absurd rfl h
 |cons x a=>rfl
theorem Am:∀(m:Nat),0<m->((Nat.toDigits 10 m).map Char.toNat).head?≠some 48:=by
 intro m
 induction m using Nat.strongRecOn with
 |_ m ih=>
  intro hm
  by_cases h:m<10
  ·rw[Nat.toDigits_of_lt_base h]
   have: ∀d:Nat,d<10->0<d->([Nat.digitChar d].map Char.toNat).head?≠some 48:=#[2]
   exact this m h hm
  ·have w:m%10<10:=Nat.mod_lt m #[2]
   have t:Nat.toDigits 10 (m/10)++Nat.toDigits 10 (m%10)=Nat.toDigits 10 (10*(m/10)+m%10):=Nat.toDigits_append_toDigits #[2] #[3] w;rw[Nat.div_add_mod]at t;rw[<-t,List.map_append,C3 (oV _)];exact ih (m/10) #[3] #[3]
theorem j':("-":Str)=(⟨#[45]⟩:Str):=#[10]
theorem xF:("0":Str)=(⟨#[48]⟩:Str):=#[10]
theorem An:(" ":Str)=(⟨#[32]⟩:Str):=#[10]
theorem len_list(x:Str):x.length=x.cps.toList.length:=by simp[Str.length]
theorem C4{x:Str}(h:x.cps.toList=c::cs):(4,Builtin.Str.subAt x ⟨#[c]⟩ 0):=((StrLaws.subAt_one x c 0).mpr (by rw[h];rfl)).2
theorem y9{x:Str}(h:x.cps.toList.head?≠some c):¬(4,Builtin.Str.subAt x ⟨#[c]⟩ 0):=λe=>by
 rw[StrLaws.subAt_eq]at e
 cases hx:x.cps.toList with
 |nil=>rw[hx]at e;exact absurd (show(4,[]==[c])from e) (by simp)
 |cons d ds=>
  rw[hx]at e h;have e:(4,[d]==[c]):=e;have:d=c:=by simpa using e
  rw[this]at h;exact h rfl
theorem qe{x:Str}(h:x.cps.toList=c::cs):(Txt.removeprefix x ⟨#[c]⟩).cps.toList=cs:=by
 unfold Txt.removeprefix;rw[if_pos (C4 h)];have hl:x.length=cs.length+1:=by rw[len_list,h];rfl
 show(29,x.length-1==x.length,x,Builtin.Str.strSub x 1 x.length).cps.toList=cs
 rw[if_neg (by rw[hl];simp),StrLaws.strSub_toList,h,hl];simp
theorem sF{x:Str}(h:x.cps.toList.head?≠some c):Txt.removeprefix x ⟨#[c]⟩=x:=by
 unfold Txt.removeprefix;rw[if_neg (y9 h)];rfl
theorem Ao{x:Str}(h:x.cps.toList.head?≠some c):Txt.startswith x ⟨#[c]⟩=false:=by
 unfold Txt.startswith;rw[Bool.eq_false_iff.mpr (y9 h),Bool.and_false]
theorem C5{x:Str}(h:NumText.AllDigits x.cps.toList)(hn:x.cps.toList≠[]):(4,Txt.isdigit x):=by
 unfold Txt.isdigit;rw[Bool.and_eq_true,decide_eq_true_iff]
 constructor
 ·rw[len_list]
  exact List.length_pos_iff.mpr hn
 ·rw[<-Array.all_toList,List.all_eq_true]
  intro c hc;have r:=h c hc;have: ∀c:Fin 10,(4,Unicode.isDigit (48+c.val)):=#[10]
  have:=this ⟨c-48,#[3]⟩;have e:48+(c-48)=c:=#[3]
  rw[show(48+(⟨c-48,#[3]⟩:Fin 10).val)=c from e]at this;exact this
def nI(x:Str):Bool:=Txt.isdigit (Txt.removeprefix x "-")&&(decide ((Txt.removeprefix x "-").length<=12)&&(decide (x= "0")|| !Txt.startswith (Txt.removeprefix x "-") "0"))
theorem Ap(n:Int):(∃m:Nat,n=m/\(bA n).cps.toList=(Nat.toDigits 10 m).map Char.toNat)\/ ∃m:Nat,0<m/\n= -(m:Int)/\(bA n).cps.toList=45::(Nat.toDigits 10 m).map Char.toNat:=by
 rcases Int.lt_or_le n 0 with h|h
 ·obtain⟨m,hm⟩:=Int.eq_ofNat_of_zero_le (show 0<= -n by omega)
  have e:n= -(m:Int):=#[3]
  subst e;exact .inr ⟨m,#[3],rfl,vT m #[3]⟩
 ·obtain⟨m,rfl⟩:=Int.eq_ofNat_of_zero_le h
  exact .inl ⟨m,rfl,vS m⟩
theorem C6(h:NumText.AllDigits cs)(hc:c<48\/57<c):cs.head?≠some c:=λe=>by
 cases cs with
 |nil=>cases e
 |cons d ds=>
  have:=h d (.head _);cases e;omega
theorem qf(M: -(10^12)<n)(h1:n<10^12):(3,nI (bA n),true,(0,intText? (bA n),n),(bA n).length<=13):=by
 have fin:∀{x:Str}{m:Nat},m<10^12->(Txt.removeprefix x "-").cps.toList=(Nat.toDigits 10 m).map Char.toNat->(m=0->x= "0")->(4,nI x):=λ{x m}hm hc hz=>by
  unfold nI;rw[C5 (by rw[hc];exact mr m) (by rw[hc];exact oV m),Bool.true_and,Bool.and_eq_true,decide_eq_true_iff];refine⟨by rw[len_list,hc];exact qc #[2] hm,?_⟩
  by_cases e:m=0
  ·rw[decide_eq_true (hz e)];rfl
  ·rw[xF,Ao (10,hc,Am m #[3])]
   simp
 rcases Ap n with⟨m,e,hc⟩|⟨m,hm,e,hc⟩
 ·have hp:Txt.removeprefix (bA n) "-"=bA n:=by
   rw[j'];exact sF (10,hc,C6 (mr m) (.inl #[2]))
  have hl:(bA n).length<=12:=by rw[len_list,hc];exact qc #[2] #[3]
  refine⟨fin (m:=m) #[3] (10,hp,hc) (λz=>?_),?_,#[3]⟩
  ·subst z
   rw[e];decide+kernel
  ·have:=PySem.intText_digits (x:=bA n) (by rw[hc];exact mr m) (by rw[hc];exact oV m) #[3]
   rw[hc,PySem.W.KIN.val_back]at this;rw[this,e]
 ·have hl:(bA n).length<=13:=by
   rw[len_list,hc,List.length_cons];have:=qc (m:=m) (k:=12) #[2] #[3];omega
  refine⟨fin (m:=m) #[3] (by rw[j'];exact qe hc) (λz=>#[3]),?_,hl⟩;have:=PySem.intText_neg (x:=bA n) hc (mr m) (oV m) #[3];rw[PySem.W.KIN.val_back]at this;rw[this,e]
theorem qg(n:Int):32∉(bA n).cps.toList:=PyProof.Rows.int_text_free' 32 ⟨#[2],#[2]⟩ n
theorem xG(x:Str):(Txt.removeprefix x "-").length<=x.length:=by
 by_cases h:x.cps.toList.head?=some 45
 ·cases hx:x.cps.toList with
  |nil=>rw[hx]at h;cases h
  |cons c cs=>
   rw[hx]at h;cases h;rw[len_list,j',qe hx,len_list,hx,List.length_cons];omega
 ·rw[j',sF h]
  exact Nat.le_refl _
def U8:cN:=λds Q=>∃x:Str,(3,ds,[.str x],x.length<=20000,Q (.val (.bl (nI x))))
theorem Z6g{f:Addr}(F:(12,"is_number","is_number",Oq))(L:nt mg "MOST_FIGURES" 12)(cW:(2,mg "len")):aQ P w K mg base cy (0+1) f fd ["text"] (aV K U8):=by
 refine(19,bf,F,Ux,by rintro ds Qd⟨x,rfl,_⟩;rfl);obtain⟨x,rfl,hl,q⟩:=h
 rw[5,aB (bt 1 Ux.nd (Ci (ay 0) (bb)))
   (aB (b8 (oJ.pt (jb (eA (lU (zX (ay 1)))) (iW (br Fi Fu (aS.bo (Iw cW (b_ (aG 1) cG))) (aS.bo (kR L.choose_spec)) (aY _)))))
   (aJ (bq (kN)))
   bw)
   (aJ (bq (HA (lR fk c' (aG 0) (aS.bo (bb)) (aY _)) (ym (Kc (Cg (ay 1) (bb))))))))]
 have hz:(8,x.length):=Nat.le_trans hl #[2];refine⟨x,rfl, "-",rfl,hz,?_⟩;have a:(8,(Txt.removeprefix x "-").length):=Nat.le_trans (xG x) hz;unfold nI at q;generalize S:Txt.removeprefix x "-"=f at q a;refine yx (rT (b1:=!Txt.isdigit f) (b2:=decide (f.length>12)) (b7 (λQ q=>⟨f,congrArg D.str S,q⟩)) (λ_=>fV.eq (λQ q=>⟨f,congrArg (λz=>[D.str z]) S,a,q⟩) (by rw[decide_eq_decide];omega))) (λhc=>?_) (λhc=>?_)
 ·have e:(Txt.isdigit f&&(decide (f.length<=12)&&(decide (x= "0")|| !Txt.startswith f "0")))=false:=by
   rcases Bool.or_eq_true_iff.mp hc with z|z
   ·rw[Bool.not_eq_true']at z;rw[z];rfl
   ·have:=of_decide_eq_true z
    rw[decide_eq_false (show¬f.length<=12 by omega)];simp
  rw[e]at q;exact q
 ·rw[Bool.or_eq_false_iff]at hc
  have h1:(4,Txt.isdigit f):=by simpa using hc.1
  have h2:f.length<=12:=by have:=of_decide_eq_false hc.2;omega
  rw[h1,decide_eq_true h2,Bool.true_and,Bool.true_and]at q;refine aT ?_
  exact tn (HP (b1:=decide (x= "0")) (b2:=!Txt.startswith f "0") (lH.eq (λQ q=>q) (by cases decide (x= "0")<;>rfl)) (λ_=>D6 (λQ q=>⟨f,congrArg D.str S, "0",rfl,trivial,q⟩))) q
def y_(x a:Str):Bool:=if a= "way"then["moves", "stays", "lapses"].any (λz=>z==x)else if a= "rule"then["fixed", "anchor"].any (λz=>z==x)else nI x
def U9:cN:=λds Q=>∃x a:Str,(3,ds,[.str x,.str a],x.length<=20000,Q (.val (.bl (y_ x a))))
theorem Zba{f:Addr}(F:(12,"fits","fits",Ot))(Yz:dM P w K mg base 1 "is_number" U8){aW aR:Addr}(xH:(0,mg "WAYS",.ref aW))(t7:(0,mg "RULES",.ref aR))(gw:vq K aW ["moves", "stays", "lapses"])(gr:vq K aR ["fixed", "anchor"]):aQ P w K mg base cy (1+1) f fd ["text", "sort"] (aV K U9):=by
 refine(19,bf,F,ZM,by rintro ds Qd⟨x,s,rfl,_⟩;rfl);obtain⟨x,a,rfl,hl,q⟩:=h
 rw[5,aB (b8 (br fk c' (aG 1) (aS.bo (bb)) (aY _))
   (aJ (bq (lR rF Cb (aG 0) (aS.bo (Ct xH)) rfl)))
   bw)
   (aB (b8 (br fk c' (aG 1) (aS.bo (bb)) (aY _))
   (aJ (bq (lR rF Cb (aG 0) (aS.bo (Ct t7)) rfl)))
   bw)
   (aJ (bq (bg Yz hr (ax (ay 0) aC)))))]
 unfold y_ at q;refine FG (p:=a= "way") (λQ q=>q) (λhs=>?_) (λhs=>?_)
 ·rw[if_pos hs]at q
  exact tn (lH.eq (λQ q=>⟨x,aW,_,rfl,rfl,gw,q⟩) (by simp)) q
 rw[if_neg hs]at q;refine FG (p:=a= "rule") (λQ q=>q) (λd=>?_) (λd=>?_)
 ·rw[if_pos d]at q
  exact tn (lH.eq (λQ q=>⟨x,aR,_,rfl,rfl,gr,q⟩) (by simp)) q
 rw[if_neg d]at q;exact⟨x,rfl,hl,q⟩
theorem qh(M: -(10^12)<n)(h1:n<10^12):(4,y_ (bA n) "number"):=by
 unfold y_;rw[if_neg #[2],if_neg #[2]];exact(qf M h1).1
def Pf(K:PySem.W.Frag):cN:=λds Q=>∃(ns:List Int)(d:D),(3,ds,[.lst (ns.map λn=>.str (bA n)),d],Cr K d (ns.map λ_=>.str "number"),(∃a,ns=[a]\/ ∃b,ns=[a,b])/\(∀n∈ns,-(10^12)<n/\n<10^12)/\Q (.val (.tup (ns.map D.int))))
theorem Z3c{f:Addr}(F:(12,"read_parts","read_parts",Ou))(Y1x:dM P w K mg base 2 "fits" U9)(cW:(2,mg "len"))(qi:(2,mg "zip"))(kC:(2,mg "int"))(hV:(2,mg "tuple")):aQ P w K mg base cy (2+1) f fd ["texts", "sorts"] (aV K (Pf K)):=by
 refine(19,bf,F,L',by rintro ds Qd⟨ns,d,rfl,_⟩;rfl);obtain⟨ns,d,rfl,O,hn,hs,q⟩:=h
 rw[0,⟨_,(aB (b8 (br yc ta (aS.bo (rS cW (b_ (aG 0) cG))) (aS.bo (IF cW (b_ (aG 1) cG))) (aY _))
   (aJ dk)
   bw)
   (aB (e6 2 L'.nd (bE aC))
   (aB (EK PassesOwn.never rfl rfl qi (24,0,1) (c9 (n:=2) rfl (aL (aP 3 L'.nd) (aL (aP 4 L'.nd) bZ)))
   (aB (b8 (eA (lU (bg Y1x hr (24,3,4))))
   (aJ dk)
   bw)
   (aJ (pq 2 (tb (br fk c' (aG 4) (aS.bo (bb)) (aY _)) (Cj kC (b_ (aG 3) cG)) (ay 3))))))
   (aJ (bq (EE hV (b_ (aG 2) cG))))))),?_⟩,cx (fV.eq (λQ q=>⟨d,_,rfl,.inr O,q⟩) (by simp)) (aT ?_)];refine⟨Nat.zero_le _,_,d,_,rfl,O,?_⟩;obtain⟨a,rfl|⟨b,rfl⟩⟩:=hn
 ·rw[0,⟨rfl,?_⟩,g_ (ba (l:=.un) rfl rfl (g_ (ba (l:=.un) rfl rfl (AH ?_))))]
  show ft _ _ _ [.fr (.lst [.str (bA a)]),.fr d,.ow (.lst []),.fr (.str (bA a)),.fr (.str "number")]
  have x:=qf (hs a (.head _)).1 (hs a (.head _)).2;rw[0,cx (b7 (b1:=true) (λQ q=>⟨_,_,rfl,Nat.le_trans x.2.2 #[2],(10,qh (hs a (.head _)).1 (hs a (.head _)).2,q)⟩)) (aT ?_),cS.t ⟨_,a,rfl,x.2.1,Nat.le_trans x.2.2 #[2],(25,0),_,Fg.refl _,?_⟩];rw[1,_,rfl,q]
 ·rw[0,⟨rfl,?_⟩,g_ (ba (l:=.un) rfl rfl (g_ (ba (l:=.un) rfl rfl (AH ?_))))]
  show ft _ _ _ [.fr (.lst [.str (bA a),.str (bA b)]),.fr d,.ow (.lst []),.fr (.str (bA a)),.fr (.str "number")]
  have x:=qf (hs a (.head _)).1 (hs a (.head _)).2;rw[0,cx (b7 (b1:=true) (λQ q=>⟨_,_,rfl,Nat.le_trans x.2.2 #[2],(10,qh (hs a (.head _)).1 (hs a (.head _)).2,q)⟩)) (aT ?_),cS.t ⟨_,a,rfl,x.2.1,Nat.le_trans x.2.2 #[2],(25,0),_,Fg.refl _,?_⟩];rw[0,⟨rfl,?_⟩,g_ (ba (l:=.fr (.str (bA a))) rfl rfl (g_ (ba (l:=.fr (.str "number")) rfl rfl (AH ?_))))]
  show ft _ _ _ [.fr (.lst [.str (bA a),.str (bA b)]),.fr d,.ow (.lst [.int a]),.fr (.str (bA b)),.fr (.str "number")]
  have m:=qf (hs b (.tail _ (.head _))).1 (hs b (.tail _ (.head _))).2;rw[0,cx (b7 (b1:=true) (λQ q=>⟨_,_,rfl,Nat.le_trans m.2.2 #[2],(10,qh (hs b (.tail _ (.head _))).1 (hs b (.tail _ (.head _))).2,q)⟩)) (aT ?_),cS.t ⟨_,b,rfl,m.2.1,Nat.le_trans m.2.2 #[2],(25,1),_,Fg.refl _,?_⟩];rw[1,_,rfl,q]
def U_:cN:=λds Q=>∃(x:Str)(y:Int),(3,ds,[.str x],x.length<=16384,(3,Txt.split x " ",[("seal":Str),bA y],-(10^12)<y,y<10^12/\Q (.val (.tup [.str "seal",.int y]))))
theorem Zbm{f:Addr}(F:(12,"read","read",Ov))(Yr:dM P w K mg base 3 "read_parts" (Pf K))(mu:ni P w K mg "ORDERS" [("year",nB),("enter",j_),("strike",gQ),("rank",nC),("shut",nE),("anchor",gS),("seal",e8),("unseal",gT)])(gs:vq K e8 ["number"]):aQ P w K mg base cy (3+1) f fd ["text"] (aV K U_):=by
 refine(19,bf,F,Ow,by rintro ds Qd⟨x,y,rfl,_⟩;rfl);obtain⟨x,y,rfl,hl,lK,M,h1,q⟩:=h
 rw[0,⟨_,(aB (dS (b'.fx (yR (ay 0) (bb))) (Cs rfl (aL (aP 1 Ow.nd) (vu (aP 2 Ow.nd) bZ))))
   (aB (b8 (Cu mu (ay 1))
   (aJ dk)
   bw)
   (aJ (bq (Cn (aS.bo (bI (ax (ay 1) aC))) (aS.bo (bg Yr hr (ax (ay 2) (ax (pQ mu.tab (ay 1)) aC))))))))),?_⟩,⟨x,rfl, " ",rfl,⟨#[2],hl⟩,?_⟩];rw[0,⟨.str "seal",[.str (bA y)],congrArg (λz=>D.lst (z.map D.str)) lK,(15,1<=16384),?_⟩,cx (λQ q=>⟨_,rfl,q⟩) (aT ?_)];refine⟨pv, "seal",e8,rfl,rfl,[y],.adr e8,rfl,.inr ⟨e8,["number"],rfl,gs,rfl⟩,⟨y,.inl rfl⟩,λn hn=>(10,List.mem_singleton.mp hn,⟨M,h1⟩),?_⟩;exact⟨_,_,rfl,rfl,(λz=>by cases z),(λz=>by cases z),(15,(8,1+1)),q⟩
def U':cN:=Pe
theorem Zb2{f:Addr}(F:(12,"shown","shown",Ox))(Yc:dM P w K mg base 1 "shown_parts" Pe):aQ P w K mg base cy (1+1) f fd ["order"] (aV K U'):=by
 refine(19,bf,F,ZR,by rintro ds Qd⟨ps,rfl,_⟩;rfl);obtain⟨ps,rfl,h⟩:=h;rw[5,aJ (bq (bg Yc hr (ax (ay 0) aC)))];rw[1,ps,rfl,h]
def Va:cN:=λds Q=>ds=[.dK []]/\Q (.new (.lst []))
theorem Z4e{f:Addr}(F:(12,"stretches","stretches",Oz))(bU:(2,mg "sorted")):aQ P w K mg base cy (0+1) f fd ["shut"] (aV K Va):=by
 refine(19,bf,F,OA,by rintro ds Qd⟨rfl,_⟩;rfl);obtain⟨rfl,q⟩:=h
 rw[5,aB (e6 1 OA.nd (bE aC))
   (aB (pf PassesOwn.never rfl (b'.fx (tZ rfl bU (b_ (aG 0) cG))) (aP 2 OA.nd)
   cb)
   (aJ (m6 1)))]
 rw[1,(15,(8,0)),(15,0<2),q]
def qj(r n:Int)(t rule:Str)(u:Int):D:=.tup [.str "enter",.int n,.int r,.str t,.str rule,.int 0,.int 0,.int u]
def Vb(C:Addr):cN:=λds Q=>∃m:Nat,m<=1000/\((ds=[bh C [] [] (bG 57 m) []]/\Q (.new (.lst [])))\/ ∃n r t rule u,ds=[bh C [] [(.inl n,dw r t rule u)] (bG 57 m) []]/\Q (.new (.lst [qj r n t rule u])))
theorem Z4c{f:Addr}(F:(12,"orders_of","orders_of",Jn))(Yv:dM P w K mg base 1 "stretches" Va)(d:dM P w K mg base 1 "shut_of" (Mp CChart))(c:eK K CChart)(bU:(2,mg "sorted")):aQ P w K mg base cy (1+1) f fd ["chart"] (aV K (Vb CChart)):=by
 refine(19,bf,F,Ls,by rintro ds Qd⟨m,_,(⟨rfl,_⟩|⟨n,r,t,rule,u,rfl,_⟩)⟩<;>rfl);obtain⟨m,hm,h⟩:=h
 rw[5,aB (zN 1 Ls.nd (nT:=2) (N':=["length", "anchor", "0acc", "0chart", "0orders"]) (47,Jn,Lr) (bL c.c c.p3 (aG 0)) (55,2,UN,UN,fu) (λ_ _ _ _ _=>cI) (λ_ _ _ _ _=>(bI (ax (bb) (ax (ay 0) (ax (ay 1) aC))))))
   (aB (xw 1 Ls.nd (54,fK,["number", "0acc", "chart", "0orders"],Jn,Lr,b'.fx (tZ rfl bU (b_ (aS.bo (bL c.c c.jj (aG 0))) cG)),Z1d,Cn (aS.bo (bI (ax (bb) (ax (ay 0) aC)))) (aS.bo (tE (c8 hr) (aS.bo (bL c.c c.jj (aG 2))) (aG 0)))))
   (aB (xw 1 Ls.nd (fK (nT:=3) (N':=["first", "last", "bound", "0acc", "0chart", "0orders"]) (47,Jn,Lr) (bg Yv hr (ax (bg d hr (ax (ay 0) aC)) aC)) (55,3,O5,O5,bj (a' 2 #[2] O5) fu) (λ_ _ _ _ _=>cI) (λ_ _ _ _ _=>(bI (ax (bb) (ax (ay 0) (24,1,2)))))))
   (aB (xw 1 Ls.nd (54,fK,["year", "0acc", "0chart", "0orders"],Jn,Lr,bL c.c c.sD (aG 0),Z1o,bI (ax (bb) (ax (ay 0) aC))))
   (aJ (m6 1)))))]
 rcases h with⟨rfl,q⟩|⟨n,r,t,rule,u,rfl,q⟩
 ·exact⟨_,_,rfl,rfl,rfl,_,_,rfl,rfl,rfl,(15,0<2),(15,(8,0+0)),_,_,_,m,rfl,hm,rfl,(15,(8,0+0)),_,_,rfl,rfl,rfl,(15,(8,0+0)),q⟩
 ·refine⟨_,_,rfl,rfl,rfl,_,_,rfl,rfl,rfl,(15,1<2),cS.t ⟨kn,_,_,rfl,rfl,rfl,_,Gg,_,_,rfl,rfl,(λz=>by cases z),(λz=>by cases z),(15,(8,2+6)),(25,0),(15,(8,0+1)),?_⟩⟩
  exact⟨_,_,_,m,rfl,hm,rfl,(15,(8,1+0)),_,_,rfl,rfl,rfl,(15,(8,1+0)),q⟩
abbrev Gh(C:Addr):D:=bh C [] [] (bG 57 0) []
def cM(C:Addr)(c:D)(a:List D):D:=.obj C [(.inr "chart",c),(.inr "laid",.lst a)]
structure fm(K:PySem.W.Frag)(C:Addr):Prop where
 c:qI K C
 gX:bS K C "chart"
 laid:bS K C "laid"
def eX(f h:Addr):qJ:=λds d Q _=>(3,ds,[],d=.obj f [],Q .bu (cM f (Gh h) []))
theorem q5{f:Addr}(F:(12,"__init__","Book.__init__",OB))(Y18:dM P w K mg base 3 "new_chart" (UP CChart))(b:fm K CBook):aQ P w K mg base cy (3+1) f fd ["self"] (liftM K mg (17,eX)):=by
 refine j7 F ZW (by rintro ds d Qd Xd⟨rfl,_⟩;rfl) (λj A outer s H G E p hr ds d Qd Xd h=>?_);obtain⟨rfl,rfl,q⟩:=h
 rw[5,aB (dY 0 b.c b.gX (EN Y18 hr))
   (aJ (dY 0 b.c b.laid (b'.fx (bE aC))))]
 exact⟨rfl,_,rfl,rfl,rfl,(15,0<900),(15,(8,0)),rfl,rfl,(15,1<900),_,rfl,q⟩
def Mq(f h:Addr):cN:=λds Q=>∃fs g i a,ds=[cM f (bh h [] fs g i) a]/\Q (.new (.lst []))
theorem Zw{f:Addr}(F:(12,"lengths","Book.lengths",Zl))(e:dM P w K mg base 1 "lengths_of" (Mo CChart))(b:fm K CBook):aQ P w K mg base cy (1+1) f fd ["self"] (aV K (Mq CBook CChart)):=by
 refine(19,bf,F,Zm,by rintro ds Qd⟨fs,g,i,a,rfl,_⟩;rfl);obtain⟨fs,g,i,a,rfl,q⟩:=h;rw[5,aJ (bF (gm e hr (ax (bL b.c b.gX (aG 0)) aC)))];exact⟨_,_,rfl,rfl,rfl,.inl ⟨_,_,_,rfl,q⟩⟩
def Vc(f h:Addr):cN:=λds Q=>∃ys fs g a,ds=[cM f (bh h ys fs g []) a]/\Q (.new (.lst []))
theorem Z2l{f:Addr}(F:(12,"sealed","Book.sealed",OD))(c:eK K CChart)(b:fm K CBook)(gy:(2,mg "list")):aQ P w K mg base cy (0+1) f fd ["self"] (aV K (Vc CBook CChart)):=by
 refine(19,bf,F,Z_,by rintro ds Qd⟨ys,fs,g,a,rfl,_⟩;rfl);obtain⟨ys,fs,g,a,rfl,q⟩:=h;rw[5,aJ (bF (Bu gy (b_ (aS.bo (bL c.c c.sD (aS.bo (bL b.c b.gX (aG 0))))) cG)))];exact⟨_,_,rfl,rfl,rfl,_,_,rfl,rfl,rfl,q⟩
def Pg(f h:Addr):cN:=λds Q=>∃ys fs i a,∃m:Nat,(3,ds,[cM f (bh h ys fs (bG 57 m) i) a],m<=1000,Q (.new (.dK [])))
theorem Z4h{f:Addr}(F:(12,"shut","Book.shut",OE))(d:dM P w K mg base 1 "shut_of" (Mp CChart))(b:fm K CBook):aQ P w K mg base cy (1+1) f fd ["self"] (aV K (Pg CBook CChart)):=by
 refine(19,bf,F,Z5g,by rintro ds Qd⟨ys,fs,i,a,m,rfl,_⟩;rfl);obtain⟨ys,fs,i,a,m,rfl,hm,q⟩:=h;rw[5,aJ (bF (gm d hr (ax (bL b.c b.gX (aG 0)) aC)))];exact⟨_,_,rfl,rfl,rfl,_,_,_,_,rfl,hm,q⟩
def Zv(f h:Addr):cN:=λds Q=>∃c a,ds=[cM f c a]/\((∃fs g i,c=bh h [] fs g i/\Q (.new (.lst [])))\/
 ∃len r n u t rule g i,(3,c,bh h [.tup [.int len,.int 0]] [(.inl n,dw r t rule u)] g i,1<=len,0<=u/\(rule= "fixed"\/rule= "anchor")/\Q (.new (.lst [jl r n t]))))
theorem Zn{f:Addr}(F:(12,"entries","Book.entries",Zf))(Ys:dM P w K mg base 5 "entries_of" (O_ CChart))(b:fm K CBook):aQ P w K mg base cy (5+1) f fd ["self"] (aV K (Zv CBook CChart)):=by
 refine(19,bf,F,Z13,by rintro ds Qd⟨c,a,rfl,_⟩;rfl);obtain⟨c,a,rfl,h⟩:=h;rw[5,aJ (bF (gm Ys hr (ax (bL b.c b.gX (aG 0)) aC)))]
 rcases h with⟨fs,g,i,rfl,q⟩|⟨len,r,n,u,t,rule,g,i,rfl,hl,hu,d,q⟩
 ·exact⟨_,_,rfl,rfl,rfl,.inl ⟨_,_,_,rfl,q⟩⟩
 ·exact⟨_,_,rfl,rfl,rfl,.inr ⟨_,_,_,_,_,_,_,_,rfl,hl,hu,d,q⟩⟩
def Mr(f:Addr):cN:=λds Q=>∃c a,ds=[cM f c a]/\Q (.new (.lst a))
theorem Z4w{f:Addr}(F:(12,"rows","Book.rows",OF))(b:fm K CBook)(gy:(2,mg "list")):aQ P w K mg base cy (0+1) f fd ["self"] (aV K (Mr CBook)):=by
 refine(19,bf,F,Z6p,by rintro ds Qd⟨c,a,rfl,_⟩;rfl);obtain⟨c,a,rfl,q⟩:=h;rw[5,aJ (bF (Bu gy (b_ (aS.bo (bL b.c b.laid (aG 0))) cG)))];exact⟨_,_,rfl,rfl,rfl,q⟩
def fP(f:Addr):dO:=λds Q Xd=>∃c,∃n y:Int,(3,ds,[cM f c [],.int n,.int y],Sm n,Sm y/\Xd ("NoFeast",[]))
theorem qk{f:Addr}(F:(12,"place","Book.place",OG))(a:dM P w K mg base 1 "places" Pc)(b:fm K CBook)(t:eB K mg base):aQ P w K mg base (dN P w) (1+1) f fd ["self", "number", "year"] (bM K mg (fP CBook)):=by
 rw[7,bz,F,UA,by rintro ds Qd Xd⟨c,n,y,rfl,_⟩;rfl,?_];obtain⟨c,n,y,rfl,hn,hy,xd⟩:=h
 rw[0,⟨_,(aB (bt 3 UA.nd (j3 (c8 hr) (aS.bo (bg a hr (ax (bL b.c b.laid (aG 0)) aC))) (bI (24,1,2))))
   (aB (b8 (br sP tJ (aG 3) (aS.bo (e2)) (aY _))
   (aJ (hQ (R:=Xd ("NoFeast",[])) #[17] (λr=>L _ _ t.bQ.choose_spec.choose_spec.1 r) (ax (cJ (cg (cD (ay 1) (cg (cD (ay 2) dH))))) aC) rfl))
   bw)
   cb)),?_⟩,⟨_,_,rfl,rfl,rfl,.inl ⟨rfl,kn,[.inl n,.inl y],rfl,?_⟩⟩];exact fW (λQ q=>q) ⟨_,rfl,hn,_,rfl,hy,(show 1<=9 by decide),xd⟩
def Ph(y d:Int)(q x:Prop):Prop:=(3,y,0,0<=d,q)\/(¬(y=0/\0<=d)/\x)
def eY(f h:Addr):dO:=λds Q Xd=>∃fs g i,∃y d:Int,(3,ds,[cM f (bh h [] fs g i) [],.int y,.int d],Sm y,Sm d/\((3,y,0,0<=d,Q (.val (.tup [.bu,.lst []])))\/(¬(y=0/\0<=d)/\Xd ("NoDay",[]))))
theorem q_{f:Addr}(F:(12,"page","Book.page",OH))(Y1j:dM P w K mg base 2 "page_of" U0)(a:uE P w K mg base 2 "line" p7)(c:eI P w K mg base 2 CBook "lengths" (17,Mq))(b:fm K CBook):aQ P w K mg base (dN P w) (2+1) f fd ["self", "year", "day"] (bM K mg (17,eY)):=by
 rw[7,bz,F,Z6j,by rintro ds Qd Xd⟨fs,g,i,y,d,rfl,_⟩;rfl,?_];obtain⟨fs,g,i,y,d,rfl,hy,hd,h⟩:=h;rw[5,aJ (bq (bg Y1j hr (ax (bL b.c b.laid (aG 0)) (ax (cO (R:=λx _=>Xd x) a hr (λx Y r=>B x Y r) (ax (b'.fx (cv c hr (ay 0))) (ax (ay 1) (ax (ay 2) aC)))) aC))))]
 rcases h with⟨h1,h2,q⟩|⟨hn,xd⟩
 ·exact⟨_,_,rfl,rfl,rfl,rfl,rfl,rfl,_,_,_,_,rfl,_,_,rfl,hy,hd,.inl ⟨h1,h2,_,rfl,q⟩⟩
 ·exact⟨_,_,rfl,rfl,rfl,rfl,rfl,rfl,_,_,_,_,rfl,_,_,rfl,hy,hd,.inr ⟨hn,xd⟩⟩
def c6(f h:Addr):dO:=λds Q Xd=>∃fs g i,∃y d:Int,(3,ds,[cM f (bh h [] fs g i) [],.int y,.int d],Sm y,Sm d/\((3,y,0,0<=d,Q (.val .bu))\/(¬(y=0/\0<=d)/\Xd ("NoDay",[]))))
theorem nJ{f:Addr}(F:(12,"evening","Book.evening",Zs))(Yo:dM P w K mg base 6 "evening_of" U1)(a:uE P w K mg base 6 "line" p7)(c:eI P w K mg base 6 CBook "lengths" (17,Mq))(C:eI P w K mg base 6 CBook "entries" (17,Zv))(b:fm K CBook):aQ P w K mg base (dN P w) (6+1) f fd ["self", "year", "day"] (bM K mg (17,c6)):=by
 rw[7,bz,F,Z11,by rintro ds Qd Xd⟨fs,g,i,y,d,rfl,_⟩;rfl,?_];obtain⟨fs,g,i,y,d,rfl,hy,hd,h⟩:=h;rw[5,aJ (bq (bg Yo hr (ax (b'.fx (cv C hr (ay 0))) (ax (bL b.c b.laid (aG 0)) (ax (cO (R:=λx _=>Xd x) a hr (λx Y r=>B x Y r) (ax (b'.fx (cv c hr (ay 0))) (ax (ay 1) (ax (ay 2) aC)))) aC)))))]
 rcases h with⟨h1,h2,q⟩|⟨hn,xd⟩
 ·exact⟨rfl,rfl,rfl,_,_,rfl,.inl ⟨_,_,_,rfl,_,_,rfl,rfl,rfl,rfl,rfl,rfl,_,_,_,_,rfl,_,_,rfl,hy,hd,.inl ⟨h1,h2,_,rfl,q⟩⟩⟩
 ·exact⟨rfl,rfl,rfl,_,_,rfl,.inl ⟨_,_,_,rfl,_,_,rfl,rfl,rfl,rfl,rfl,rfl,_,_,_,_,rfl,_,_,rfl,hy,hd,.inr ⟨hn,xd⟩⟩⟩
def hW(f h:Addr):dO:=λds Q Xd=>∃fs i,∃m:Nat,∃n y:Int,(3,ds,[cM f (bh h [] fs (bG 57 m) i) [],.int n,.int y],m<=1000,Sm n/\Sm y/\Xd ("NoFeast",[]))
theorem t8{f:Addr}(F:(12,"why","Book.why",OI))(Yp:uE P w K mg base 6 "reasons_of" jn)(b:eI P w K mg base 6 CBook "shut" (17,Pg))(C:eI P w K mg base 6 CBook "entries" (17,Zv)):aQ P w K mg base (dN P w) (6+1) f fd ["self", "number", "year"] (bM K mg (17,hW)):=by
 rw[7,bz,F,Z89,by rintro ds Qd Xd⟨fs,i,m,n,y,rfl,_⟩;rfl,?_];obtain⟨fs,i,m,n,y,rfl,hm,hn,hy,xd⟩:=h;rw[5,aJ (bq (cO (R:=λx _=>Xd x) Yp hr (λx Y r=>B x Y r) (ax (b'.fx (cv C hr (ay 0))) (ax (b'.fx (cv b hr (ay 0))) (24,1,2)))))];exact⟨rfl,rfl,rfl,_,_,rfl,.inl ⟨_,_,_,rfl,rfl,rfl,rfl,_,_,_,_,m,rfl,hm,_,_,_,rfl,hn,hy,xd⟩⟩
def C7(r n:Int)(t rule:Str)(u:Int):Str:=Txt.join " " ["enter",bA n,bA r,t,rule,bA 0,bA 0,bA u]
def Ms(f h:Addr):cN:=λds Q=>∃a,(ds=[cM f (Gh h) a]/\Q (.new (.lst [])))\/ ∃n r t rule u,(3,ds,[cM f (bh h [] [(.inl n,dw r t rule u)] (bG 57 0) []) a],Sm n,Sm r/\Sm u/\t.length<=100/\rule.length<=100/\Q (.new (.lst [.str (C7 r n t rule u)])))
theorem Z5m{f:Addr}(F:(12,"told","Book.told",Mb))(Y14:dM P w K mg base 2 "orders_of" (Vb CChart))(Y1v:dM P w K mg base 2 "shown" U')(b:fm K CBook):aQ P w K mg base cy (2+1) f fd ["self"] (aV K (Ms CBook CChart)):=by
 refine(19,bf,F,Z4s,by rintro ds Qd⟨a,(⟨rfl,_⟩|⟨n,r,t,rule,u,rfl,_⟩)⟩<;>rfl);obtain⟨a,h⟩:=h;rw[5,aJ (bF (54,fK,["order", "0acc", "0self"],Mb,UB,bg Y14 hr (ax (bL b.c b.gX (aG 0)) aC),Z1q,bg Y1v hr (ax (ay 0) aC)))]
 rcases h with⟨rfl,q⟩|⟨n,r,t,rule,u,rfl,hn,hr,hu,hw,hl,q⟩
 ·exact⟨_,_,rfl,rfl,rfl,0,#[2],.inl ⟨rfl,q⟩⟩
 ·refine⟨_,_,rfl,rfl,rfl,0,#[2],.inr ⟨_,_,_,_,_,rfl,cS.t ⟨[.s "enter",.i n,.i r,.s t,.s rule,.i 0,.i 0,.i u],rfl,(15,8<=20),λp hp=>?_,(25,0),q⟩⟩⟩
  simp only[List.mem_cons,List.not_mem_nil,or_false]at hp
  rcases hp with rfl|rfl|rfl|rfl|rfl|rfl|rfl|rfl
  ·exact(show(5:Nat)<=100 by decide)
  ·exact hn
  ·exact hr
  ·exact hw
  ·exact hl
  ·exact(show Sm 0 by decide)
  ·exact(show Sm 0 by decide)
  ·exact hu
def Vd(f h:Addr):cN:=λds Q=>∃c a,ds=[c,.lst a]/\Q (.new (cM f c a))
theorem Z5s{f:Addr}(F:(12,"book_with","book_with",OK))(r:AF P w K mg base 4 "Book" CBook (17,eX))(b:fm K CBook):aQ P w K mg base cy (5+1) f fd ["chart", "laid"] (aV K (Vd CBook CChart)):=by
 refine(19,bf,F,UC,by rintro ds Qd⟨c,a,rfl,_⟩;rfl);obtain⟨c,a,rfl,q⟩:=h
 rw[5,aB (e6 2 UC.nd (j9 r hr))
   (aB (dY 2 b.c b.gX (ay 0))
   (aB (dY 2 b.c b.laid (ay 1))
   (aJ (m6 2))))]
 exact⟨rfl,rfl,rfl,rfl,rfl,(15,2<900),rfl,rfl,(15,2<900),q⟩
def Ve(f h:Addr):cN:=λds Q=>∃c a,ds=[cM f c a]/\Q (.new (cM f c a))
theorem Z5z{f:Addr}(F:(12,"twin","Book.twin",OJ))(Yw:dM P w K mg base 6 "book_with" (17,Vd))(b:fm K CBook):aQ P w K mg base cy (6+1) f fd ["self"] (aV K (Ve CBook CChart)):=by
 refine(19,bf,F,Z6w,by rintro ds Qd⟨c,a,rfl,_⟩;rfl);obtain⟨c,a,rfl,q⟩:=h;rw[5,aJ (bF (gm Yw hr (ax (bL b.c b.gX (aG 0)) (ax (bL b.c b.laid (aG 0)) aC))))];exact⟨_,_,rfl,rfl,rfl,_,_,rfl,rfl,rfl,_,_,rfl,q⟩
theorem mv{C:Addr}{Q Q':(1,uD)}{Xd e:(1,Er)}(h:cL C ds Q Xd)(m:∀r,Q r->Q' r)(a:∀x,Xd x->e x):cL C ds Q' e:=by
 obtain⟨c,o,rfl,h⟩:=h;refine⟨c,o,rfl,?_⟩
 rcases h with⟨O,ys,g,i,w,n,W,hy,xd⟩|⟨O,ys,g,i,w,n,r,W,hy,xd⟩|⟨O,fs,g,i,w,y,d,W,hy,xd⟩|⟨O,fs,g,i,w,y,W,hy,xd⟩|⟨O,fs,g,i,w,y,W,hy,xd⟩|⟨O,fs,g,i,w,d,b,W,M,hy,xd⟩|⟨O,g,i,w,t,rule,n,r,u,W,h1,h2,J,h4,h5,h6,f,q⟩|⟨O,fs,i,w,n,W,h1,h2,q⟩
 ·exact .inl ⟨O,ys,g,i,w,n,W,hy,a _ xd⟩
 ·exact .inr (.inl ⟨O,ys,g,i,w,n,r,W,hy,a _ xd⟩)
 ·exact .inr (.inr (.inl ⟨O,fs,g,i,w,y,d,W,hy,a _ xd⟩))
 ·exact .inr (.inr (.inr (.inl ⟨O,fs,g,i,w,y,W,hy,a _ xd⟩)))
 ·exact .inr (.inr (.inr (.inr (.inl ⟨O,fs,g,i,w,y,W,hy,a _ xd⟩))))
 ·exact .inr (.inr (.inr (.inr (.inr (.inl ⟨O,fs,g,i,w,d,b,W,M,hy,a _ xd⟩)))))
 ·exact .inr (.inr (.inr (.inr (.inr (.inr (.inl ⟨O,g,i,w,t,rule,n,r,u,W,h1,h2,J,h4,h5,h6,f,m _ q⟩))))))
 ·exact .inr (.inr (.inr (.inr (.inr (.inr (.inr ⟨O,fs,i,w,n,W,h1,h2,m _ q⟩))))))
def gz(f h:Addr):dO:=λds Q Xd=>∃c a o,ds=[cM f c a,o]/\cL h [c,o] (λ_=>False) Xd
theorem ra{f:Addr}(F:(12,"deed","Book.deed",OC))(e:uE P w K mg base 5 "changed" (cL CChart))(b:fm K CBook):aQ P w K mg base (dN P w) (5+1) f fd ["self", "order"] (bM K mg (17,gz)):=by
 rw[7,bz,F,Uz,by rintro ds Qd Xd⟨c,a,o,rfl,_⟩;rfl,?_];obtain⟨c,a,o,rfl,h⟩:=h
 rw[5,aB (bt 2 Uz.nd (cO (R:=λx _=>Xd x) e hr (λx Y r=>B x Y r) (ax (bL b.c b.gX (aG 0)) (ax (ay 1) aC))))
   cb]
 exact⟨_,_,rfl,rfl,rfl,mv h (λ_ z=>z.elim) λ_ z=>z⟩
abbrev Mt(C:Addr)(n r:Int)(t rule:Str)(u:Int):D:=bh C [] [(.inl n,dw r t rule u)] (bG 57 0) []
abbrev c2D(C:Addr)(n r:Int)(t rule:Str)(u:Int)(m:Nat):D:=bh C [.tup [.int m,.int 0]] [(.inl n,dw r t rule u)] (bG 57 m) []
structure Ly(n r:Int)(rule:Str)(u:Int):Prop where
 n0:0<=n
 n1:n<=999999
 r0:1<=r
 r1:r<=9
 rule:rule= "fixed"\/rule= "anchor"
 u0:0<=u
 u1:u<=99
def e'(f h:Addr):qJ:=λds d Q _=>∃n r t rule u,Ly n r rule u/\((3,ds,[qj r n t rule u],d=cM f (Gh h) [],Q (.lst []) (cM f (Mt h n r t rule u) []))\/
 ∃m:Nat,1<=m/\m<=400/\(3,ds,[.tup [.str "year",.int m,.int 0]],d=cM f (Mt h n r t rule u) [],Q (.lst [p9 n]) (cM f (c2D h n r t rule u m) [q0 n])))
theorem oz{f:Addr}(F:(12,"deed","Book.deed",UJ))(e:uE P w K mg base 6 "changed" (cL CChart))(a:dM P w K mg base 6 "laying_of" (O' CChart))(c:dM P w K mg base 6 "turned" Pd)(Yd:dM P w K mg base 6 "check_seals" (U5 CChart))(b:fm K CBook):aQ P w K mg base cy (6+1) f fd ["self", "order"] (liftM K mg (17,e')):=by
 refine j7 F Mi (by rintro ds d Qd Xd⟨n,r,t,rule,u,_,(⟨rfl,_⟩|⟨m,_,_,rfl,_⟩)⟩<;>rfl) (λj A outer s H G E p hr ds d Qd Xd h=>?_);obtain⟨n,r,t,rule,u,g,h⟩:=h
 rw[5,aB (bt 2 Mi.nd (cO (R:=λ_ _=>False) e hr (λ_ _ z=>z.elim) (ax (bL b.c b.gX (aG 0)) (ax (ay 1) aC))))
   (aB (bt 3 Mi.nd (bg a hr (ax (ay 2) aC)))
   (aB (bt 4 Mi.nd (bg c hr (ax (bL b.c b.laid (aG 0)) (ax (ay 3) aC))))
   (aB (eF (aS.bo (bg Yd hr (ax (bL b.c b.gX (aG 0)) (ax (ay 4) aC)))))
   (aB (dY 0 b.c b.gX (ay 2))
   (aB (dY 0 b.c b.laid (ay 3))
   (aJ (bq (ay 4))))))))]
 rcases h with⟨rfl,rfl,q⟩|⟨m,i,k,rfl,rfl,q⟩
 ·rw[0,⟨_,_,rfl,rfl,rfl,_,_,rfl,.inr (.inr (.inr (.inr (.inr (.inr (.inl ⟨rfl,_,_,_,_,_,_,_,_,rfl,g.n0,g.n1,g.r0,g.r1,g.rule,g.u0,g.u1,?_⟩))))))⟩,.inl ⟨_,_,0,rfl,#[2],?_⟩];rw[0,⟨_,_,rfl,rfl,rfl,.inl ⟨rfl,?_⟩⟩,⟨_,_,rfl,rfl,rfl,_,_,_,rfl,.inl rfl,?_⟩];exact⟨rfl,rfl,(15,2<900),rfl,rfl,(15,2<900),_,_,rfl,rfl,q⟩
 ·rw[0,⟨_,_,rfl,rfl,rfl,_,_,rfl,.inr (.inr (.inr (.inr (.inr (.inr (.inr ⟨rfl,_,_,_,m,rfl,#[3],#[3],?_⟩))))))⟩,.inr ⟨_,_,_,_,_,_,_,m,rfl,#[3],#[3],g.u0,g.rule,?_⟩];rw[0,⟨_,_,rfl,rfl,rfl,.inr ⟨n,rfl,?_⟩⟩,⟨_,_,rfl,rfl,rfl,_,_,_,rfl,.inr ⟨n,rfl⟩,?_⟩];exact⟨rfl,rfl,(15,2<900),rfl,rfl,(15,2<900),_,_,rfl,rfl,q⟩
def Pj(C:Addr)(b:D)(cs:List D)(n:Int):D:=.obj C [(.inr "now",b),(.inr "charts",.lst cs),(.inr "at",.int n)]
abbrev gY(c f h:Addr):D:=Pj c (cM f (Gh h) []) [Gh h] 0
structure Aq(K:PySem.W.Frag)(C:Addr):Prop where
 c:qI K C
 now:bS K C "now"
 xI:bS K C "charts"
 at_:bS K C "at"
def hX(c f h:Addr):qJ:=λds d Q _=>(3,ds,[],d=.obj c [],Q .bu (gY c f h))
theorem t9{f:Addr}(F:(12,"__init__","Log.__init__",OL))(r:AF P w K mg base 4 "Book" CBook (17,eX))(g:Aq K CLog)(b:fm K CBook):aQ P w K mg base cy (5+1) f fd ["self"] (liftM K mg (hX CLog CBook CChart)):=by
 refine j7 F Z6x (by rintro ds d Qd Xd⟨rfl,_⟩;rfl) (λj A outer s H G E p hr ds d Qd Xd h=>?_);obtain⟨rfl,rfl,q⟩:=h
 rw[0,⟨_,(aB (dY 0 g.c g.now (b'.fx (j9 r hr)))
   (aB (dY 0 g.c g.xI (b'.fx (bE (ax (bL b.c b.gX (aS.bo (bL g.c g.now (aG 0)))) aC))))
   (aJ (dY 0 g.c g.at_ (aX))))),?_⟩,⟨rfl,rfl,rfl,rfl,rfl,(15,0<900),?_⟩];exact⟨_,_,rfl,rfl,rfl,_,_,rfl,rfl,rfl,pv,rfl,rfl,(15,1<900),rfl,rfl,(15,2<900),_,rfl,q⟩
def mw(c f h:Addr):dO:=λds Q Xd=>∃o,ds=[gY c f h,o]/\cL h [Gh h,o] (λ_=>False) Xd
theorem t_{f:Addr}(F:(12,"deed","Log.deed",OM))(b:fY P w K mg base 6 CBook "deed" (17,gz))(g:Aq K CLog):aQ P w K mg base (dN P w) (6+1) f fd ["self", "order"] (bM K mg (mw CLog CBook CChart)):=by
 rw[7,bz,F,UD,by rintro ds Qd Xd⟨o,rfl,_⟩;rfl,?_];obtain⟨o,rfl,h⟩:=h
 rw[5,aB (bt 2 UD.nd (bR (R:=λx _=>Xd x) b hr (λx Y r=>B x Y r) (bL g.c g.now (aG 0)) (ax (ay 1) aC)))
   cb]
 exact⟨_,_,rfl,rfl,rfl,rfl,rfl,rfl,_,_,_,rfl,h⟩
def Vf(c f h:Addr):cN:=λds Q=>ds=[gY c f h]/\Q (.val (.int 0))
theorem Z5f{f:Addr}(F:(12,"stand","Log.stand",ON))(g:Aq K CLog):aQ P w K mg base cy (0+1) f fd ["self"] (aV K (Vf CLog CBook CChart)):=by
 refine(19,bf,F,Z62,by rintro ds Qd⟨rfl,_⟩;rfl);obtain⟨rfl,q⟩:=h;rw[5,aJ (bq (bL g.c g.at_ (aG 0)))];exact⟨_,_,rfl,rfl,rfl,q⟩
def fb(c f h:Addr):dO:=λds Q Xd=>(ds=[gY c f h,.int 0,.int 0]/\Q (.new (.lst [])))\/(ds=[gY c f h,.int 0,.int 1]/\Xd ("NoStand",[]))
theorem oA{f:Addr}(F:(12,"between","Log.between",OO))(c:dM P w K mg base 6 "turned" Pd)(a:dM P w K mg base 6 "laying_of" (O' CChart))(g:Aq K CLog)(t:eB K mg base):aQ P w K mg base (dN P w) (6+1) f fd ["self", "one", "other"] (bM K mg (fb CLog CBook CChart)):=by
 rw[0,bz F UE (by rintro ds Qd Xd(⟨rfl,_⟩|⟨rfl,_⟩)<;>rfl) (λj A outer s H E hr ds Qd Xd h L B=>?_),⟨_,(aB (HH PassesOwn.leaving rfl (bI (24,1,2)) (aP 3 UE.nd)
   (aJ (b8 (eA (f_ dE dE dG dG (aS.bo (aX)) (aG 3) (aS.bo (bL g.c g.at_ (aG 0)))))
   (aJ (hQ (R:=Xd ("NoStand",[])) t.t4.choose_spec.choose_spec.2 (λr=>L _ _ t.t4.choose_spec.choose_spec.1 r) (ax (cJ (cg (cD (ay 3) dH))) aC) rfl))
   bw)))
   (aJ (bF (gm c hr (ax (bg a hr (ax (m5 (aS.bo (bL g.c g.xI (aG 0))) (aG 1)) aC)) (ax (bg a hr (ax (m5 (aS.bo (bL g.c g.xI (aG 0))) (aG 2)) aC)) aC)))))),?_⟩]
 rcases h with⟨rfl,q⟩|⟨rfl,xd⟩
 ·refine⟨kn,cx (b7 (b1:=true) (fV.eq (cQ (λQ q=>q) (λQ q=>q) (λQ q=>⟨_,_,rfl,rfl,rfl,q⟩)) (by simp))) (aT ⟨_,Fg.refl _,cx (b7 (b1:=true) (fV.eq (cQ (λQ q=>q) (λQ q=>q) (λQ q=>⟨_,_,rfl,rfl,rfl,q⟩)) (by simp))) (aT ⟨_,Fg.refl _,?_⟩)⟩)⟩
  exact⟨_,_,rfl,rfl,rfl,_,rfl,.inl ⟨_,_,0,rfl,#[2],_,_,rfl,rfl,rfl,_,rfl,.inl ⟨_,_,0,rfl,#[2],.inl ⟨rfl,q⟩⟩⟩⟩
 ·refine⟨kn,cx (b7 (b1:=true) (fV.eq (cQ (λQ q=>q) (λQ q=>q) (λQ q=>⟨_,_,rfl,rfl,rfl,q⟩)) (by simp))) (aT ⟨_,Fg.refl _,fW (b7 (b1:=false) (fV.eq (cQ (λQ q=>q) (λQ q=>q) (λQ q=>⟨_,_,rfl,rfl,rfl,q⟩)) (by simp))) ?_⟩)⟩
  rw[4,_,rfl,#[2],show 1<=9 by decide,xd]
def Lz(c f h:Addr):cN:=λds Q=>ds=[gY c f h]/\Q (.new (cM f (Gh h) []))
theorem Z70{f:Addr}(F:(12,"book","Log.book",OP))(Yu:eI P w K mg base 7 CBook "twin" (17,Ve))(g:Aq K CLog):aQ P w K mg base cy (7+1) f fd ["self"] (aV K (Lz CLog CBook CChart)):=by
 refine(19,bf,F,Z8e,by rintro ds Qd⟨rfl,_⟩;rfl);obtain⟨rfl,q⟩:=h;rw[5,aJ (bF (cv Yu hr (bL g.c g.now (aG 0))))];exact⟨_,_,rfl,rfl,rfl,rfl,rfl,rfl,_,_,rfl,q⟩
def Gi(C:Addr)(l:D):D:=.obj C [(.inr "log",l)]
structure C8(K:PySem.W.Frag)(C:Addr):Prop where
 c:qI K C
 log:bS K C "log"
def Vg:cN:=λ_ _=>False
theorem Z24{f:Addr}(F:(12,"shown_turns","shown_turns",OQ)):aQ P w K mg base cy (0+1) f fd ["turns"] (aV K Vg):=by
 refine(19,bf,F,Z1l,λ_ _ z=>z.elim);rw[1,_,cb,h.elim]
def Vh:cN:=λ_ _=>False
theorem Z26{f:Addr}(F:(12,"shown_place","shown_place",Oy)):aQ P w K mg base cy (0+1) f fd ["place"] (aV K Vh):=by
 refine(19,bf,F,ZT,λ_ _ z=>z.elim);rw[1,_,cb,h.elim]
def Pk:cN:=λds Q=>ds=[.bu]/\Q (.val (.str "none"))
theorem Z3s{f:Addr}(F:(12,"shown_name","shown_name",OR)):aQ P w K mg base cy (0+1) f fd ["name"] (aV K Pk):=by
 refine(19,bf,F,Z3i,by rintro ds Qd⟨rfl,_⟩;rfl);obtain⟨rfl,q⟩:=h
 rw[5,aB (b8 (br sP tJ (aG 0) (aS.bo (e2)) (aY _))
   (aJ (bq (bb)))
   bw)
   cb]
 exact fW (λQ q=>q) q
def kF(c f h:Addr):dO:=λds Q Xd=>ds=[gY c f h]/\Q (.new (.lst []))
theorem rb{f:Addr}(F:(12,"tell_rows","tell_rows",Md))(o:eI P w K mg base 8 CBook "rows" (Mr CBook))(m:eI P w K mg base 8 CLog "book" (Lz CLog CBook CChart)):aQ P w K mg base (dN P w) (8+1) f fd ["log"] (bM K mg (kF CLog CBook CChart)):=by
 rw[7,bz,F,Z6l,by rintro ds Qd Xd⟨rfl,_⟩;rfl,?_];obtain⟨rfl,q⟩:=h;rw[5,aJ (bF (54,fK,["row", "0acc", "0log"],Md,UG,b'.fx (cv o hr (b'.fx (cv m hr (ay 0)))),Z1r,t2))];exact⟨rfl,rfl,rfl,rfl,rfl,rfl,rfl,_,_,rfl,q⟩
def kG(c f h:Addr):dO:=λds Q Xd=>ds=[gY c f h]/\Q (.new (.lst []))
theorem rf{f:Addr}(F:(12,"tell_book","tell_book",OS))(J:eI P w K mg base 8 CBook "told" (17,Ms))(m:eI P w K mg base 8 CLog "book" (Lz CLog CBook CChart)):aQ P w K mg base (dN P w) (8+1) f fd ["log"] (bM K mg (kG CLog CBook CChart)):=by
 rw[7,bz,F,Z4v,by rintro ds Qd Xd⟨rfl,_⟩;rfl,?_];obtain⟨rfl,q⟩:=h;rw[5,aJ (bF (cv J hr (b'.fx (cv m hr (ay 0)))))];exact⟨rfl,rfl,rfl,rfl,rfl,rfl,rfl,_,.inl ⟨rfl,q⟩⟩
abbrev iY(f h:Addr):D:=cM f (Gh h) []
def kH(f h:Addr):dO:=λds Q Xd=>∃y d:Int,(3,ds,[iY f h,.int y,.int d],Sm y,Sm d/\((3,y,0,0<=d,Q (.new (.lst [.str "none"])))\/(¬(y=0/\0<=d)/\Xd ("NoDay",[]))))
theorem rg{f:Addr}(F:(12,"tell_page","tell_page",Me))(a:fY P w K mg base 3 CBook "page" (17,eY))(Yi:dM P w K mg base 3 "shown_name" Pk):aQ P w K mg base (dN P w) (3+1) f fd ["book", "year", "day"] (bM K mg (17,kH)):=by
 rw[7,bz,F,OT,by rintro ds Qd Xd⟨y,d,rfl,_⟩;rfl,?_];obtain⟨y,d,rfl,hy,hd,h⟩:=h
 rw[5,aB (dS (bR (R:=λx _=>Xd x) a hr (λx Y r=>B x Y r) (ay 0) (24,1,2)) (c9 (n:=2) rfl (aL (aP 3 OT.nd) (aL (aP 4 OT.nd) bZ))))
   (aJ (bF (54,fK,["name", "0acc", "0book", "0year", "0day", "0holder", "0noted"],Me,UH,b'.fx (yB (b'.bo (bE (ax (ay 3) aC))) (aG 4)),Z2i,bg Yi hr (ax (ay 0) aC))))]
 rcases h with⟨h1,h2,q⟩|⟨hn,xd⟩
 ·refine⟨rfl,rfl,rfl,_,_,_,_,_,rfl,hy,hd,.inl ⟨h1,h2,rfl,?_⟩⟩
  rw[1,pv,(15,(8,1+0)),cS.t ⟨rfl,(25,0),q⟩]
 ·exact⟨rfl,rfl,rfl,_,_,_,_,_,rfl,hy,hd,.inr ⟨hn,xd⟩⟩
def gZ(f h:Addr):dO:=λds Q Xd=>∃y d:Int,(3,ds,[iY f h,.int y,.int d],Sm y,Sm d/\((3,y,0,0<=d,Q (.new (.lst [.str "none"])))\/(¬(y=0/\0<=d)/\Xd ("NoDay",[]))))
theorem nK{f:Addr}(F:(12,"tell_evening","tell_evening",Zq))(Yi:dM P w K mg base 7 "shown_name" Pk)(e:fY P w K mg base 7 CBook "evening" (17,c6)):aQ P w K mg base (dN P w) (7+1) f fd ["book", "year", "day"] (bM K mg (17,gZ)):=by
 rw[7,bz,F,Zy,by rintro ds Qd Xd⟨y,d,rfl,_⟩;rfl,?_];obtain⟨y,d,rfl,hy,hd,h⟩:=h;rw[5,aJ (bF (bE (ax (bg Yi hr (ax (bR (R:=λx _=>Xd x) e hr (λx Y r=>B x Y r) (ay 0) (24,1,2)) aC)) aC)))]
 rcases h with⟨h1,h2,q⟩|⟨hn,xd⟩
 ·exact⟨rfl,rfl,rfl,_,_,_,_,_,rfl,hy,hd,.inl ⟨h1,h2,rfl,pv,q⟩⟩
 ·exact⟨rfl,rfl,rfl,_,_,_,_,_,rfl,hy,hd,.inr ⟨hn,xd⟩⟩
def jo(f h:Addr):dO:=λds Q Xd=>∃n y:Int,(3,ds,[iY f h,.int n,.int y],Sm n,Sm y/\Xd ("NoFeast",[]))
theorem ql{f:Addr}(F:(12,"tell_place","tell_place",OU))(Yb:dM P w K mg base 2 "shown_place" Vh)(Yk:fY P w K mg base 2 CBook "place" (fP CBook)):aQ P w K mg base (dN P w) (2+1) f fd ["book", "number", "year"] (bM K mg (17,jo)):=by
 rw[7,bz,F,Z40,by rintro ds Qd Xd⟨n,y,rfl,_⟩;rfl,?_];obtain⟨n,y,rfl,hn,hy,xd⟩:=h;rw[5,aJ (bF (bE (ax (bg Yb hr (ax (bR (R:=λx _=>Xd x) Yk hr (λx Y r=>B x Y r) (ay 0) (24,1,2)) aC)) aC)))];exact⟨rfl,rfl,rfl,_,_,_,rfl,hn,hy,xd⟩
def mx(f h:Addr):dO:=λds Q Xd=>∃n y:Int,(3,ds,[iY f h,.int n,.int y],Sm n,Sm y/\Xd ("NoFeast",[]))
theorem ua{f:Addr}(F:(12,"tell_why","tell_why",Mg))(b:fY P w K mg base 7 CBook "why" (17,hW)):aQ P w K mg base (dN P w) (7+1) f fd ["book", "number", "year"] (bM K mg (17,mx)):=by
 rw[7,bz,F,Z7s,by rintro ds Qd Xd⟨n,y,rfl,_⟩;rfl,?_];obtain⟨n,y,rfl,hn,hy,xd⟩:=h;rw[5,aJ (bF (54,fK,["reason", "0acc", "0book", "0number", "0year"],Mg,UI,bR (R:=λx _=>Xd x) b hr (λx Y r=>B x Y r) (ay 0) (24,1,2),Z3f,t2))];exact⟨rfl,rfl,rfl,_,_,0,_,_,rfl,#[2],hn,hy,xd⟩
def Bd(n:Int):Prop:=-(10^12)<n/\n<10^12
theorem Bd.sm(h:Bd n):Sm n:=gU (by have:=h.1;omega) (by have:=h.2;omega)
theorem oW{P:(1,Int)}{b:Int}(h:n∈[a,b])(ha:P a)(hb:P b):P n:=by
 rcases List.mem_cons.mp h with rfl|h
 ·exact ha
 ·rw[2,List.mem_singleton.mp h,hb]
def qm(c f h:Addr):dO:=λds Q Xd=>∃x:Str,ds=[gY c f h,.str x]/\(((x= "rows"\/x= "book")/\Q (.new (.lst [])))\/(x.length<=16384/\
  ((∃(w:Str)(a b:Int),(3,Txt.split x " ",[w,bA a,bA b],Bd a,Bd b/\(((w= "page"\/w= "evening")/\((3,a,0,0<=b,Q (.new (.lst [.str "none"])))\/(¬(a=0/\0<=b)/\Xd ("NoDay",[]))))\/((w= "place"\/w= "why")/\Xd ("NoFeast",[])))))\/
   ∃y:Int,(3,Txt.split x " ",[("seal":Str),bA y],Bd y,Xd ("NoYear",[])))))
theorem vU{a b c d:Addr}{x:Str}(h:1<(Txt.split x " ").length):(2,([("back",a),("forth",b),("rows",c),("book",d)]:(5,Str,Addr)).lookup x):=by
 have ne:∀y:Str,(Txt.split y " ").length=1->(x==y)=false:=λy hy=>by
  rw[beq_eq_false_iff_ne];intro e;rw[e]at h;omega
 simp only[List.lookup,ne "back" #[10],ne "forth" #[10],ne "rows" #[10],ne "book" #[10]]
theorem xJ{f:Addr}(F:(12,"answer","answer",OV))(Yr:dM P w K mg base 9 "read_parts" (Pf K))(m:eI P w K mg base 9 CLog "book" (Lz CLog CBook CChart))(Yf:dM P w K mg base 9 "shown_turns" Vg)(Y1e:fY P w K mg base 9 CLog "deed" (mw CLog CBook CChart))(Y20:dM P w K mg base 9 "read" U_)(oX:ni P w K mg "WORDS" [("back",fE),("forth",eM),("rows",cm),("book",cn)])(i:uF P w K mg base 9 cm (kF CLog CBook CChart))(g:uF P w K mg base 9 cn (kG CLog CBook CChart))(f':ni P w K mg "QUESTIONS" [("page",cq),("evening",I),("place",b6),("why",cB)])(e:uF P w K mg base 9 cq (17,kH))(c:uF P w K mg base 9 I (17,gZ))(d:uF P w K mg base 9 b6 (17,jo))(k:uF P w K mg base 9 cB (17,mx)):aQ P w K mg base (dN P w) (9+1) f fd ["log", "text"] (bM K mg (qm CLog CBook CChart)):=by
 rw[7,bz,F,Jo,by rintro ds Qd Xd⟨x,rfl,_⟩;rfl,?_];obtain⟨x,rfl,h⟩:=h
 rw[5,aB (b8 (F5 oX (ay 1))
   (aB (bt 2 Jo.nd (pQ oX.tab (ay 1)))
   (aJ (bF (tW 2 (R:=λx _=>Xd x) hr (λx Y r=>B x Y r) (ax (ay 0) aC)))))
   bw)
   (aB (dS (b'.fx (yR (ay 1) (bb))) (Cs rfl (aL (aP 3 Jo.nd) (vu (aP 4 Jo.nd) bZ))))
   (aB (b8 (F5 f' (ay 3))
   (aB (bt 5 Jo.nd (pQ f'.tab (ay 3)))
   (aB (dS (bg Yr hr (ax (ay 4) (ax (bI (ax (bb) (ax (bb) aC))) aC))) (c9 (n:=2) rfl (aL (aP 6 Jo.nd) (aL (aP 7 Jo.nd) bZ))))
   (aJ (bF (tW 5 (R:=λx _=>Xd x) hr (λx Y r=>B x Y r) (ax (b'.fx (cv m hr (ay 0))) (ax (ay 6) (ax (ay 7) aC))))))))
   bw)
   (aJ (bF (gm Yf hr (ax (bR (R:=λx _=>Xd x) Y1e hr (λx Y r=>B x Y r) (ay 0) (ax (bg Y20 hr (ax (ay 1) aC)) aC)) aC))))))]
 rcases h with⟨rfl|rfl,q⟩|⟨hl,h⟩
 ·refine fW (λQ q=>⟨_,rfl,q⟩) ?_
  exact⟨_,_,rfl,rfl,_,_,rfl,i,rfl,q⟩
 ·refine fW (λQ q=>⟨_,rfl,q⟩) ?_
  exact⟨_,_,rfl,rfl,_,_,rfl,g,rfl,q⟩
 rcases h with⟨w,a,b,lK,ha,hb,h⟩|⟨y,lK,hy,xd⟩
 ·rw[0,cx (fV.eq (λQ q=>⟨_,rfl,q⟩) (by rw[vU (by rw[lK];show 1<3;decide)];rfl)) (aT ?_),⟨x,rfl, " ",rfl,⟨#[2],hl⟩,?_⟩];refine⟨.str w,[.str (bA a),.str (bA b)],congrArg (λz=>D.lst (z.map D.str)) lK,(15,2<=16384),?_⟩
  rcases h with⟨rfl|rfl,h⟩|⟨rfl|rfl,xd⟩
  ·rw[0,fW (λQ q=>⟨_,rfl,q⟩) ⟨_,_,rfl,rfl,?_⟩,⟨kn,[a,b],_,rfl,.inl rfl,⟨a,.inr ⟨b,rfl⟩⟩,λn hn=>oW hn ha hb,rfl,?_⟩];exact⟨_,_,rfl,e,rfl,rfl,rfl,rfl,_,_,rfl,ha.sm,hb.sm,h⟩
  ·rw[0,fW (λQ q=>⟨_,rfl,q⟩) ⟨_,_,rfl,rfl,?_⟩,⟨kn,[a,b],_,rfl,.inl rfl,⟨a,.inr ⟨b,rfl⟩⟩,λn hn=>oW hn ha hb,rfl,?_⟩];exact⟨_,_,rfl,c,rfl,rfl,rfl,rfl,_,_,rfl,ha.sm,hb.sm,h⟩
  ·rw[0,fW (λQ q=>⟨_,rfl,q⟩) ⟨_,_,rfl,rfl,?_⟩,⟨kn,[a,b],_,rfl,.inl rfl,⟨a,.inr ⟨b,rfl⟩⟩,λn hn=>oW hn ha hb,rfl,?_⟩];exact⟨_,_,rfl,d,rfl,rfl,rfl,rfl,_,_,rfl,ha.sm,hb.sm,xd⟩
  ·rw[0,fW (λQ q=>⟨_,rfl,q⟩) ⟨_,_,rfl,rfl,?_⟩,⟨kn,[a,b],_,rfl,.inl rfl,⟨a,.inr ⟨b,rfl⟩⟩,λn hn=>oW hn ha hb,rfl,?_⟩];exact⟨_,_,rfl,k,rfl,rfl,rfl,rfl,_,_,rfl,ha.sm,hb.sm,xd⟩
 ·rw[0,cx (fV.eq (λQ q=>⟨_,rfl,q⟩) (by rw[vU (by rw[lK];show 1<2;decide)];rfl)) (aT ?_),⟨x,rfl, " ",rfl,⟨#[2],hl⟩,?_⟩];rw[0,⟨.str "seal",[.str (bA y)],congrArg (λz=>D.lst (z.map D.str)) lK,(15,1<=16384),?_⟩,cx (λQ q=>⟨_,rfl,q⟩) (aT ?_)];exact⟨rfl,rfl,rfl,x,y,rfl,hl,lK,hy.1,hy.2,_,rfl,_,_,rfl,.inr (.inr (.inr (.inl ⟨rfl,_,_,_,_,y,rfl,hy.sm,xd⟩)))⟩
def kI(a c f h:Addr):qJ:=λds d Q _=>(3,ds,[],d=.obj a [],Q .bu (Gi a (gY c f h)))
theorem rh{f:Addr}(F:(12,"__init__","Desk.__init__",OW))(x:AF P w K mg base 6 "Log" CLog (hX CLog CBook CChart))(jq:C8 K cu):aQ P w K mg base cy (7+1) f fd ["self"] (liftM K mg (kI cu CLog CBook CChart)):=by
 refine j7 F Z59 (by rintro ds d Qd Xd⟨rfl,_⟩;rfl) (λj A outer s H G E p hr ds d Qd Xd h=>?_);obtain⟨rfl,rfl,q⟩:=h;rw[5,aJ (dY 0 jq.c jq.log (b'.fx (j9 x hr)))];exact⟨rfl,rfl,rfl,rfl,rfl,(15,0<900),_,rfl,q⟩
abbrev kJ(a c f h:Addr):D:=Gi a (gY c f h)
def ub(x:Str)(r:D):Prop:=((x= "rows"\/x= "book")/\r=.lst [])\/(x.length<=16384/\
  ((∃(w:Str)(a b:Int),(3,Txt.split x " ",[w,bA a,bA b],Bd a,Bd b/\(((w= "page"\/w= "evening")/\((3,a,0,0<=b,r=.lst [.str "none"])\/(¬(a=0/\0<=b)/\r=.lst [.str "no: day"])))\/((w= "place"\/w= "why")/\r=.lst [.str "no: feast"]))))\/
   ∃y:Int,(3,Txt.split x " ",[("seal":Str),bA y],Bd y,r=.lst [.str "no: year"])))
def hZ(a c f h:Addr):dO:=λds Q Xd=>∃x r,(3,ds,[kJ a c f h,.str x],ub x r,Q (.new r))
theorem uc{f:Addr}(F:(12,"say","Desk.say",OX))(Y1s:uE P w K mg base 10 "answer" (qm CLog CBook CChart))(t:eB K mg base)(jq:C8 K cu):aQ P w K mg base (dN P w) (10+1) f fd ["self", "text"] (bM K mg (hZ cu CLog CBook CChart)):=by
 rw[7,bz,F,Z6y,by rintro ds Qd Xd⟨x,r,rfl,_⟩;rfl,?_];obtain⟨x,r,rfl,h,q⟩:=h;rw[0,⟨_,(aJ (pY (λH1 Z W=>(aJ (bF (CL (R:=W) Y1s hr (λx Y=>fO x Y) (ax (bL jq.c jq.log (aG 0)) (ax (ay 1) aC)))))) rfl rfl)),?_⟩,⟨_,_,rfl,rfl,rfl,x,rfl,?_⟩]
 rcases h with⟨hx,rfl⟩|⟨hl,⟨v,a,b,lK,ha,hb,⟨hw,(⟨h1,h2,rfl⟩|⟨hn,rfl⟩)⟩|⟨hw,rfl⟩⟩|⟨y,lK,hy,rfl⟩⟩
 ·exact .inl ⟨hx,q⟩
 ·exact .inr ⟨hl,.inl ⟨v,a,b,lK,ha,hb,.inl ⟨hw,.inl ⟨h1,h2,q⟩⟩⟩⟩
 ·exact .inr ⟨hl,.inl ⟨v,a,b,lK,ha,hb,.inl ⟨hw,.inr ⟨hn,_,((bP (cP t.g9 t.kB.choose_spec.choose_spec.2 t.nu (t.no _ _ #[2])) (dZ (yN.self t.kB.choose_spec.choose_spec.2) (λea=>(aJ (bF (bE (ax (bb) aC))))) (λea=>PassesOwnAt.leaving)))),pv,q⟩⟩⟩⟩
 ·exact .inr ⟨hl,.inl ⟨v,a,b,lK,ha,hb,.inr ⟨hw,_,((bP (cP t.g9 #[17] t.nu (t.no _ _ #[2])) (bP (cP t.g9 #[17] t.kB.choose_spec.choose_spec.2.has (t.no _ _ #[2])) (bP (cP t.g9 #[17] t.eJ.choose_spec.choose_spec.2.has (t.no _ _ #[2])) (bP (cP t.g9 #[17] t.oS.choose_spec.choose_spec.2.has (t.no _ _ #[2])) (bP (cP t.g9 #[17] t.ji.choose_spec.choose_spec.2.has (t.no _ _ #[2])) (bP (cP t.g9 #[17] t.p0.choose_spec.choose_spec.2.has (t.no _ _ #[2])) (bP (cP t.g9 #[17] t.Taken.choose_spec.choose_spec.2.has (t.no _ _ #[2])) (dZ (yN.self #[17]) (λea=>(aJ (bF (bE (ax (bb) aC))))) (λea=>PassesOwnAt.leaving)))))))))),pv,q⟩⟩⟩
 ·exact .inr ⟨hl,.inr ⟨y,lK,hy,_,((bP (cP t.g9 t.eJ.choose_spec.choose_spec.2 t.nu (t.no _ _ #[2])) (bP (cP t.g9 t.eJ.choose_spec.choose_spec.2 t.kB.choose_spec.choose_spec.2.has (t.no _ _ #[2])) (dZ (yN.self t.eJ.choose_spec.choose_spec.2) (λea=>(aJ (bF (bE (ax (bb) aC))))) (λea=>PassesOwnAt.leaving))))),pv,q⟩⟩
def Vi:cN:=λds Q=>∃c:Int,ds=[.int c]/\ ∀v:Int,Q (.val (.int v))
def Vj:cN:=λds Q=>∃(ns:List Int)(i:Int),(3,ds,[.lst (ns.map D.int),.int i],0<=i,∀v:Int,Q (.val (.int v)))
def Vk:cN:=λds Q=>∃(c:Int)(a:List Int),(3,ds,[.int c,.lst (a.map D.int)],∀s∈a,0<s/\s<2^200,a.length<=100/\ ∀C,Drawn C a->Q (.new (.lst (C.map D.int))))
theorem Z5w{f:Addr}(F:(12,"_law_cell","_law_cell",OY))(cW:(2,mg "len")):aQ P w K mg base cy (0+1) f fd ["_law_script", "_law_place"] (aV K Vj):=by
 refine(19,bf,F,Z5d,by rintro ds Qd⟨ns,i,rfl,_⟩;rfl);obtain⟨ns,i,rfl,hi,q⟩:=h;obtain⟨n,rfl⟩:=Int.eq_ofNat_of_zero_le hi
 rw[5,aB (b8 (br i_ ja (aG 1) (aS.bo (rS cW (b_ (aG 0) cG))) (aY _))
   (aJ (bq (m5 (aG 0) (aG 1))))
   bw)
   (aJ (bq (aX)))]
 exact Kz (p:=(n:Int)<((ns.map D.int).length:Int)) (λQ q=>q) (λeH=>⟨_,D4 (by rw[List.length_map]at eH;omega),q _⟩) (λ_=>q _)
theorem Z5q{f:Addr}(F:(12,"_law_seed","_law_seed",OZ)):aQ P w K mg base cy (0+1) f fd ["_law_cell_here"] (aV K Vi):=by
 refine(19,bf,F,O0,by rintro ds Qd⟨c,rfl,_⟩;rfl);obtain⟨c,rfl,q⟩:=h
 rw[5,aB (b8 (br Fj Fv (aG 0) (aS.bo (Ft (aS.bo (aX)) (aS.bo (aX)))) (aY _))
   (aJ (bq (ay 0)))
   bw)
   (aB (bt 1 O0.nd (rM (aS.bo (rL (aS.bo (rM (aS.bo (dQ (aS.bo (rL (aG 0) (aS.bo (aX)))) (aS.bo (aX)))) (aS.bo (aX)))) (aS.bo (aX)))) (aS.bo (aX))))
   (aB (bt 2 O0.nd (rM (aS.bo (rL (aS.bo (rM (aS.bo (dQ (aS.bo (rL (aG 0) (aS.bo (aX)))) (aS.bo (aX)))) (aS.bo (aX)))) (aS.bo (aX)))) (aS.bo (aX))))
   (aJ (bq (dQ (aS.bo (rL (aG 1) (aS.bo (aX)))) (aG 2))))))]
 exact yx (λQ q=>⟨Ky,q⟩) (λ_=>q _) (λ_=>⟨uX,aU,uX,aU,uX,aU,uX,aU,uX,q _⟩)
theorem Z1g{f:Addr}(F:(12,"_law_digits","_law_digits",O1))(Yx:dM P w K mg base 1 "_law_seed" Vi)(bD:(2,mg "enumerate")):aQ P w K mg base cy (1+1) f fd ["_law_cell_here", "_law_sizes"] (aV K Vk):=by
 refine(19,bf,F,Jp,by rintro ds Qd⟨c,i,rfl,_⟩;rfl);obtain⟨c,l,rfl,a,b,q⟩:=h
 rw[0,⟨_,(aB (bt 2 Jp.nd (bg Yx hr (ax (ay 0) aC)))
   (aB (e6 3 Jp.nd (bE aC))
   (aB (wY PassesOwn.never rfl rfl bD (ax (ay 1) aC) (c9 (n:=2) rfl (aL (aP 4 Jp.nd) (aL (aP 5 Jp.nd) bZ)))
   (aB (b8 (br i_ ja (aG 2) (aG 5) (aY _))
   (aJ (bt 2 Jp.nd (bg Yx hr (ax (dQ (aS.bo (dQ (aG 2) (aS.bo (rL (aS.bo (aX)) (aG 4))))) (aS.bo (rM (aG 0) (aS.bo (aX))))) aC))))
   bw)
   (aB (pq 3 (rM (aG 2) (aG 5)))
   (aJ (bt 2 Jp.nd (Bl (aG 2) (aG 5)))))))
   (aJ (m6 3))))),?_⟩,⟨_,rfl,λr0=>⟨Nat.zero_le _,?_⟩⟩]
 refine uW (λds Y=>∃(k:Nat)(rest:Int)(T done i:List Int),(3,ds,ku k (i.map D.int),Y=[(9,c),.fr (.lst (l.map D.int)),(9,rest),.ow (.lst (T.map D.int)),.un,.un],Drawn T done/\l=done++i/\T.length+i.length<=100)) ?_ ?_ _ _ ⟨0,r0,[],[],l,rfl,rfl,.nil,rfl,by simpa using b⟩
 ·rintro Y⟨k,rest,T,done,i,e,rfl,hd,hs,_⟩
  cases i with
  |cons s i=>cases e
  |nil=>exact q T (by rw[hs,List.append_nil];exact hd)
 ·rintro d r Y L g⟨k,rest,T,done,i,e,rfl,hd,hs,hl⟩
  cases i with
  |nil=>cases e
  |cons s i=>
   have O:d=.tup [.int k,.int s]:=by cases e;rfl
   have W:r=ku (k+1) (i.map D.int):=by cases e;rfl
   subst O W;have y:=a s (by rw[hs];simp);have m:(T.map D.int).length<sizeLine:=by rw[List.length_map];simp at hl;exact rJ #[3]
   have fin:∀r':Int,L [(9,c),.fr (.lst (l.map D.int)),(9,r'/s),.ow (.lst (T.map D.int++[.int (r'%s)])),(9,k),(9,s)]:=λr'=>
    g _ _ ⟨k+1,r'/s,T++[r'%s],done++[s],i,rfl,rfl,hd.snoc (Int.emod_nonneg _ #[3]) (Int.emod_lt_of_pos _ y.1),by simp[hs],by simp at hl⊢;omega⟩ (by rw[List.map_append];repeat constructor)
   refine⟨rfl,yx (λQ q=>q) (λ_=>⟨Kx,aU,_,rfl,λv=>⟨y.1,m,y,fin v⟩⟩) (λ_=>⟨y.1,m,y,fin rest⟩)⟩
def my(f h:Addr):dO:=λds Q Xd=>∃c a o v,∃x:Str,(3,ds,[cM f c a,o],cL h [c,o] (λ_=>False) (λe=>e=(x,[])),((x= "NoFeast"/\v= "feast")\/(x= "NoYear"/\v= "year")\/(x= "BadDay"/\v= "bad day"))/\Q (.val (.tup [.str v,.bu])))
theorem ud{f:Addr}(F:(12,"_law_try","_law_try",O2))(b:fY P w K mg base 6 CBook "deed" (17,gz))(t:eB K mg base):aQ P w K mg base (dN P w) (6+1) f fd ["_law_hall", "_law_order"] (bM K mg (17,my)):=by
 rw[7,bz,F,Ge,by rintro ds Qd Xd⟨c,a,o,v,x,rfl,_⟩;rfl,?_];obtain⟨c,a,o,v,x,rfl,h,hx,q⟩:=h
 rw[0,⟨_,(aB (bt 2 Ge.nd (bb))
   (aB (bt 3 Ge.nd (e2))
   (aB (bt 4 Ge.nd (e2))
   (aB (pY (λH1 Z W=>(aJ (bt 3 Ge.nd (bR (R:=W) b hr (λx Y=>fO x Y) (ay 0) (ax (ay 1) aC))))) rfl rfl)
   (aB (b8 (br lJ ma (aG 4) (aS.bo (e2)) (aY _))
   cb
   bw)
   (aJ (bq (bI (24,2,3))))))))),?_⟩,⟨rfl,rfl,rfl,c,a,o,rfl,mv h (λ_ z=>z) λe he=>?_⟩];subst he
 rcases hx with⟨rfl,rfl⟩|⟨rfl,rfl⟩|⟨rfl,rfl⟩
 ·rw[1,_,bP (cP t.g9 #[17] t.nu (t.no _ _ #[2])) (bP (cP t.g9 #[17] t.oS.choose_spec.choose_spec.2.has (t.no _ _ #[2])) (bP (cP t.g9 #[17] t.ji.choose_spec.choose_spec.2.has (t.no _ _ #[2])) (bP (cP t.g9 #[17] t.p0.choose_spec.choose_spec.2.has (t.no _ _ #[2])) (bP (cP t.g9 #[17] t.Taken.choose_spec.choose_spec.2.has (t.no _ _ #[2])) (dZ (yN.self #[17]) (λea=>(aJ (bt 2 Ge.nd (bb)))) (λea=>PassesOwnAt.leaving)))))),cx (λQ q=>q) (aT ⟨kn,q⟩)]
 ·rw[1,_,bP (cP t.g9 t.eJ.choose_spec.choose_spec.2 t.nu (t.no _ _ #[2])) (bP (cP t.g9 t.eJ.choose_spec.choose_spec.2 t.oS.choose_spec.choose_spec.2.has (t.no _ _ #[2])) (bP (cP t.g9 t.eJ.choose_spec.choose_spec.2 t.ji.choose_spec.choose_spec.2.has (t.no _ _ #[2])) (bP (cP t.g9 t.eJ.choose_spec.choose_spec.2 t.p0.choose_spec.choose_spec.2.has (t.no _ _ #[2])) (bP (cP t.g9 t.eJ.choose_spec.choose_spec.2 t.Taken.choose_spec.choose_spec.2.has (t.no _ _ #[2])) (bP (cP t.g9 t.eJ.choose_spec.choose_spec.2 #[17].has (t.no _ _ #[2])) (dZ (yN.self t.eJ.choose_spec.choose_spec.2) (λea=>(aJ (bt 2 Ge.nd (bb)))) (λea=>PassesOwnAt.leaving))))))),cx (λQ q=>q) (aT ⟨kn,q⟩)]
 ·rw[1,_,bP (cP t.g9 t.ji.choose_spec.choose_spec.2 t.nu (t.no _ _ #[2])) (bP (cP t.g9 t.ji.choose_spec.choose_spec.2 t.oS.choose_spec.choose_spec.2.has (t.no _ _ #[2])) (dZ (yN.self t.ji.choose_spec.choose_spec.2) (λea=>(aJ (bt 2 Ge.nd (bb)))) (λea=>PassesOwnAt.leaving))),cx (λQ q=>q) (aT ⟨kn,q⟩)]
def jr(f h:Addr):qJ:=λds d Q X=>e' f h ds d (λt d'=>Q (.tup [.str "",t]) d') X
theorem qo{f:Addr}(F:(12,"_law_try","_law_try",UK))(Y9:I_ P w K mg base 7 CBook "deed" (17,e')):aQ P w K mg base cy (7+1) f fd ["_law_hall", "_law_order"] (liftM K mg (17,jr)):=by
 refine j7 F Lv (by rintro ds d Qd Xd⟨n,r,t,rule,u,_,(⟨rfl,_⟩|⟨m,_,_,rfl,_⟩)⟩<;>rfl) (λj A outer s H G E p hr ds d Qd Xd h=>?_);obtain⟨n,r,t,rule,u,g,h⟩:=h
 rw[5,aB (bt 2 Lv.nd (bb))
   (aB (bt 3 Lv.nd (e2))
   (aB (bt 4 Lv.nd (e2))
   (aB (pY (λH1 Z W=>(aJ (I5 3 Lv.nd (Jb 0 Y9 hr (ax (ay 1) aC))))) rfl rfl)
   (aB (b8 (br lJ ma (aG 4) (aS.bo (e2)) (aY _))
   cb
   bw)
   (aJ (bq (bI (24,2,3))))))))]
 rcases h with⟨rfl,rfl,q⟩|⟨m,a,k,rfl,rfl,q⟩
 ·refine⟨_,.inr ⟨p,rfl⟩,rfl,rfl,n,r,t,rule,u,g,.inl ⟨rfl,rfl,?_⟩⟩
  exact cx (λQ q=>q) (aT ⟨kn,_,_,rfl,rfl,q⟩)
 ·refine⟨_,.inr ⟨p,rfl⟩,rfl,rfl,n,r,t,rule,u,g,.inr ⟨m,a,k,rfl,rfl,?_⟩⟩
  exact cx (λQ q=>q) (aT ⟨kn,_,_,rfl,rfl,q⟩)
def Zh(f h:Addr):cN:=λds Q=>∃k n y:Int,(3,ds,[iY f h,.int k,.int n,.int y],Sm n,Sm y/\(((k=0\/k=1)/\Q (.val (.str "feast")))\/((k=2\/k=3)/\ ¬(n=0/\0<=y)/\Q (.val (.str "day")))))
theorem Zp{f:Addr}(F:(12,"_law_refused","_law_refused",Zo))(Yk:fY P w K mg base 7 CBook "place" (fP CBook))(b:fY P w K mg base 7 CBook "why" (17,hW))(a:fY P w K mg base 7 CBook "page" (17,eY))(e:fY P w K mg base 7 CBook "evening" (17,c6))(t:eB K mg base):aQ P w K mg base cy (7+1) f fd ["_law_hall", "_law_what", "_law_one", "_law_other"] (aV K (Zh CBook CChart)):=by
 refine(19,bf,F,JH,by rintro ds Qd⟨k,n,y,rfl,_⟩;rfl);obtain⟨k,n,y,rfl,hn,hy,h⟩:=h
 rw[5,aB (bt 4 JH.nd (bb))
   (aB (pY (λH1 Z W=>(aB (b8 (br fk c' (aG 1) (aS.bo (aX)) (aY _))
   (aJ (eF (aS.bo (bR (R:=W) Yk hr (λx Y=>fO x Y) (ay 0) (24,2,3)))))
   bw)
   (aB (b8 (br fk c' (aG 1) (aS.bo (aX)) (aY _))
   (aJ (eF (aS.bo (bR (R:=W) b hr (λx Y=>fO x Y) (ay 0) (24,2,3)))))
   bw)
   (aB (b8 (br fk c' (aG 1) (aS.bo (aX)) (aY _))
   (aJ (eF (aS.bo (bR (R:=W) a hr (λx Y=>fO x Y) (ay 0) (24,2,3)))))
   bw)
   (aJ (b8 (br fk c' (aG 1) (aS.bo (aX)) (aY _))
   (aJ (eF (aS.bo (bR (R:=W) e hr (λx Y=>fO x Y) (ay 0) (24,2,3)))))
   bw)))))) rfl rfl)
   (aJ (bq (ay 4))))]
 rcases h with⟨rfl|rfl,q⟩|⟨rfl|rfl,hd,q⟩
 ·exact fW (λQ q=>q) ⟨rfl,rfl,rfl,_,_,_,rfl,hn,hy,_,((dZ (yN.self #[17]) (λea=>(aJ (bt 4 JH.nd (bb)))) (λea=>PassesOwnAt.never))),q⟩
 ·exact cx (λQ q=>q) (aT (fW (λQ q=>q) ⟨rfl,rfl,rfl,_,_,0,_,_,rfl,#[2],hn,hy,_,((dZ (yN.self #[17]) (λea=>(aJ (bt 4 JH.nd (bb)))) (λea=>PassesOwnAt.never))),q⟩))
 ·exact cx (λQ q=>q) (aT (cx (λQ q=>q) (aT (fW (λQ q=>q) ⟨rfl,rfl,rfl,_,_,_,_,_,rfl,hn,hy,.inr ⟨hd,_,((bP (cP t.g9 t.kB.choose_spec.choose_spec.2 #[17].has (t.no _ _ #[2])) (dZ (yN.self t.kB.choose_spec.choose_spec.2) (λea=>(aJ (bt 4 JH.nd (bb)))) (λea=>PassesOwnAt.never)))),q⟩⟩))))
 ·exact cx (λQ q=>q) (aT (cx (λQ q=>q) (aT (cx (λQ q=>q) (aT (fW (λQ q=>q) ⟨rfl,rfl,rfl,_,_,_,_,_,rfl,hn,hy,.inr ⟨hd,_,((bP (cP t.g9 t.kB.choose_spec.choose_spec.2 #[17].has (t.no _ _ #[2])) (dZ (yN.self t.kB.choose_spec.choose_spec.2) (λea=>(aJ (bt 4 JH.nd (bb)))) (λea=>PassesOwnAt.never)))),q⟩⟩))))))
def Z4(c f h:Addr):cN:=λds Q=>ds=[gY c f h,.int 0,.int 1]/\Q (.val (.bl true))
theorem Z1{f:Addr}(F:(12,"_law_log_refused","_law_log_refused",Z3))(Yg:fY P w K mg base 7 CLog "between" (fb CLog CBook CChart))(t:eB K mg base):aQ P w K mg base cy (7+1) f fd ["_law_hand", "_law_one", "_law_other"] (aV K (Z4 CLog CBook CChart)):=by
 refine(19,bf,F,Z2,by rintro ds Qd⟨rfl,_⟩;rfl);obtain⟨rfl,q⟩:=h
 rw[5,aB (bt 3 Z2.nd (kN))
   (aB (pY (λH1 Z W=>(aJ (eF (aS.bo (bR (R:=W) Yg hr (λx Y=>fO x Y) (ay 0) (24,1,2)))))) rfl rfl)
   (aJ (bq (ay 3))))]
 exact⟨rfl,rfl,rfl,.inr ⟨rfl,_,((dZ (yN.self t.t4.choose_spec.choose_spec.2) (λea=>(aJ (bt 3 Z2.nd (kN)))) (λea=>PassesOwnAt.never))),q⟩⟩
def js(f h:Addr):dO:=λds Q Xd=>∃n y d:Int,(3,ds,[iY f h,.int n,.int y,.int d],Sm n,0<=y/\Sm y/\Sm (1+y)/\0<=d/\Sm d/\Q (.val (.bl true)))
theorem qp{f:Addr}(F:(12,"_law_empty","_law_empty",Lu))(b:eI P w K mg base 8 CBook "shut" (17,Pg))(o:eI P w K mg base 8 CBook "rows" (Mr CBook))(C:eI P w K mg base 8 CBook "entries" (17,Zv))(c:eI P w K mg base 8 CBook "lengths" (17,Mq))(a:fY P w K mg base 8 CBook "page" (17,eY))(J:eI P w K mg base 8 CBook "told" (17,Ms))(Y8:eI P w K mg base 8 CBook "sealed" (17,Vc))(e:fY P w K mg base 8 CBook "evening" (17,c6))(Y5:dM P w K mg base 8 "_law_refused" (17,Zh))(h3:(2,mg "range")):aQ P w K mg base (dN P w) (8+1) f fd ["_law_hall", "_law_number", "_law_year", "_law_day"] (bM K mg (17,js)):=by
 rw[7,bz,F,O4,by rintro ds Qd Xd⟨n,y,d,rfl,_⟩;rfl,?_];obtain⟨n,y,d,rfl,hn,k,hy,i,g,hd,q⟩:=h
 rw[0,⟨_,(aB (b8 (oJ.pt (jb (br (da hr.units) cz (b'.bo (cv c hr (ay 0))) (b'.bo (bE aC)) (aY _)) (jb (br (da hr.units) cz (b'.bo (cv C hr (ay 0))) (b'.bo (bE aC)) (aY _)) (jb (br (da hr.units) cz (b'.bo (cv o hr (ay 0))) (b'.bo (bE aC)) (aY _)) (iW (br (Jk hr.units) Jl (b'.bo (cv b hr (ay 0))) (b'.bo (HC)) (aY _)))))))
   (aJ (bq (kN)))
   bw)
   (aB (b8 (oJ.pt (jb (br (da hr.units) cz (b'.bo (cv Y8 hr (ay 0))) (b'.bo (bE aC)) (aY _)) (jb (br (da hr.units) cz (b'.bo (cv J hr (ay 0))) (b'.bo (bE aC)) (aY _)) (iW (br (da hr.units) cz (aS.bo (bR (R:=λx _=>Xd x) a hr (λx Y r=>B x Y r) (ay 0) (ax (aX) (ax (ay 3) aC)))) (aS.bo (bI (ax (e2) (ax (b'.fx (bE aC)) aC)))) (aY _))))))
   (aJ (bq (kN)))
   bw)
   (aB (b8 (br lJ ma (aS.bo (bR (R:=λx _=>Xd x) e hr (λx Y r=>B x Y r) (ay 0) (ax (aX) (ax (ay 3) aC)))) (aS.bo (e2)) (aY _))
   (aJ (bq (kN)))
   bw)
   (aB (xy 4 O4.nd (nT:=1) (N':=["_law_what", "0acc", "_law_hall", "_law_number", "_law_year", "0_law_day", "0_law_words"]) (47,Lu,O3) rfl h3 (ax (aX) aC) (λ_ _ _ _ _=>(a' 0 #[2] Zr)) (λ_ _ _ _ _=>cI) (λ_ _ _ _ _=>(bg Y5 hr (ax (ay 2) (ax (ay 0) (24,3,4))))))
   (aB (bt 4 O4.nd (b'.fx (yB (aG 4) (b'.bo (54,tN,["_law_what", "0acc", "_law_hall", "0_law_number", "_law_year", "_law_day", "0_law_words"],Lu,O3,bI (ax (aX) (ax (aX) aC)),Zx,bg Y5 hr (ax (ay 2) (ax (ay 0) (ax (dQ (aS.bo (aX)) (aG 4)) (ax (ay 5) aC)))))))))
   (aJ (bq (lR (pz hr.units) cz (aG 4) (b'.bo (bE (ax (bb) (ax (bb) (ax (bb) (ax (bb) aC)))))) (aY _))))))))),?_⟩,cx (jd (λQ q=>⟨rfl,rfl,rfl,_,_,_,_,rfl,(15,(8,0)),rfl,rfl,q⟩) (jd (λQ q=>⟨rfl,rfl,rfl,_,_,rfl,.inl ⟨_,_,_,rfl,(15,(8,0)),rfl,rfl,q⟩⟩) (jd (λQ q=>⟨rfl,rfl,rfl,_,_,rfl,(15,(8,0)),rfl,rfl,q⟩) (λQ q=>⟨rfl,rfl,rfl,_,_,_,_,0,rfl,#[2],?_⟩)))) (aT ?_)]
 ·rw[1,rfl,rfl,q]
 rw[0,cx (jd (λQ q=>⟨rfl,rfl,rfl,_,_,_,_,rfl,(15,(8,0)),rfl,rfl,q⟩) (jd (λQ q=>⟨rfl,rfl,rfl,_,.inl ⟨rfl,(15,(8,0)),rfl,rfl,q⟩⟩) (λQ q=>⟨rfl,rfl,rfl,_,_,_,_,_,rfl,#[2],hd,.inl ⟨rfl,g,(15,(8,0)),kn,rfl,rfl,q⟩⟩))) (aT ?_),cx (λQ q=>⟨rfl,rfl,rfl,_,_,_,_,_,rfl,#[2],hd,.inl ⟨rfl,g,q⟩⟩) (aT ?_)];have lG:¬(1+y=0/\0<=d):=λz=>#[3]
 rw[0,⟨⟨#[2],#[2]⟩,cS.t ⟨0,n,y,rfl,hn,hy,.inl ⟨.inl rfl,(25,0),cS.t ⟨1,n,y,rfl,hn,hy,.inl ⟨.inr rfl,(25,1),?_⟩⟩⟩⟩⟩,⟨kn,cS.t ⟨2,1+y,d,rfl,i,hd,.inr ⟨.inl rfl,lG,(25,0),cS.t ⟨3,1+y,d,rfl,i,hd,.inr ⟨.inr rfl,lG,(25,1),(15,(8,2+2)),?_⟩⟩⟩⟩⟩];exact⟨D8,rfl,rfl,q⟩
theorem vV{x:Str}(lG:ps≠[])(S:∀p∈ps,32∉p.cps.toList)(e:x.cps.toList=(Str.join ⟨#[32]⟩ ps).cps.toList):Txt.split x " "=ps:=by
 rw[An,oU e,<-StrLaws.glued_eq_join];exact xE lG S
theorem ue(h:Bd n):(bA n).cps.toList.length<=13:=(26,len_list,(qf h.1 h.2).2.2)
theorem Js{x w:Str}{b:Int}(hw:32∉w.cps.toList)(hl:w.cps.toList.length<=100)(ha:Bd a)(hb:Bd b)(e:x.cps.toList=w.cps.toList++32::((bA a).cps.toList++32::(bA b).cps.toList)):x.length<=16384/\Txt.split x " "=[w,bA a,bA b]:=by
 constructor
 ·have h1:=ue ha
  have h2:=ue hb;rw[len_list,e];simp only[List.length_append,List.length_cons];omega
 ·refine vV (by simp) (λp hp=>?_) ?_
  ·simp only[List.mem_cons,List.not_mem_nil,or_false]at hp
   rcases hp with rfl|rfl|rfl
   ·exact hw
   ·exact qg a
   ·exact qg b
  ·rw[e]
   simp only[PyProof.Rows.join_one,PyProof.Rows.join_cons_cons,PyProof.Rows.cps_toList_append,List.append_assoc,List.cons_append,List.nil_append]
theorem tx2{x w:Str}(hw:32∉w.cps.toList)(hl:w.cps.toList.length<=100)(ha:Bd a)(e:x.cps.toList=w.cps.toList++32::(bA a).cps.toList):x.length<=16384/\Txt.split x " "=[w,bA a]:=by
 constructor
 ·have h1:=ue ha
  rw[len_list,e];simp only[List.length_append,List.length_cons];omega
 ·refine vV (by simp) (λp hp=>?_) ?_
  ·simp only[List.mem_cons,List.not_mem_nil,or_false]at hp
   rcases hp with rfl|rfl
   ·exact hw
   ·exact qg a
  ·rw[e]
   simp only[PyProof.Rows.join_one,PyProof.Rows.join_cons_cons,PyProof.Rows.cps_toList_append,List.append_assoc,List.cons_append,List.nil_append]
theorem fz:Str.empty.cps.toList=[]:=#[10]
theorem Dt:Bd 0:=⟨#[2],#[2]⟩
theorem sG(M:0<=n)(h1:n<10^12):ub ("page 0 "++(bA n++Str.empty)) (.lst [.str "none"]):=by
 have hb:Bd n:=⟨#[3],h1⟩
 have⟨a,b⟩:=Js (x:= "page 0 "++(bA n++Str.empty)) (w:= "page") (a:=0) (b:=n) #[10] #[10] Dt hb (by
  rw[PyProof.Rows.cps_toList_append,PyProof.Rows.cps_toList_append,fz,show(35,"page 0 ")=(35,"page")++32::((bA 0).cps.toList++[32])by decide+kernel]
  rw[17])
 exact .inr ⟨a,.inl ⟨_,0,n,b,Dt,hb,.inl ⟨.inl rfl,.inl ⟨rfl,M,rfl⟩⟩⟩⟩
theorem mz(M:0<=n)(h1:n<10^12):ub ("evening 0 "++(bA n++Str.empty)) (.lst [.str "none"]):=by
 have hb:Bd n:=⟨#[3],h1⟩
 have⟨a,b⟩:=Js (x:= "evening 0 "++(bA n++Str.empty)) (w:= "evening") (a:=0) (b:=n) #[10] #[10] Dt hb (by
  rw[PyProof.Rows.cps_toList_append,PyProof.Rows.cps_toList_append,fz,show(35,"evening 0 ")=(35,"evening")++32::((bA 0).cps.toList++[32])by decide+kernel]
  rw[17])
 exact .inr ⟨a,.inl ⟨_,0,n,b,Dt,hb,.inl ⟨.inr rfl,.inl ⟨rfl,M,rfl⟩⟩⟩⟩
theorem xK(hm:Bd m)(hn:Bd n):ub ("place "++(bA m++(" "++(bA n++Str.empty)))) (.lst [.str "no: feast"]):=by
 have⟨a,b⟩:=Js (x:= "place "++(bA m++(" "++(bA n++Str.empty)))) (w:= "place") (a:=m) (b:=n) #[10] #[10] hm hn (by
  rw[PyProof.Rows.cps_toList_append,PyProof.Rows.cps_toList_append,PyProof.Rows.cps_toList_append,PyProof.Rows.cps_toList_append,fz,show(35,"place ")=(35,"place")++[32]by decide+kernel,show(35," ")=[32]by decide+kernel]
  rw[17])
 exact .inr ⟨a,.inl ⟨_,m,n,b,hm,hn,.inr ⟨.inl rfl,rfl⟩⟩⟩
theorem vW(hm:Bd m):ub ("place "++(bA m++(" 0"++Str.empty))) (.lst [.str "no: feast"]):=by
 have⟨a,b⟩:=Js (x:= "place "++(bA m++(" 0"++Str.empty))) (w:= "place") (a:=m) (b:=0) #[10] #[10] hm Dt (by
  rw[PyProof.Rows.cps_toList_append,PyProof.Rows.cps_toList_append,PyProof.Rows.cps_toList_append,fz,show(35,"place ")=(35,"place")++[32]by decide+kernel,show(35," 0")=32::(bA 0).cps.toList by decide+kernel]
  rw[17])
 exact .inr ⟨a,.inl ⟨_,m,0,b,hm,Dt,.inr ⟨.inl rfl,rfl⟩⟩⟩
theorem C9(hm:Bd m)(hn:Bd n):ub ("why "++(bA m++(" "++(bA n++Str.empty)))) (.lst [.str "no: feast"]):=by
 have⟨a,b⟩:=Js (x:= "why "++(bA m++(" "++(bA n++Str.empty)))) (w:= "why") (a:=m) (b:=n) #[10] #[10] hm hn (by
  rw[PyProof.Rows.cps_toList_append,PyProof.Rows.cps_toList_append,PyProof.Rows.cps_toList_append,PyProof.Rows.cps_toList_append,fz,show(35,"why ")=(35,"why")++[32]by decide+kernel,show(35," ")=[32]by decide+kernel]
  rw[17])
 exact .inr ⟨a,.inl ⟨_,m,n,b,hm,hn,.inr ⟨.inr rfl,rfl⟩⟩⟩
theorem xM(hm:Bd m)(h1:m≠0):ub ("page "++(bA m++(" 0"++Str.empty))) (.lst [.str "no: day"]):=by
 have⟨a,b⟩:=Js (x:= "page "++(bA m++(" 0"++Str.empty))) (w:= "page") (a:=m) (b:=0) #[10] #[10] hm Dt (by
  rw[PyProof.Rows.cps_toList_append,PyProof.Rows.cps_toList_append,PyProof.Rows.cps_toList_append,fz,show(35,"page ")=(35,"page")++[32]by decide+kernel,show(35," 0")=32::(bA 0).cps.toList by decide+kernel]
  rw[17])
 exact .inr ⟨a,.inl ⟨_,m,0,b,hm,Dt,.inl ⟨.inl rfl,.inr ⟨λz=>h1 z.1,rfl⟩⟩⟩⟩
theorem xN(M:0<m)(h1:m<10^12):ub ("evening 0 -"++(bA m++Str.empty)) (.lst [.str "no: day"]):=by
 have hm:Bd (-m):=⟨#[3],#[3]⟩;obtain⟨k,rfl⟩:∃k:Nat,m=k:=⟨m.toNat,#[3]⟩
 have⟨a,b⟩:=Js (x:= "evening 0 -"++(bA k++Str.empty)) (w:= "evening") (a:=0) (b:=-(k:Int)) #[10] #[10] Dt hm (by
  rw[PyProof.Rows.cps_toList_append,PyProof.Rows.cps_toList_append,fz,show(35,"evening 0 -")=(35,"evening")++32::((bA 0).cps.toList++[32,45])by decide+kernel,vT k #[3],vS]
  rw[17])
 exact .inr ⟨a,.inl ⟨_,0,_,b,Dt,hm,.inl ⟨.inr rfl,.inr ⟨λz=>#[3],rfl⟩⟩⟩⟩
theorem Ar{y:Int}(hy:Bd y):ub ("seal "++(bA y++Str.empty)) (.lst [.str "no: year"]):=by
 have⟨a,b⟩:=tx2 (x:= "seal "++(bA y++Str.empty)) (w:= "seal") (a:=y) #[10] #[10] hy (by
  rw[PyProof.Rows.cps_toList_append,PyProof.Rows.cps_toList_append,fz,show(35,"seal ")=(35,"seal")++[32]by decide+kernel]
  rw[17])
 exact .inr ⟨a,.inr ⟨y,b,hy,rfl⟩⟩
def Z6(a c f h:Addr):cN:=λds Q=>∃n:Int,(3,ds,[kJ a c f h,.int n],0<=n,n<10^12/\Q (.val (.bl true)))
theorem Z9{f:Addr}(F:(12,"_law_desk_empty","_law_desk_empty",Z7))(v:fY P w K mg base 11 cu "say" (hZ cu CLog CBook CChart)):aQ P w K mg base cy (11+1) f fd ["_law_desk", "_law_great"] (aV K (Z6 cu CLog CBook CChart)):=by
 refine(19,U.ao,F,Z5,by rintro ds Qd⟨n,rfl,_⟩;rfl);obtain⟨n,rfl,n0,n1,q⟩:=h
 rw[5,U.aj (U.ak 2 Z5.nd (U.ac (U.ad (U.aa (U.cJ (U.cg (U.cD (U.ae 1) U.dH))) (U.aa (U.cJ (U.cg (U.cD (U.ae 1) U.dH))) (U.aa (U.cJ (U.cg (U.cD (U.ae 1) (U.cg (U.cD (U.ae 1) U.dH))))) (U.aa (U.cJ (U.cg (U.cD (U.ae 1) (U.cg (U.cD (U.ae 1) U.dH))))) U.ab))))))) (U.aj (U.ak 2 Z5.nd (U.ac (U.ap (U.ah 2) (U.al (U.ad (U.aa (U.cJ (U.cg (U.cD (U.am (U.af (U.ai)) (U.af (U.an (U.ah 1) (U.af (U.ai))))) (U.cg U.dH)))) (U.aa (U.cJ (U.cg (U.cD (U.am (U.af (U.ai)) (U.af (U.an (U.ah 1) (U.af (U.ai))))) U.dH))) U.ab))))))) (U.aj (U.ak 3 Z5.nd (U.ac (U.ad (U.aa (U.ac (U.ad (U.aa (U.ag) U.ab))) (U.aa (U.ac (U.ad (U.aa (U.ag) U.ab))) (U.aa (U.ac (U.ad (U.aa (U.ag) U.ab))) (U.aa (U.ac (U.ad (U.aa (U.ag) U.ab))) (U.aa (U.ac (U.ad (U.aa (U.ag) U.ab))) (U.aa (U.ac (U.ad (U.aa (U.ag) U.ab))) U.ab))))))))) (U.aq (U.ar (U.as (pz hr.units) cz (U.al (U.au (nT:=1) (N':=["_law_text", "0acc", "_law_desk", "0_law_great", "0_law_texts", "0_law_due"]) (47,Z7,Za) (U.ae 2) (λ_ _ _ _ _=>(U.av 0 #[2] Z0)) (λ_ _ _ _ _=>U.aw) (λ_ _ _ _ _=>(U.bR (R:=λ_ _=>False) v hr (λ_ _ z=>z.elim) (U.ae 2) (U.aa (U.ae 0) U.ab))))) (U.ah 3) (aY _))))))]
 have hb:Bd n:=⟨#[3],n1⟩;have hk:Bd (1+n/2):=⟨#[3],#[3]⟩;rw[0,⟨_,rfl,hb.sm,_,rfl,hb.sm,_,rfl,hb.sm,_,rfl,hb.sm,_,rfl,hb.sm,_,rfl,hb.sm,D8,?_⟩,⟨⟨#[2],#[2]⟩,_,rfl,hk.sm,⟨#[2],#[2]⟩,_,rfl,hk.sm,kn,(15,(8,4+2)),?_⟩];rw[0,⟨pv,pv,pv,pv,pv,pv,LO,?_⟩,cS.t ⟨rfl,rfl,rfl,_,_,rfl,sG n0 n1,(25,0),cS.t ⟨rfl,rfl,rfl,_,_,rfl,mz n0 n1,(25,1),cS.t ⟨rfl,rfl,rfl,_,_,rfl,xK hb hb,(25,2),cS.t ⟨rfl,rfl,rfl,_,_,rfl,C9 hb hb,(25,3),cS.t ⟨rfl,rfl,rfl,_,_,rfl,xM hk #[3],(25,4),cS.t ⟨rfl,rfl,rfl,_,_,rfl,xN #[3] hk.2,(25,5),?_⟩⟩⟩⟩⟩⟩];rw[1,rfl,rfl,q]
theorem aQ.x{sp:cN}{k:Nat}{f:Addr}(F:aQ P w K mg base cy k f fd ps (aV K sp)):aQ P w K mg base (dN P w) k f fd ps (bM K mg λds Q _=>sp ds Q):=
 (M.aQ.up F).imp λvs H Q E⟨ds,Qd,Xd,h1,h2,J,_⟩=>⟨ds,Qd,h1,h2,J⟩
theorem _root_.M.eI.x{sp:cN}{k:Nat}{C:Addr}{m:Str}(F:eI P w K mg base k C m sp):fY P w K mg base k C m λds Q _=>sp ds Q:=
 let⟨f,fd,ps,F,c,m,b⟩:=F.ex;⟨f,fd,ps,aQ.x F,c,m,b⟩
theorem oo:∀d∈([]:List D),sv d:=λ_ h=>nomatch h
theorem ee{d:D}(h:sv d)(r:∀x∈ds,sv x):∀x∈d::ds,sv x:=λx hx=>by
 rcases List.mem_cons.mp hx with rfl|hx
 ·exact h
 ·exact r x hx
theorem E6(n:Int):sv (q0 n):=tU (ee (hT _) (ee (hT _) (ee (oR _) (ee (hT _) oo))))
theorem As(r n:Int)(v:Str):sv (jl r n v):=tU (ee (hT _) (ee (hT _) (ee (hT _) (ee (oR _) (ee (hT _) oo)))))
theorem C_{f:(1,#[0])}{bk:(1,#[0])}(h:f Y):bC.nx {nx:=f,rt:=rt,bk:=bk,ct:=ct} Y:=h
theorem Jt{i:Nat}{u:RS}{d:D}(e:(0,Y[i]?,.ow d))(h:u E (Y.set i (.fr d))):oL i u E Y:=by
 unfold oL;rw[2,e,h]
theorem Dc(r n:Int)(t rule:Str)(u:Int):(("enter ":Str)++(bA n++((" ":Str)++(bA r++((" ":Str)++(t++((" ":Str)++(rule++((" 0 0 ":Str)++(bA u++Str.empty))))))))):Str)=C7 r n t rule u:=by
 refine oU ?_
 show _=(Builtin.Str.glued (" ":Str) _).cps.toList
 rw[StrLaws.glued_eq_join];simp only[PyProof.Rows.join_one,PyProof.Rows.join_cons_cons,PyProof.Rows.cps_toList_append,fz,List.append_assoc,List.append_nil];rw[show(35,"enter ")=(35,"enter")++(35," ")by decide+kernel,show(35," 0 0 ")=(35," ")++((bA 0).cps.toList++((35," ")++((bA 0).cps.toList++(35," "))))by decide+kernel];simp only[List.append_assoc]
theorem ka(x:Str):sv (.tup [.str x,.bu]):=tU (ee (oR _) (ee EY oo))
def LA:cN:=λds Q=>∃ns:List Int,(3,ds,[.lst (ns.map .int)],ns.length<=63,Q (.val (.bl true)))
theorem Zc0{f:Addr}(F:(12,"law","law",Ds))(Yh:dM P w K mg base 12 "_law_digits" Vk)(y:dM P w K mg base 12 "_law_cell" Vj)(Yj:uE P w K mg base 12 "_law_empty" (17,js))(m:eI P w K mg base 12 CLog "book" (Lz CLog CBook CChart))(Y1:dM P w K mg base 12 "_law_desk_empty" (Z6 cu CLog CBook CChart))(Y1f:uE P w K mg base 12 "_law_try" (17,my))(Y0:dM P w K mg base 12 "_law_log_refused" (Z4 CLog CBook CChart))(Yg:fY P w K mg base 12 CLog "between" (fb CLog CBook CChart))(Y17:eI P w K mg base 12 CLog "stand" (Vf CLog CBook CChart))(v:fY P w K mg base 12 cu "say" (hZ cu CLog CBook CChart))(C:eI P w K mg base 12 CBook "entries" (17,Zv))(o:eI P w K mg base 12 CBook "rows" (Mr CBook))(Ym:NL P w K mg base 12 "_law_try" (17,jr))(J:eI P w K mg base 12 CBook "told" (17,Ms))(r:AF P w K mg base 11 "Book" CBook (17,eX))(x:AF P w K mg base 11 "Log" CLog (hX CLog CBook CChart))(Y21:AF P w K mg base 11 "Desk" cu (kI cu CLog CBook CChart)):aQ P w K mg base cy (12+1) f fd ["_law_script"] (aV K LA):=by
 refine(19,bf,F,sC,by rintro ds Qd⟨ns,rfl,_⟩;rfl);obtain⟨ns,rfl,G,q⟩:=h
 rw[0,⟨_,(aB (dS (bg Yh hr (ax (bg y hr (ax (ay 0) (ax (aX) aC))) (ax (b'.fx (bE (ax (aX) (ax (aX) (ax (aX) (ax (aX) aC)))))) aC))) (FE (n:=4) rfl (aL (aP 1 sC.nd) (aL (aP 2 sC.nd) (aL (aP 3 sC.nd) (aL (aP 4 sC.nd) bZ))))))
   (aB (dS (bg Yh hr (ax (bg y hr (ax (ay 0) (ax (aX) aC))) (ax (b'.fx (bE (ax (aX) (ax (aX) (ax (aX) (ax (aX) aC)))))) aC))) (FE (n:=4) rfl (aL (aP 5 sC.nd) (aL (aP 6 sC.nd) (aL (aP 7 sC.nd) (aL (aP 8 sC.nd) bZ))))))
   (aB (e6 9 sC.nd (j9 r hr))
   (aB (bt 10 sC.nd (b'.fx (j9 x hr)))
   (aB (bt 11 sC.nd (b'.fx (j9 Y21 hr)))
   (aB (b8 (oJ.pt (jb (eA (lU (tV 9 Yj hr (ax (ay 1) (ax (ay 2) (ax (ay 5) aC)))))) (iW (eA (lU (cO (R:=λ_ _=>False) Yj hr (λ_ _ z=>z.elim) (ax (b'.fx (cv m hr (ay 10))) (ax (ay 1) (24,2,5)))))))))
   (aJ (bq (kN)))
   bw)
   (aB (bt 12 sC.nd (m5 (aS.bo (bg Yh hr (ax (bg y hr (ax (ay 0) (ax (aX) aC))) (ax (b'.fx (bE (ax (Ft (aS.bo (aX)) (aS.bo (aX))) aC))) aC)))) (aS.bo (aX))))
   (aB (b8 (oJ.pt (jb (eA (lU (tV 9 Yj hr (ax (ay 12) (ax (dQ (aS.bo (aX)) (aG 12)) (ax (ay 12) aC)))))) (iW (eA (lU (bg Y1 hr (24,11,12)))))))
   (aJ (bq (kN)))
   bw)
   (aB (e6 13 sC.nd (bE (ax (bI (ax (bb) (ax (ay 1) aC))) (ax (bI (ax (bb) (ax (ay 1) (ax (aX) aC)))) (ax (bI (ax (bb) (ax (ay 2) (ax (ay 5) aC)))) (ax (bI (ax (bb) (ax (ay 2) aC))) (ax (bI (ax (bb) (ax (ay 2) aC))) aC)))))))
   (aB (pq 13 (bI (ax (bb) (ax (aX) (24,5,6)))))
   (pd 13 (aB (hO 14 sC.nd (nT:=1) (N':=["_law_order", "0acc", "0_law_script", "0_law_number", "0_law_year", "0_law_rank", "0_law_sort", "0_law_day", "0_law_bound", "0_law_rule", "0_law_first", "_law_hall", "0_law_hand", "0_law_desk", "0_law_great", "0_law_bad", "0_law_found", "0_law_said", "0_law_way", "0_law_kind", "0_law_order", "0_law_turns"]) (47,Ds,Mh) (ay 13) (λ_ _ _ _ _=>(a' 0 #[2] Zaw)) (λ_ _ _ _ _=>cI) (λ_ _ _ _ _=>(tV 11 Y1f hr (ax (ay 0) aC))))
   (aB (b8 (br (da hr.units) cz (b'.bo (54,fK,["_law_one", "0acc", "0_law_script", "0_law_number", "0_law_year", "0_law_rank", "0_law_sort", "0_law_day", "0_law_bound", "0_law_rule", "0_law_first", "0_law_hall", "0_law_hand", "0_law_desk", "0_law_great", "0_law_bad", "0_law_found", "0_law_said", "0_law_way", "0_law_kind", "0_law_order", "0_law_turns"],Ds,Mh,ay 14,Zax,m5 (aG 0) (aS.bo (aX)))) (b'.bo (bE (ax (bb) (ax (bb) (ax (bb) (ax (bb) (ax (bb) (ax (bb) aC)))))))) (aY _))
   (aJ (bq (kN)))
   bw)
   (aB (b8 (oJ.pt (jb (br yc ta (aS.bo (EX Y17 hr (ay 10))) (aS.bo (aX)) (aY _)) (jb (br (da hr.units) cz (aS.bo (bR (R:=λ_ _=>False) Yg hr (λ_ _ z=>z.elim) (ay 10) (ax (aX) (ax (aX) aC)))) (b'.bo (bE aC)) (aY _)) (iW (eA (lU (bg Y0 hr (ax (ay 10) (ax (aX) (ax (aX) aC))))))))))
   (aJ (bq (kN)))
   bw)
   (aB (hO 15 sC.nd (nT:=1) (N':=["_law_text", "0acc", "0_law_script", "0_law_number", "0_law_year", "0_law_rank", "0_law_sort", "0_law_day", "0_law_bound", "0_law_rule", "0_law_first", "0_law_hall", "0_law_hand", "_law_desk", "0_law_great", "0_law_bad", "0_law_found", "0_law_said", "0_law_way", "0_law_kind", "0_law_order", "0_law_turns"]) (47,Ds,Mh) (b'.fx (bE (ax (bb) (ax (bb) (ax (cJ (cg (cD (ay 5) dH))) (ax (cJ (cg (cD (ay 5) dH))) (ax (cJ (cg (cD (ay 1) (cg dH)))) aC))))))) (λ_ _ _ _ _=>(a' 0 #[2] Zas)) (λ_ _ _ _ _=>cI) (λ_ _ _ _ _=>(bR (R:=λ_ _=>False) v hr (λ_ _ z=>z.elim) (ay 13) (ax (ay 0) aC))))
   (aB (b8 (oJ.pt (jb (br (da hr.units) cz (aG 15) (b'.bo (bE (ax (b'.fx (bE aC)) (ax (b'.fx (bE aC)) (ax (b'.fx (bE (ax (bb) aC))) (ax (b'.fx (bE (ax (bb) aC))) (ax (b'.fx (bE (ax (bb) aC))) aC))))))) (aY _)) (iW (br (da hr.units) cz (aS.bo (bR (R:=λ_ _=>False) v hr (λ_ _ z=>z.elim) (ay 11) (ax (cJ (cg (cD (ay 2) dH))) aC))) (b'.bo (bE (ax (bb) aC))) (aY _)))))
   (aJ (bq (kN)))
   bw)
   (aB (bt 16 sC.nd (m5 (b'.bo (bE (ax (bb) (ax (bb) (ax (bb) aC))))) (aG 4)))
   (aB (bt 17 sC.nd (m5 (b'.bo (bE (ax (bb) (ax (bb) aC)))) (aG 7)))
   (aB (bt 18 sC.nd (bI (ax (bb) (ax (ay 1) (ax (dQ (aS.bo (aX)) (aG 3)) (ax (ay 16) (ax (ay 17) (ax (aX) (ax (aX) (ax (ay 8) aC))))))))))
   (aB (Ga (Lg (CQ (da hr.units) cz (CS 9 Ym hr (ax (ay 18) aC)) (aS.bo (bI (ax (bb) (ax (b'.fx (bE aC)) aC)))) (aY _)) (jb (br (da hr.units) cz (aS.bo (mm 9 o.x hr)) (b'.bo (bE aC)) (aY _)) (iW (br (da hr.units) cz (aS.bo (mm 9 C.x hr)) (b'.bo (bE aC)) (aY _)))))
   (aJ (bq (kN)))
   bw)
   (aB (b8 (br (da hr.units) cz (aS.bo (mm 9 J.x hr)) (b'.bo (bE (ax (cJ (cg (cD (ay 1) (cg (cD (dQ (aS.bo (aX)) (aG 3)) (cg (Ce (ay 16) (cg (Ce (ay 17) (cg (cD (ay 8) dH))))))))))) aC))) (aY _))
   (aJ (bq (kN)))
   bw)
   (aB (bt 19 sC.nd (b'.fx (bE (ax (bI (ax (ay 1) (ax (aX) (ax (e2) (ax (bI (ax (bb) (ax (aX) aC))) aC))))) aC))))
   (aB (Ga (CQ (da hr.units) cz (CS 9 Ym hr (ax (bI (ax (bb) (ax (dQ (aS.bo (aX)) (aG 5)) (ax (aX) aC)))) aC)) (aS.bo (bI (ax (bb) (ax (ay 19) aC)))) (aY _))
   (aJ (bq (kN)))
   bw)
   (aJ (bq (Kb (lR (pz hr.units) cz (aS.bo (mm 9 C.x hr)) (b'.bo (bE (ax (bI (ax (dQ (aS.bo (aX)) (aG 3)) (ax (ay 1) (ax (aX) (ax (ay 16) (ax (aX) aC)))))) aC))) (aY _)) (ym (lR (pz hr.units) cz (aS.bo (mm 9 o.x hr)) (b'.bo (bE (ax (bI (ax (ay 1) (ax (aX) (ax (bb) (ax (aX) aC))))) aC))) (aY _))))))))))))))))))))))))))))),?_⟩,⟨ns,0,rfl,#[2],λv0=>⟨D8,v0,[1000000,12,9,3],rfl,λs hs=>?_,#[2],Drawn.four λa b c e a0 a1 X b1 c0 B e0 O=>⟨rfl,?_⟩⟩⟩]
 ·simp only[List.mem_cons,List.not_mem_nil,or_false]at hs
  rcases hs with rfl|rfl|rfl|rfl<;>exact⟨#[2],#[2]⟩
 refine g_ #[26]
 show ft _ _ _ [.fr (.lst (ns.map .int)),(9,a),(9,b),(9,c),(9,e),.un,.un,.un,.un,.un,.un,.un,.un,.un,.un,.un,.un,.un,.un,.un]
 refine⟨ns,1,rfl,#[2],λv1=>⟨D8,v1,[400,10,2,3],rfl,λs hs=>?_,#[2],Drawn.four λd g h i S L g0 g1 M h1 i0 i1=>⟨rfl,?_⟩⟩⟩
 ·simp only[List.mem_cons,List.not_mem_nil,or_false]at hs
  rcases hs with rfl|rfl|rfl|rfl<;>exact⟨#[2],#[2]⟩
 refine g_ #[26]
 show ft _ _ _ [.fr (.lst (ns.map .int)),(9,a),(9,b),(9,c),(9,e),(9,d),(9,g),(9,h),(9,i),.un,.un,.un,.un,.un,.un,.un,.un,.un,.un,.un]
 have U:Bd a:=⟨#[3],#[3]⟩;have W:Bd b:=⟨#[3],#[3]⟩;have Vl:Bd (1+b):=⟨#[3],#[3]⟩;have p:Bd d:=⟨#[3],#[3]⟩;refine⟨rfl,rfl,rfl,rfl,rfl,rfl,rfl,rfl,rfl,?_⟩
 show ft _ _ _ [.fr (.lst (ns.map .int)),(9,a),(9,b),(9,c),(9,e),(9,d),(9,g),(9,h),(9,i),.ow (17,iY),.fr (gY CLog CBook CChart),.fr (kJ cu CLog CBook CChart),.un,.un,.un,.un,.un,.un,.un,.un]
 rw[0,cx (jd (b7 (b1:=true) (λQ q=>⟨_,_,.inl rfl,a,b,d,rfl,U.sm,X,W.sm,Vl.sm,S,p.sm,CM _,q⟩)) (b7 (b1:=true) (λQ q=>⟨rfl,rfl,rfl,rfl,a,b,d,rfl,U.sm,X,W.sm,Vl.sm,S,p.sm,q⟩))) (aT ?_),⟨ns,2,rfl,#[2],λv2=>⟨Ky,pv,v2,[10^12],rfl,λs hs=>?_,#[2],Drawn.one λn n0 n1=>⟨_,rfl,?_⟩⟩⟩]
 ·rw[2,List.mem_singleton.mp hs,⟨#[2],#[2]⟩]
 show ft _ _ _ [.fr (.lst (ns.map .int)),(9,a),(9,b),(9,c),(9,e),(9,d),(9,g),(9,h),(9,i),.ow (17,iY),.fr (gY CLog CBook CChart),.fr (kJ cu CLog CBook CChart),(9,n),.un,.un,.un,.un,.un,.un,.un]
 have bn:Bd n:=⟨#[3],n1⟩;have b11:Sm (11+n):=gU #[3] #[3];have b12:Sm (1+(11+n)):=gU #[3] #[3];rw[0,cx (jd (b7 (b1:=true) (λQ q=>⟨_,_,.inl rfl,n,11+n,n,rfl,bn.sm,#[3],b11,b12,n0,bn.sm,CM _,q⟩)) (b7 (b1:=true) (λQ q=>⟨n,rfl,n0,n1,q⟩))) (aT ?_),⟨kn,LM,LM,kn,kn,LN,D8,(25,5),?_⟩];rw[0,C_ ?_,Jt (d:=.lst #[25]) rfl ?_]
 show ft _ _ _ [.fr (.lst (ns.map .int)),(9,a),(9,b),(9,c),(9,e),(9,d),(9,g),(9,h),(9,i),.ow (17,iY),.fr (gY CLog CBook CChart),.fr (kJ cu CLog CBook CChart),(9,n),.fr (.lst #[25]),.un,.un,.un,.un,.un,.un]
 refine cS.t ⟨_,_,.inl rfl,_,_,_, "feast", "NoFeast",rfl,⟨_,_,rfl,.inl ⟨rfl,_,_,_,_,_,rfl,U.sm,rfl⟩⟩,.inl ⟨rfl,rfl⟩,ka _,(25,0),cS.t ⟨_,_,.inl rfl,_,_,_, "feast", "NoFeast",rfl,⟨_,_,rfl,.inr (.inl ⟨rfl,_,_,_,_,_,_,rfl,U.sm,rfl⟩)⟩,.inl ⟨rfl,rfl⟩,ka _,(25,1),cS.t ⟨_,_,.inl rfl,_,_,_, "year", "NoYear",rfl,⟨_,_,rfl,.inr (.inr (.inl ⟨rfl,_,_,_,_,_,_,rfl,W.sm,rfl⟩))⟩,.inr (.inl ⟨rfl,rfl⟩),ka _,(25,2),cS.t ⟨_,_,.inl rfl,_,_,_, "year", "NoYear",rfl,⟨_,_,rfl,.inr (.inr (.inr (.inl ⟨rfl,_,_,_,_,_,rfl,W.sm,rfl⟩)))⟩,.inr (.inl ⟨rfl,rfl⟩),ka _,(25,3),cS.t ⟨_,_,.inl rfl,_,_,_, "year", "NoYear",rfl,⟨_,_,rfl,.inr (.inr (.inr (.inr (.inl ⟨rfl,_,_,_,_,_,rfl,W.sm,rfl⟩))))⟩,.inr (.inl ⟨rfl,rfl⟩),ka _,(25,4),cS.t ⟨_,_,.inl rfl,_,_,_, "bad day", "BadDay",rfl,⟨_,_,rfl,.inr (.inr (.inr (.inr (.inr (.inl ⟨rfl,_,_,_,_,_,_,rfl,S,p.sm,rfl⟩)))))⟩,.inr (.inr ⟨rfl,rfl⟩),ka _,(25,5),?_⟩⟩⟩⟩⟩⟩
 show ft _ _ _ [.fr (.lst (ns.map .int)),(9,a),(9,b),(9,c),(9,e),(9,d),(9,g),(9,h),(9,i),.ow (17,iY),.fr (gY CLog CBook CChart),.fr (kJ cu CLog CBook CChart),(9,n),.fr (.lst #[25]),#[27],.un,.un,.un,.un,.un]
 rw[0,cx (λQ q=>cS.t ⟨_,rfl,(25,0),cS.t ⟨_,rfl,(25,1),cS.t ⟨_,rfl,(25,2),cS.t ⟨_,rfl,(25,3),cS.t ⟨_,rfl,(25,4),cS.t ⟨_,rfl,(25,5),⟨LO,rfl,rfl,q⟩⟩⟩⟩⟩⟩⟩) (aT ?_),cx (jd (λQ q=>⟨rfl,rfl,rfl,rfl,_,rfl,q⟩) (jd (λQ q=>⟨rfl,rfl,rfl,.inl ⟨rfl,(15,(8,0)),rfl,rfl,q⟩⟩) (b7 (b1:=true) (λQ q=>⟨rfl,q⟩)))) (aT ?_)];rw[0,⟨_,rfl,p.sm,_,rfl,p.sm,_,rfl,U.sm,LN,?_⟩,cS.t ⟨rfl,rfl,rfl,_,_,rfl,.inl ⟨.inl rfl,rfl⟩,(25,0),cS.t ⟨rfl,rfl,rfl,_,_,rfl,.inl ⟨.inr rfl,rfl⟩,(25,1),cS.t ⟨rfl,rfl,rfl,_,_,rfl,sG S p.2,(25,2),cS.t ⟨rfl,rfl,rfl,_,_,rfl,mz S p.2,(25,3),cS.t ⟨rfl,rfl,rfl,_,_,rfl,vW U,(25,4),?_⟩⟩⟩⟩⟩]
 show ft _ _ _ [.fr (.lst (ns.map .int)),(9,a),(9,b),(9,c),(9,e),(9,d),(9,g),(9,h),(9,i),.ow (17,iY),.fr (gY CLog CBook CChart),.fr (kJ cu CLog CBook CChart),(9,n),.fr (.lst #[25]),#[27],.fr (.lst [.lst [],.lst [],.lst [.str "none"],.lst [.str "none"],.lst [.str "no: feast"]]),.un,.un,.un,.un]
 refine cx (jd (λQ q=>⟨(15,(8,0)),(15,(8,0)),pv,pv,pv,LN,rfl,rfl,q⟩) (λQ q=>⟨rfl,rfl,rfl,_,rfl,W.sm,_,_,rfl,Ar W,pv,rfl,rfl,q⟩)) (aT ?_);obtain⟨t,Pl,u⟩:∃t:Str,(0,wU ([.str "moves",.str "stays",.str "lapses"]:List D) e,.str t)/\t.length<=100:=by
  rcases(show e=0\/e=1\/e=2 by omega)with rfl|rfl|rfl
  ·exact⟨"moves",rfl,#[2]⟩
  ·exact⟨"stays",rfl,#[2]⟩
  ·exact⟨"lapses",rfl,#[2]⟩
 obtain⟨kind,LB,Vm,Vn⟩:∃kind:Str,(0,wU ([.str "fixed",.str "anchor"]:List D) h,.str kind)/\(kind= "fixed"\/kind= "anchor")/\kind.length<=100:=by
  rcases(show h=0\/h=1 by omega)with rfl|rfl
  ·exact⟨"fixed",rfl,.inl rfl,#[2]⟩
  ·exact⟨"anchor",rfl,.inr rfl,#[2]⟩
 have T:Ly a (1+c) kind i:=⟨a0,#[3],#[3],#[3],Vm,i0,#[3]⟩;rw[0,⟨LM,_,Pl,kn,_,LB,LP,?_⟩,ba (l:=.un) rfl rfl (C_ ?_)]
 show ft _ _ _ [.fr (.lst (ns.map .int)),(9,a),(9,b),(9,c),(9,e),(9,d),(9,g),(9,h),(9,i),.ow (17,iY),.fr (gY CLog CBook CChart),.fr (kJ cu CLog CBook CChart),(9,n),.fr (.lst #[25]),#[27],.fr (.lst [.lst [],.lst [],.lst [.str "none"],.lst [.str "none"],.lst [.str "no: feast"]]),.fr (.str t),.fr (.str kind),.fr (qj (1+c) a t kind i),.un]
 rw[0,⟨_,.inl rfl,a,1+c,t,kind,i,T,.inl ⟨rfl,rfl,?_⟩⟩,⟨(15,(8,0)),kn,rfl,rfl,_,rfl,cS.f ?_⟩];refine(jd (λQ q=>⟨_,.inl rfl,rfl,rfl,_,_,rfl,ml oo,(15,(8,0)),rfl,rfl,q⟩) (λQ q=>⟨_,.inl rfl,rfl,rfl,_,_,rfl,.inl ⟨_,_,_,rfl,ml oo,(15,(8,0)),rfl,rfl,q⟩⟩)) _ (cS.f (aT ?_))
 show ft _ _ _ [.fr (.lst (ns.map .int)),(9,a),(9,b),(9,c),(9,e),(9,d),(9,g),(9,h),(9,i),.ow (cM CBook (Mt CChart a (1+c) t kind i) []),.fr (gY CLog CBook CChart),.fr (kJ cu CLog CBook CChart),(9,n),.fr (.lst #[25]),#[27],.fr (.lst [.lst [],.lst [],.lst [.str "none"],.lst [.str "none"],.lst [.str "no: feast"]]),.fr (.str t),.fr (.str kind),.fr (qj (1+c) a t kind i),.un]
 have Vo:Sm (1+c):=gU #[3] #[3];have si:Sm i:=gU #[3] #[3];rw[0,cx (fV.eq (λQ q=>⟨_,.inl rfl,rfl,rfl,[],.inr ⟨a,1+c,t,kind,i,rfl,U.sm,Vo,si,u,Vn,ml (ee (oR _) oo),_,rfl,U.sm,_,rfl,Vo,_,rfl,Nat.le_trans u #[2],_,rfl,Nat.le_trans Vn #[2],_,rfl,si,pv,rfl,rfl,q⟩⟩) (by rw[Dc];simp[eV,e7])) (aT ?_),⟨kn,D8,pv,?_⟩];refine ba (l:=.un) rfl rfl (C_ ?_)
 show ft _ _ _ [.fr (.lst (ns.map .int)),(9,a),(9,b),(9,c),(9,e),(9,d),(9,g),(9,h),(9,i),.ow (cM CBook (Mt CChart a (1+c) t kind i) []),.fr (gY CLog CBook CChart),.fr (kJ cu CLog CBook CChart),(9,n),.fr (.lst #[25]),#[27],.fr (.lst [.lst [],.lst [],.lst [.str "none"],.lst [.str "none"],.lst [.str "no: feast"]]),.fr (.str t),.fr (.str kind),.fr (qj (1+c) a t kind i),.fr (.lst [p9 a])]
 obtain⟨dn,rfl⟩:∃k:Nat,d=k:=⟨d.toNat,#[3]⟩;rw[0,⟨_,.inl rfl,LM,a,1+c,t,kind,i,T,.inr ⟨1+dn,#[3],#[3],rfl,rfl,?_⟩⟩,⟨kn,rfl,rfl,_,rfl,⟨λz=>absurd z (by simp[eV,e7,p9]),λ_=>aT ?_⟩⟩];refine tn (D7 (lH.eq (λQ q=>⟨_,.inl rfl,rfl,rfl,_,_,rfl,.inr ⟨_,_,_,_,_,_,_,_,rfl,#[3],i0,Vm,ml (ee (As _ _ _) oo),LN,pv,rfl,rfl,q⟩⟩) (by simp[eV,e7,jl])) (lH.eq (λQ q=>⟨_,.inl rfl,rfl,rfl,_,_,rfl,ml (ee (E6 _) oo),D8,pv,rfl,rfl,q⟩) (by simp[eV,e7,q0]))) q
end
theorem Dd{n:Nat}(h:us.length=n+1):∃a vs,us=a::vs/\vs.length=n:=by
 cases us with
 |nil=>exact absurd h (λz=>by cases z)
 |cons a vs=>exact⟨a,vs,rfl,Nat.succ.inj h⟩
theorem De(h:us.length=0):us=[]:=List.eq_nil_of_length_eq_zero h
theorem Df(h:us.length=1):∃a0,us=[a0]:=by
 obtain⟨a,vs,rfl,h2⟩:=Dd (n:=0) h;obtain rfl:=De h2;rw[3,a,rfl]
theorem Dg(h:us.length=2):∃a0 a1,us=[a0,a1]:=by
 obtain⟨a,vs,rfl,h2⟩:=Dd (n:=1) h;obtain⟨a1,rfl⟩:=Df h2;rw[1,a,a1,rfl]
theorem Dh(h:us.length=3):∃a0 a1 a2,us=[a0,a1,a2]:=by
 obtain⟨a,vs,rfl,h2⟩:=Dd (n:=2) h;obtain⟨a1,a2,rfl⟩:=Dg h2;exact⟨a,a1,a2,rfl⟩
theorem Di(h:us.length=4):∃a0 a1 a2 a3,us=[a0,a1,a2,a3]:=by
 obtain⟨a,vs,rfl,h2⟩:=Dd (n:=3) h;obtain⟨a1,a2,a3,rfl⟩:=Dh h2;rw[4,a,a1,a2,a3,rfl]
theorem Ju(h:us.length=5):∃a0 a1 a2 a3 a4,us=[a0,a1,a2,a3,a4]:=by
 obtain⟨a,vs,rfl,h2⟩:=Dd (n:=4) h;obtain⟨a1,a2,a3,a4,rfl⟩:=Di h2;exact⟨a,a1,a2,a3,a4,rfl⟩
abbrev uf:#[5]:=[.type "ValueError",.type "Exception",.type "BaseException",.type "object"]
section
abbrev cw(K:PySem.W.Frag)(n:Str)(v:Value):Prop:=(0,nsIn K mainGlobals n,some v)
abbrev Au(K:PySem.W.Frag)(n:Str):Prop:=(0,nsIn K mainGlobals n,none)
structure UF(K:PySem.W.Frag)(mg:#[11])(n:Str)(f:Addr)(fd:FuncData)(ps:#[1]):Prop where
 m:(0,mg n,.ref f)
 k:(4,keepIn K (.ref f))
 b:Binds K fd ps []
structure UM(K:PySem.W.Frag)(C:Addr)(n:Str)(f:Addr)(fd:FuncData)(ps:#[1]):Prop where
 c:qI K C
 m:Meth K C n f
 b:Binds K fd ps []
abbrev FF(K:PySem.W.Frag)(n qn:Str)(st:Stmt)(f:Addr):Prop:=∃oc m kV a pm an cd ct sl,(0,K.lookup f,⟨oc,m,.func (PySem.W.fnOf n qn (jY st) (c1 st) (az st) .none kV a pm an cd ct),sl⟩)/\(4,codeIn K cd qn)/\(4,keepIn K (.ref f))
theorem FF.fn{n qn:Str}{st:Stmt}{f:Addr}(h:FF K n qn st f):∃fd,(12,n,qn,st)/\(4,keepIn K (.ref f)):=
 let⟨_,_,_,_,_,_,_,_,_,l,c,k⟩:=h;⟨_,Bh l c k,k⟩
variable{P:Program}{w:World}{base:Heap}{i j:Nat}{n:Str}{f C:Addr}{e:cN}{o:AE}{d:dO}{c:qJ}
theorem bY(g:aQ P w K mg base cy j f fd ps (aV K e))(u:UF K mg n f fd ps)(h:j<=i:=by decide):dM P w K mg base i n e:=⟨f,fd,ps,g.mono h,u.m,u.k,u.b⟩
theorem LC(g:aQ P w K mg base cy j f fd ps (hK K o))(u:UF K mg n f fd ps)(h:j<=i:=by decide):KG P w K mg base i n o:=⟨f,fd,ps,g.mono h,u.m,u.k,u.b⟩
theorem mA(g:aQ P w K mg base (dN P w) j f fd ps (bM K mg d))(u:UF K mg n f fd ps)(h:j<=i:=by decide):uE P w K mg base i n d:=⟨f,fd,ps,g.mono h,u.m,u.k,u.b⟩
theorem Pm(g:aQ P w K mg base cy j f fd ps (liftM K mg c))(u:UF K mg n f fd ps)(h:j<=i:=by decide):NL P w K mg base i n c:=⟨f,fd,ps,(M.aQ.up g).mono h,u.m,u.k,u.b⟩
theorem fZ(g:aQ P w K mg base cy j f fd ps (aV K e))(u:UM K C n f fd ps)(h:j<=i:=by decide):eI P w K mg base i C n e:=⟨f,fd,ps,g.mono h,u.c,u.m,u.b⟩
theorem jt(g:aQ P w K mg base (dN P w) j f fd ps (bM K mg d))(u:UM K C n f fd ps)(h:j<=i:=by decide):fY P w K mg base i C n d:=⟨f,fd,ps,g.mono h,u.c,u.m,u.b⟩
theorem Pn(g:aQ P w K mg base cy j f fd ps (liftM K mg c))(u:UM K C n f fd ps)(h:j<=i:=by decide):I_ P w K mg base i C n c:=⟨f,fd,ps,(M.aQ.up g).mono h,u.c,u.m,u.b⟩
theorem ug(g:aQ P w K mg base cy j f fd ps (liftM K mg c))(u:UM K C "__init__" f fd ps)(a:(4,PySem.W.makesIn K C))(k:(4,keepIn K (.ref C)))(m:(0,mg n,.ref C))(h:j<=i:=by decide):AF P w K mg base i n C c:=⟨f,fd,ps,(M.aQ.up g).mono h,⟨a,u.m.at_,u.m.fn,k⟩,m,u.b⟩
theorem gc(g:aQ P w K mg base (dN P w) j f fd ps (bM K mg d))(u:UF K mg n f fd ps)(h:j<=i:=by decide):uF P w K mg base i f d:=⟨fd,ps,g.mono h,u.k,u.b⟩
theorem cT{x y:Str}{C C':Addr}(h1:(0,mg x,.ref C))(h2:(0,mg y,.ref C'))(m:(44,C,C')):Ji K mg x y:=λD a O W=>by
 cases h1.symm.trans O;cases h2.symm.trans W;exact m
theorem Po:∀p∈([]:(5,Str,Str)),Ji K mg p.1 p.2:=λ_ h=>nomatch h
theorem i5{a b:Str}{l:(5,Str,Str)}(h:Ji K mg a b)(r:∀p∈l,Ji K mg p.1 p.2):∀p∈(a,b)::l,Ji K mg p.1 p.2:=λp hp=>by
 rcases List.mem_cons.mp hp with rfl|hp
 ·exact h
 ·exact r p hp
end
local macro_rules | `(tactic| and_intros)=>`(tactic| (intro _ _ _ _ _ _ us hl;first | (obtain h:=De hl;subst h;rfl) | (obtain ⟨_,h⟩:=Df hl;subst h;rfl) | (obtain ⟨_,_,h⟩:=Dg hl;subst h;rfl) | (obtain ⟨_,_,_,h⟩:=Dh hl;subst h;rfl) | (obtain ⟨_,_,_,_,h⟩:=Di hl;subst h;rfl) | (obtain ⟨_,_,_,_,_,h⟩:=Ju hl;subst h;rfl)))
theorem all_mk{w:World}{h:Heap}{fa:Addr}(X:K.In h)(G:h.Ns mainGlobals mg)(hfa:(0,mg "law",.ref fa))
 {CChart:Addr}(ju:(14,"Chart",CChart))
 {CBook:Addr}(mB:(14,"Book",CBook))
 {CLog:Addr}(uh:(14,"Log",CLog))
 {cu:Addr}(ui:(14,"Desk",cu))
(mC:qI K CChart)
(fQ:bS K CChart "years")
(fc:bS K CChart "feasts")
(eN:bS K CChart "figures")
(fR:bS K CChart "seals")
(jv:(4,PySem.W.makesIn K CChart))
(jw:(4,keepIn K (.ref CChart)))
(cF:qI K CBook)
(gA:bS K CBook "chart")
(h7:bS K CBook "laid")
(mD:(4,PySem.W.makesIn K CBook))
(mE:(4,keepIn K (.ref CBook)))
(jx:qI K CLog)
(kZ:bS K CLog "now")
(gB:bS K CLog "charts")
(nM:bS K CLog "at")
(uj:(4,PySem.W.makesIn K CLog))
(uk:(4,keepIn K (.ref CLog)))
(mG:qI K cu)
(jy:bS K cu "log")
(um:(4,PySem.W.makesIn K cu))
(uo:(4,keepIn K (.ref cu)))
 {uq:Addr}(a0:(14,"total",uq))
(l0:FF K "total" "total" NO uq)
 {k_:Addr}(a1:(14,"has_date",k_))
(l1:FF K "has_date" "has_date" NP k_)
 {xO:Addr}(a2:(14,"line",xO))
(l2:FF K "line" "line" NQ xO)
 {xP:Addr}(a3:(14,"date",xP))
(l3:FF K "date" "date" NR xP)
 {qq:Addr}(a4:(14,"height",qq))
(l4:FF K "height" "height" NT qq)
 {nN:Addr}(a5:(14,"ordered",nN))
(l5:FF K "ordered" "ordered" NU nN)
 {nO:Addr}(a6:(14,"open_to",nO))
  (l6:FF K "open_to" "open_to" NV nO)
  {h8:Addr}(a7:(14,"first_free",h8))
  (l7:FF K "first_free" "first_free" NW h8)
  {k':Addr}(a8:(14,"place_of",k'))
  (l8:FF K "place_of" "place_of" NX k')
  {Dj:Addr}(a9:(14,"lay",Dj))
  (l9:FF K "lay" "lay" NY Dj)
  {nP:Addr}(Pp:(14,"holders",nP))
  (Pq:FF K "holders" "holders" LZ nP)
  {nQ:Addr}(Pr:(14,"page_of",nQ))
  (Pu:FF K "page_of" "page_of" L0 nQ)
  {h9:Addr}(Pw:(14,"evening_of",h9))
  (Px:FF K "evening_of" "evening_of" L1 h9)
  {nS:Addr}(Py:(14,"days_of",nS))
  (Pz:FF K "days_of" "days_of" L3 nS)
  {B:Addr}(PB:(37,CChart,"__init__",B))
  (PD:(39,B))
  (PF:FF K "__init__" "Chart.__init__" NZ B)
  {jz:Addr}(PJ:(14,"new_chart",jz))
  (PK:FF K "new_chart" "new_chart" N0 jz)
  {gC:Addr}(PL:(14,"with_feasts",gC))
  (PM:FF K "with_feasts" "with_feasts" N1 gC)
  {h_:Addr}(PN:(14,"lengths_of",h_))
  (PQ:FF K "lengths_of" "lengths_of" L4 h_)
  {nU:Addr}(PR:(14,"shut_of",nU))
  (PU:FF K "shut_of" "shut_of" Lo nU)
  {nV:Addr}(PV:(14,"own_day",nV))
  (PX:FF K "own_day" "own_day" N3 nV)
  {ic:Addr}(PY:(14,"entries_of",ic))
  (PZ:FF K "entries_of" "entries_of" N4 ic)
  {jA:Addr}(P0:(14,"laying_of",jA))
  (P_:FF K "laying_of" "laying_of" N5 jA)
  {M:Addr}(P':(14,"check_anchor",M))
  (Qa:FF K "check_anchor" "check_anchor" Zg M)
  {ie:Addr}(Qb:(14,"check_year",ie))
  (Qc:FF K "check_year" "check_year" N6 ie)
  {z:Addr}(Qe:(14,"check_entered",z))
  (Qf:FF K "check_entered" "check_entered" Ze z)
  {ig:Addr}(Qg:(14,"check_rank",ig))
  (Qh:FF K "check_rank" "check_rank" N7 ig)
  {cA:Addr}(Qi:(14,"add_year",cA))
  (Qj:FF K "add_year" "add_year" N8 cA)
  {eW:Addr}(Qk:(14,"enter",eW))
  (Ql:FF K "enter" "enter" N9 eW)
  {di:Addr}(Qm:(14,"strike",di))
  (Qn:FF K "strike" "strike" N_ di)
  {cj:Addr}(Qo:(14,"give_rank",cj))
  (Qp:FF K "give_rank" "give_rank" Ob cj)
  {ck:Addr}(Qq:(14,"shut_days",ck))
  (Qr:FF K "shut_days" "shut_days" Oc ck)
  {V:Addr}(Qs:(14,"move_anchor",V))
  (Qt:FF K "move_anchor" "move_anchor" Od V)
  {gn:Addr}(Qu:(14,"seal",gn))
  (Qv:FF K "seal" "seal" Oe gn)
  {dj:Addr}(Qw:(14,"unseal",dj))
  (Qx:FF K "unseal" "unseal" Og dj)
  {nX:Addr}(Qy:(14,"changed",nX))
  (Qz:FF K "changed" "changed" Oi nX)
  {gE:Addr}(QC:(14,"check_seals",gE))
  (QF:FF K "check_seals" "check_seals" L7 gE)
  {qr:Addr}(QI:(14,"places",qr))
  (QK:FF K "places" "places" L9 qr)
  {gF:Addr}(QL:(14,"turns_among",gF))
  (QP:FF K "turns_among" "turns_among" Oj gF)
  {lg:Addr}(QQ:(14,"names_of",lg))
  (QR:FF K "names_of" "names_of" L_ lg)
  {qs:Addr}(QU:(14,"turned",qs))
  (QV:FF K "turned" "turned" Ol qs)
  {lh:Addr}(QX:(14,"entry_of",lh))
  (QY:FF K "entry_of" "entry_of" Om lh)
  {ij:Addr}(QZ:(14,"reasons_of",ij))
  (Q0:FF K "reasons_of" "reasons_of" Oo ij)
  {jB:Addr}(Q1:(14,"is_number",jB))
  (Q2:FF K "is_number" "is_number" Oq jB)
  {xQ:Addr}(Q3:(14,"fits",xQ))
  (Q4:FF K "fits" "fits" Ot xQ)
  {ik:Addr}(Q5:(14,"read_parts",ik))
  (Q6:FF K "read_parts" "read_parts" Ou ik)
  {xR:Addr}(Q7:(14,"read",xR))
  (Q8:FF K "read" "read" Ov xR)
  {gG:Addr}(Q9:(14,"shown_parts",gG))
  (Q_:FF K "shown_parts" "shown_parts" Ma gG)
  {ur:Addr}(Ra:(14,"shown",ur))
  (Rb:FF K "shown" "shown" Ox ur)
  {gH:Addr}(Rc:(14,"shown_place",gH))
  (Rf:FF K "shown_place" "shown_place" Oy gH)
  {jC:Addr}(Rg:(14,"stretches",jC))
  (Rh:FF K "stretches" "stretches" Oz jC)
  {jD:Addr}(Ri:(14,"orders_of",jD))
  (Rj:FF K "orders_of" "orders_of" Jn jD)
  {gd:Addr}(Rk:(37,CBook,"__init__",gd))
  (Rl:(39,gd))
  (Rm:FF K "__init__" "Book.__init__" OB gd)
  {n:Addr}(Ro:(37,CBook,"lengths",n))
  (Rp:(39,n))
  (Rq:FF K "lengths" "Book.lengths" Zl n)
  {r:Addr}(Rr:(37,CBook,"sealed",r))
  (Rt:(39,r))
  (Ru:FF K "sealed" "Book.sealed" OD r)
  {gf:Addr}(Rv:(37,CBook,"shut",gf))
  (Rw:(39,gf))
  (Rx:FF K "shut" "Book.shut" OE gf)
  {k:Addr}(Ry:(37,CBook,"entries",k))
  (Rz:(39,k))
  (RB:FF K "entries" "Book.entries" Zf k)
  {gh:Addr}(RC:(37,CBook,"rows",gh))
  (RD:(39,gh))
  (RF:FF K "rows" "Book.rows" OF gh)
  {A:Addr}(RH:(37,CBook,"place",A))
  (RI:(39,A))
  (RK:FF K "place" "Book.place" OG A)
  {Q:Addr}(RL:(37,CBook,"page",Q))
  (RN:(39,Q))
  (RP:FF K "page" "Book.page" OH Q)
  {j:Addr}(RQ:(37,CBook,"evening",j))
  (RU:(39,j))
  (RV:FF K "evening" "Book.evening" Zs j)
  {il:Addr}(RW:(37,CBook,"why",il))
  (RX:(39,il))
  (RY:FF K "why" "Book.why" OI il)
  {W:Addr}(RZ:(37,CBook,"told",W))
  (R0:(39,W))
  (R1:FF K "told" "Book.told" Mb W)
  {S:Addr}(R3:(37,CBook,"twin",S))
  (R4:(39,S))
  (R5:FF K "twin" "Book.twin" OJ S)
  {T:Addr}(R6:(37,CBook,"deed",T))
  (R7:(39,T))
  (R8:FF K "deed" "Book.deed" OC T)
  {jE:Addr}(R9:(14,"book_with",jE))
  (R_:FF K "book_with" "book_with" OK jE)
  {ip:Addr}(R':(37,CLog,"__init__",ip))
  (Sd:(39,ip))
  (Se:FF K "__init__" "Log.__init__" OL ip)
  {iq:Addr}(Sf:(37,CLog,"deed",iq))
  (Sg:(39,iq))
  (Sh:FF K "deed" "Log.deed" OM iq)
  {U:Addr}(Si:(37,CLog,"stand",U))
  (Sj:(39,U))
  (Sk:FF K "stand" "Log.stand" ON U)
  {q:Addr}(Sn:(37,CLog,"between",q))
  (So:(39,q))
  (Sr:FF K "between" "Log.between" OO q)
  {ir:Addr}(Ss:(37,CLog,"book",ir))
  (Su:(39,ir))
  (Sv:FF K "book" "Log.book" OP ir)
  {gI:Addr}(Sw:(14,"shown_turns",gI))
  (Sx:FF K "shown_turns" "shown_turns" OQ gI)
  {iu:Addr}(Sy:(14,"shown_name",iu))
  (Sz:FF K "shown_name" "shown_name" OR iu)
  {cm:Addr}(SA:(14,"tell_rows",cm))
  (SD:FF K "tell_rows" "tell_rows" Md cm)
  {cn:Addr}(SE:(14,"tell_book",cn))
  (SF:FF K "tell_book" "tell_book" OS cn)
  {cq:Addr}(SG:(14,"tell_page",cq))
  (SH:FF K "tell_page" "tell_page" Me cq)
  {I:Addr}(SI:(14,"tell_evening",I))
  (SJ:FF K "tell_evening" "tell_evening" Zq I)
  {b6:Addr}(SK:(14,"tell_place",b6))
  (SM:FF K "tell_place" "tell_place" OU b6)
  {cB:Addr}(SN:(14,"tell_why",cB))
  (SO:FF K "tell_why" "tell_why" Mg cB)
  {qt:Addr}(SQ:(14,"answer",qt))
  (SS:FF K "answer" "answer" OV qt)
  {R:Addr}(SU:(37,cu,"__init__",R))
  (SV:(39,R))
  (SW:FF K "__init__" "Desk.__init__" OW R)
  {iv:Addr}(SX:(37,cu,"say",iv))
  (SY:(39,iv))
  (S0:FF K "say" "Desk.say" OX iv)
  {jF:Addr}(S1:(14,"_law_cell",jF))
  (S2:FF K "_law_cell" "_law_cell" OY jF)
  {jG:Addr}(S3:(14,"_law_seed",jG))
  (S4:FF K "_law_seed" "_law_seed" OZ jG)
  {gJ:Addr}(S5:(14,"_law_digits",gJ))
  (S6:FF K "_law_digits" "_law_digits" O1 gJ)
  {lj:Addr}(S7:(14,"_law_try",lj))
  (S8:FF K "_law_try" "_law_try" O2 lj)
  {H:Addr}(S9:(14,"_law_refused",H))
  (S_:FF K "_law_refused" "_law_refused" Zo H)
  {f:Addr}(S':(14,"_law_log_refused",f))
  (Ta:FF K "_law_log_refused" "_law_log_refused" Z3 f)
  {iw:Addr}(Tb:(14,"_law_empty",iw))
  (Tc:FF K "_law_empty" "_law_empty" Lu iw)
  {o:Addr}(Td:(14,"_law_desk_empty",o))
  (Te:FF K "_law_desk_empty" "_law_desk_empty" Z7 o)
  {Dk:Addr}(Tf:(14,"law",Dk))
  (Tg:FF K "law" "law" Ds Dk)
  (p5:Au K "sum")
  (cW:Au K "len")
  (bD:Au K "enumerate")
  (bU:Au K "sorted")
  (kC:Au K "int")
  (kE:Au K "str")
  (kW:Au K "dict")
  (qa:Au K "set")
  (qi:Au K "zip")
  (hV:Au K "tuple")
  (gy:Au K "list")
  (h3:Au K "range")
  {lp:Nat}(dx:cw K "GREATEST_NUMBER" (.int 999999 lp))
  {uu:Nat}(ix:cw K "LAST_YEAR" (.int 99 uu))
  {oB:Nat}(fe:cw K "LONGEST_YEAR" (.int 400 oB))
  {qu:Nat}(fS:cw K "LOWEST_RANK" (.int 9 qu))
  {oD:Nat}(ff:cw K "MOST_FIGURES" (.int 12 oD))
  {xS:Nat}(lr:cw K "OPENING" (.int 9 xS))
  {iy qv iz iA iB iC iD iE iF iG:Nat}(iH:(14,"CHANGES",iy))
  (lu:(iy==sysModules)=false)
  (lx:(0,K.lookup iy,⟨.type "dict",none,.dict #[⟨(36,"year"),.str "year" iz,.ref cA⟩,⟨(36,"enter"),.str "enter" iA,.ref eW⟩,⟨(36,"strike"),.str "strike" iB,.ref di⟩,⟨(36,"rank"),.str "rank" iC,.ref cj⟩,⟨(36,"shut"),.str "shut" iD,.ref ck⟩,⟨(36,"anchor"),.str "anchor" iE,.ref V⟩,⟨(36,"seal"),.str "seal" iF,.ref gn⟩,⟨(36,"unseal"),.str "unseal" iG,.ref dj⟩] qv,#[]⟩))
  {fE eM mH vX ly lz lA lB:Nat}(mI:(14,"WORDS",mH))
  (qw:(mH==sysModules)=false)
  (qy:(0,K.lookup mH,⟨.type "dict",none,.dict #[⟨(36,"back"),.str "back" ly,.ref fE⟩,⟨(36,"forth"),.str "forth" lz,.ref eM⟩,⟨(36,"rows"),.str "rows" lA,.ref cm⟩,⟨(36,"book"),.str "book" lB,.ref cn⟩] vX,#[]⟩))
  {C mJ E F O D:Nat}(fA:(14,"QUESTIONS",C))
  (iI:(C==sysModules)=false)
  (iJ:(0,K.lookup C,⟨.type "dict",none,.dict #[⟨(36,"page"),.str "page" E,.ref cq⟩,⟨(36,"evening"),.str "evening" F,.ref I⟩,⟨(36,"place"),.str "place" O,.ref b6⟩,⟨(36,"why"),.str "why" D,.ref cB⟩] mJ,#[]⟩))
  {nB j_ gQ nC nE gS e8 gT ke sH jH jI jJ jK jL jM jN jO:Nat}(kg:(14,"ORDERS",ke))
  (nY:(ke==sysModules)=false)
  (nZ:(0,K.lookup ke,⟨.type "dict",none,.dict #[⟨(36,"year"),.str "year" jH,.ref nB⟩,⟨(36,"enter"),.str "enter" jI,.ref j_⟩,⟨(36,"strike"),.str "strike" jJ,.ref gQ⟩,⟨(36,"rank"),.str "rank" jK,.ref nC⟩,⟨(36,"shut"),.str "shut" jL,.ref nE⟩,⟨(36,"anchor"),.str "anchor" jM,.ref gS⟩,⟨(36,"seal"),.str "seal" jN,.ref e8⟩,⟨(36,"unseal"),.str "unseal" jO,.ref gT⟩] sH,#[]⟩))
  {nOs uOs:Nat}(Th:(0,K.lookup e8,⟨.type "tuple",none,.seq #[.str "number" uOs] nOs,#[]⟩))
  {aW aR nW nR v0 v1 v2 v3 v4:Nat}(gW:(0,nsIn K mainGlobals "WAYS",some (.ref aW)))
  (dW:(0,K.lookup aW,⟨.type "tuple",none,.seq #[.str "moves" v0,.str "stays" v1,.str "lapses" v2] nW,#[]⟩))
  (gR:(0,nsIn K mainGlobals "RULES",some (.ref aR)))
  (dR:(0,K.lookup aR,⟨.type "tuple",none,.seq #[.str "fixed" v3,.str "anchor" v4] nR,#[]⟩))
  {aD aF aA nD nF nA tF tA x0 x1 x2 x3:Nat}(gD:(0,nsIn K mainGlobals "DAYS",some (.ref aD)))
  (dD:(0,K.lookup aD,⟨.type "dict",none,.dict #[⟨(36,"fixed"),.str "fixed" tF,.ref aF⟩,⟨(36,"anchor"),.str "anchor" tA,.ref aA⟩] nD,#[]⟩))
  (dF:(0,K.lookup aF,⟨.type "tuple",none,.seq #[.int 0 x0,.int 399 x1] nF,#[]⟩))
  (dA:(0,K.lookup aA,⟨.type "tuple",none,.seq #[.int (-400) x2,.int 400 x3] nA,#[]⟩))
  {n2:Addr}(mK:(14,"NoDay",n2))
  {i:Addr}(kh:(14,"NoYear",i))
  {jP:Addr}(iK:(14,"BadYear",jP))
  {ki:Addr}(kj:(14,"BadDay",ki))
  {kl:Addr}(gi:(14,"BadFeast",kl))
  {uv:Addr}(mL:(14,"Taken",uv))
  {d:Addr}(iL:(14,"NoFeast",d))
  {vY:Addr}(iM:(14,"NoStand",vY))
  {iN:Addr}(n3:(14,"Sealed",iN))
  (qz:(4,PySem.W.excIn K n2 uf "ValueError.__new__"))
  (n4:(4,PySem.W.excIn K i uf "ValueError.__new__"))
  (lC:(4,PySem.W.excIn K jP uf "ValueError.__new__"))
  (n5:(4,PySem.W.excIn K ki uf "ValueError.__new__"))
  (jQ:(4,PySem.W.excIn K kl uf "ValueError.__new__"))
  (qA:(4,PySem.W.excIn K uv uf "ValueError.__new__"))
  (lD:(4,PySem.W.excIn K d uf "ValueError.__new__"))
  (lE:(4,PySem.W.excIn K vY uf "ValueError.__new__"))
  (fg:(44,n2,iN))
  (eO:(44,n2,d))
  (eP:(44,i,iN))
  (fh:(44,i,n2))
  (ef:(44,i,jP))
  (eQ:(44,i,ki))
  (dy:(44,i,kl))
  (fi:(44,i,uv))
  (eg:(44,i,d))
  (eh:(44,d,iN))
  (eR:(44,d,n2))
  (ei:(44,d,i))
  (dB:(44,d,jP))
  (ej:(44,d,ki))
  (df:(44,d,kl))
  (eS:(44,d,uv))
  (eT:(44,ki,iN))
  (en:(44,ki,jP))
  {EF NS:Addr}{nmS qS:Str}{bsS:#[5]}{snS:#[1]}{Ti:#[5]}{abS:Bool}{Tj:Option Bool}{ddS:Option Addr}{kS0 kS1 kS2 kS3 kS5:Option Value}(lS:(0,K.lookup iN,excClassObj nmS qS iN NS bsS (.ref EF::uf) true snS Ti abS Tj ddS kS0 kS1 kS2 kS3 kS5 "ValueError.__new__")):
  ∃fd:FuncData,(∀(s:Shared)(v:Value),BindsTo s fd ⟨[v],[]⟩ [("_law_script",v)])/\ ∀base:Heap,K.In base->base.Ns mainGlobals mg->aQ l.prog w K mg base cy 13 fa fd ["_law_script"] (aV K LA):=by
 have e:Dk=fa:=by
  have e:=hfa.symm.trans (mg_of X G Tf);cases e;rfl
 subst e;obtain⟨oc,m,kV,dc,pm,an,cd,ct,sl,z1,z2,z3⟩:=Tg;refine⟨PySem.W.fnOf "law" "law" (jY Ds) (c1 Ds) (az Ds) .none kV dc pm an cd ct,λs v=>.of_eq rfl,λbase kb gb=>?_⟩;have c:eK K CChart:=⟨mC,fQ,fc,eN,fR⟩;have b:fm K CBook:=⟨cF,gA,h7⟩;have g:Aq K CLog:=⟨jx,kZ,gB,nM⟩;have jq:C8 K cu:=⟨mG,jy⟩;obtain⟨d0,T0,k0⟩:=l0.fn;have u0:(16,"total",uq):=(13,mg_of X G a0,k0,T0.binds,["lengths"],by and_intros);obtain⟨d1,T1,k1⟩:=l1.fn;have u1:(16,"has_date",k_):=(13,mg_of X G a1,k1,T1.binds,["lengths", "year", "day"],by and_intros);obtain⟨d2,T2,k2⟩:=l2.fn;have u2:(16,"line",xO):=(13,mg_of X G a2,k2,T2.binds,["lengths", "year", "day"],by and_intros);obtain⟨d3,T3,k3⟩:=l3.fn;have u3:(16,"date",xP):=(13,mg_of X G a3,k3,T3.binds,["lengths", "day"],by and_intros);obtain⟨d4,T4,k4⟩:=l4.fn;have u4:(16,"height",qq):=(13,mg_of X G a4,k4,T4.binds,["entry"],by and_intros);obtain⟨d5,T5,k5⟩:=l5.fn;have u5:(16,"ordered",nN):=(13,mg_of X G a5,k5,T5.binds,["entries"],by and_intros);obtain⟨d6,T6,k6⟩:=l6.fn;have u6:(16,"open_to",nO):=(13,mg_of X G a6,k6,T6.binds,["rank", "day", "shut"],by and_intros);obtain⟨d7,T7,k7⟩:=l7.fn;have u7:(16,"first_free",h8):=(13,mg_of X G a7,k7,T7.binds,["rank", "day", "shut", "onward"],by and_intros);obtain⟨d8,T8,k8⟩:=l8.fn;have u8:(16,"place_of",k'):=(13,mg_of X G a8,k8,T8.binds,["entry", "shut", "onward"],by and_intros);obtain⟨d9,T9,k9⟩:=l9.fn;have u9:(16,"lay",Dj):=(13,mg_of X G a9,k9,T9.binds,["entries", "shut"],by and_intros);obtain⟨d10,Vp,k10⟩:=Pq.fn;have Vq:(16,"holders",nP):=(13,mg_of X G Pp,k10,Vp.binds,["rows"],by and_intros);obtain⟨d11,Vr,k11⟩:=Pu.fn;have u11:(16,"page_of",nQ):=(13,mg_of X G Pr,k11,Vr.binds,["rows", "day"],by and_intros);obtain⟨d12,Vs,k12⟩:=Px.fn;have u12:(16,"evening_of",h9):=(13,mg_of X G Pw,k12,Vs.binds,["entries", "rows", "day"],by and_intros);obtain⟨d13,Vt,k13⟩:=Pz.fn;have u13:(16,"days_of",nS):=(13,mg_of X G Py,k13,Vt.binds,["turn"],by and_intros);obtain⟨d14,Vu,k14⟩:=PF.fn;have Tn:UM K CChart "__init__" B _ _:=(13,mC,⟨PB,PD,k14⟩,Vu.binds,["self", "years", "feasts", "figures", "seals"],by and_intros)
 obtain⟨d15,Vv,k15⟩:=PK.fn;have u15:(16,"new_chart",jz):=(13,mg_of X G PJ,k15,Vv.binds,[],by and_intros);obtain⟨d16,Vw,k16⟩:=PM.fn;have u16:(16,"with_feasts",gC):=(13,mg_of X G PL,k16,Vw.binds,["chart", "feasts"],by and_intros);obtain⟨d17,Vx,k17⟩:=PQ.fn;have To:(16,"lengths_of",h_):=(13,mg_of X G PN,k17,Vx.binds,["chart"],by and_intros);obtain⟨d18,Vy,k18⟩:=PU.fn;have Tp:(16,"shut_of",nU):=(13,mg_of X G PR,k18,Vy.binds,["chart"],by and_intros);obtain⟨d19,Vz,k19⟩:=PX.fn;have u19:(16,"own_day",nV):=(13,mg_of X G PV,k19,Vz.binds,["rule", "day", "first", "length", "anchor"],by and_intros);obtain⟨d20,VA,k20⟩:=PZ.fn;have VB:(16,"entries_of",ic):=(13,mg_of X G PY,k20,VA.binds,["chart"],by and_intros);obtain⟨d21,VC,k21⟩:=P_.fn;have VD:(16,"laying_of",jA):=(13,mg_of X G P0,k21,VC.binds,["chart"],by and_intros);obtain⟨d22,VE,k22⟩:=Qa.fn;have u22:(16,"check_anchor",M):=(13,mg_of X G P',k22,VE.binds,["length", "anchor"],by and_intros);obtain⟨d23,VF,k23⟩:=Qc.fn;have Tq:(16,"check_year",ie):=(13,mg_of X G Qb,k23,VF.binds,["chart", "year"],by and_intros);obtain⟨d24,VG,k24⟩:=Qf.fn;have VH:(16,"check_entered",z):=(13,mg_of X G Qe,k24,VG.binds,["chart", "number"],by and_intros);obtain⟨d25,VI,k25⟩:=Qh.fn;have u25:(16,"check_rank",ig):=(13,mg_of X G Qg,k25,VI.binds,["rank"],by and_intros);obtain⟨d26,VJ,k26⟩:=Qj.fn;have u26:(16,"add_year",cA):=(13,mg_of X G Qi,k26,VJ.binds,["chart", "order"],by and_intros);obtain⟨d27,VL,k27⟩:=Ql.fn;have u27:(16,"enter",eW):=(13,mg_of X G Qk,k27,VL.binds,["chart", "order"],by and_intros);obtain⟨d28,VM,k28⟩:=Qn.fn;have u28:(16,"strike",di):=(13,mg_of X G Qm,k28,VM.binds,["chart", "order"],by and_intros);obtain⟨d29,VN,k29⟩:=Qp.fn;have u29:(16,"give_rank",cj):=(13,mg_of X G Qo,k29,VN.binds,["chart", "order"],by and_intros);obtain⟨d30,VO,k30⟩:=Qr.fn;have u30:(16,"shut_days",ck):=(13,mg_of X G Qq,k30,VO.binds,["chart", "order"],by and_intros);obtain⟨d31,VP,k31⟩:=Qt.fn;have u31:(16,"move_anchor",V):=(13,mg_of X G Qs,k31,VP.binds,["chart", "order"],by and_intros);obtain⟨d32,VQ,k32⟩:=Qv.fn;have u32:(16,"seal",gn):=(13,mg_of X G Qu,k32,VQ.binds,["chart", "order"],by and_intros)
 obtain⟨d33,VR,k33⟩:=Qx.fn;have u33:(16,"unseal",dj):=(13,mg_of X G Qw,k33,VR.binds,["chart", "order"],by and_intros);obtain⟨d34,VS,k34⟩:=Qz.fn;have VT:(16,"changed",nX):=(13,mg_of X G Qy,k34,VS.binds,["chart", "order"],by and_intros);obtain⟨d35,VU,k35⟩:=QF.fn;have u35:(16,"check_seals",gE):=(13,mg_of X G QC,k35,VU.binds,["chart", "turns"],by and_intros);obtain⟨d36,VV,k36⟩:=QK.fn;have VW:(16,"places",qr):=(13,mg_of X G QI,k36,VV.binds,["rows"],by and_intros);obtain⟨d37,VX,k37⟩:=QP.fn;have u37:(16,"turns_among",gF):=(13,mg_of X G QL,k37,VX.binds,["names", "befores", "afters"],by and_intros);obtain⟨d38,VY,k38⟩:=QR.fn;have u38:(16,"names_of",lg):=(13,mg_of X G QQ,k38,VY.binds,["rows"],by and_intros);obtain⟨d39,VZ,k39⟩:=QV.fn;have V0:(16,"turned",qs):=(13,mg_of X G QU,k39,VZ.binds,["befores", "afters"],by and_intros);obtain⟨d40,V1,k40⟩:=QY.fn;have u40:(16,"entry_of",lh):=(13,mg_of X G QX,k40,V1.binds,["entries", "number", "year"],by and_intros);obtain⟨d41,V2,k41⟩:=Q0.fn;have u41:(16,"reasons_of",ij):=(13,mg_of X G QZ,k41,V2.binds,["entries", "shut", "number", "year"],by and_intros);obtain⟨d42,V3,k42⟩:=Q2.fn;have u42:(16,"is_number",jB):=(13,mg_of X G Q1,k42,V3.binds,["text"],by and_intros);obtain⟨d43,V4,k43⟩:=Q4.fn;have u43:(16,"fits",xQ):=(13,mg_of X G Q3,k43,V4.binds,["text", "sort"],by and_intros);obtain⟨d44,V5,k44⟩:=Q6.fn;have V6:(16,"read_parts",ik):=(13,mg_of X G Q5,k44,V5.binds,["texts", "sorts"],by and_intros);obtain⟨d45,V7,k45⟩:=Q8.fn;have u45:(16,"read",xR):=(13,mg_of X G Q7,k45,V7.binds,["text"],by and_intros);obtain⟨d46,V8,k46⟩:=Q_.fn;have u46:(16,"shown_parts",gG):=(13,mg_of X G Q9,k46,V8.binds,["parts"],by and_intros);obtain⟨d47,V9,k47⟩:=Rb.fn;have u47:(16,"shown",ur):=(13,mg_of X G Ra,k47,V9.binds,["order"],by and_intros);obtain⟨d48,V_,k48⟩:=Rf.fn;have u48:(16,"shown_place",gH):=(13,mg_of X G Rc,k48,V_.binds,["place"],by and_intros);obtain⟨d49,V',k49⟩:=Rh.fn;have u49:(16,"stretches",jC):=(13,mg_of X G Rg,k49,V'.binds,["shut"],by and_intros);obtain⟨d50,Wa,k50⟩:=Rj.fn;have u50:(16,"orders_of",jD):=(13,mg_of X G Ri,k50,Wa.binds,["chart"],by and_intros)
 obtain⟨d51,Wb,k51⟩:=Rm.fn;have Tr:UM K CBook "__init__" gd _ _:=(13,cF,⟨Rk,Rl,k51⟩,Wb.binds,["self"],by and_intros);obtain⟨d52,Wc,k52⟩:=Rq.fn;have Ts:UM K CBook "lengths" n _ _:=(13,cF,⟨Ro,Rp,k52⟩,Wc.binds,["self"],by and_intros);obtain⟨d53,Wd,k53⟩:=Ru.fn;have u53:UM K CBook "sealed" r _ _:=(13,cF,⟨Rr,Rt,k53⟩,Wd.binds,["self"],by and_intros);obtain⟨d54,We,k54⟩:=Rx.fn;have Wf:UM K CBook "shut" gf _ _:=(13,cF,⟨Rv,Rw,k54⟩,We.binds,["self"],by and_intros);obtain⟨d55,Wg,k55⟩:=RB.fn;have Mu:UM K CBook "entries" k _ _:=(13,cF,⟨Ry,Rz,k55⟩,Wg.binds,["self"],by and_intros);obtain⟨d56,Wh,k56⟩:=RF.fn;have Tt:UM K CBook "rows" gh _ _:=(13,cF,⟨RC,RD,k56⟩,Wh.binds,["self"],by and_intros);obtain⟨d57,Wi,k57⟩:=RK.fn;have Wj:UM K CBook "place" A _ _:=(13,cF,⟨RH,RI,k57⟩,Wi.binds,["self", "number", "year"],by and_intros);obtain⟨d58,Wk,k58⟩:=RP.fn;have Tu:UM K CBook "page" Q _ _:=(13,cF,⟨RL,RN,k58⟩,Wk.binds,["self", "year", "day"],by and_intros);obtain⟨d59,Wl,k59⟩:=RV.fn;have Tv:UM K CBook "evening" j _ _:=(13,cF,⟨RQ,RU,k59⟩,Wl.binds,["self", "year", "day"],by and_intros);obtain⟨d60,Wm,k60⟩:=RY.fn;have Wn:UM K CBook "why" il _ _:=(13,cF,⟨RW,RX,k60⟩,Wm.binds,["self", "number", "year"],by and_intros);obtain⟨d61,Wo,k61⟩:=R1.fn;have Tw:UM K CBook "told" W _ _:=(13,cF,⟨RZ,R0,k61⟩,Wo.binds,["self"],by and_intros);obtain⟨d62,Wq,k62⟩:=R5.fn;have u62:UM K CBook "twin" S _ _:=(13,cF,⟨R3,R4,k62⟩,Wq.binds,["self"],by and_intros);obtain⟨d63,Tx,k63⟩:=R8.fn;have Tz:UM K CBook "deed" T _ _:=(13,cF,⟨R6,R7,k63⟩,Tx.binds,["self", "order"],by and_intros);obtain⟨d64,Wr,k64⟩:=R_.fn;have u64:(16,"book_with",jE):=(13,mg_of X G R9,k64,Wr.binds,["chart", "laid"],by and_intros);obtain⟨d65,Ws,k65⟩:=Se.fn;have Wt:UM K CLog "__init__" ip _ _:=(13,jx,⟨R',Sd,k65⟩,Ws.binds,["self"],by and_intros);obtain⟨d66,Wu,k66⟩:=Sh.fn;have u66:UM K CLog "deed" iq _ _:=(13,jx,⟨Sf,Sg,k66⟩,Wu.binds,["self", "order"],by and_intros);obtain⟨d67,Wv,k67⟩:=Sk.fn;have u67:UM K CLog "stand" U _ _:=(13,jx,⟨Si,Sj,k67⟩,Wv.binds,["self"],by and_intros);obtain⟨d68,Ww,k68⟩:=Sr.fn;have Wx:UM K CLog "between" q _ _:=(13,jx,⟨Sn,So,k68⟩,Ww.binds,["self", "one", "other"],by and_intros);obtain⟨d69,Wy,k69⟩:=Sv.fn
 have Mv:UM K CLog "book" ir _ _:=(13,jx,⟨Ss,Su,k69⟩,Wy.binds,["self"],by and_intros);obtain⟨d70,Wz,k70⟩:=Sx.fn;have u70:(16,"shown_turns",gI):=(13,mg_of X G Sw,k70,Wz.binds,["turns"],by and_intros);obtain⟨d71,WA,k71⟩:=Sz.fn;have WB:(16,"shown_name",iu):=(13,mg_of X G Sy,k71,WA.binds,["name"],by and_intros);obtain⟨d72,WC,k72⟩:=SD.fn;have u72:(16,"tell_rows",cm):=(13,mg_of X G SA,k72,WC.binds,["log"],by and_intros);obtain⟨d73,WD,k73⟩:=SF.fn;have u73:(16,"tell_book",cn):=(13,mg_of X G SE,k73,WD.binds,["log"],by and_intros);obtain⟨d74,WE,k74⟩:=SH.fn;have u74:(16,"tell_page",cq):=(13,mg_of X G SG,k74,WE.binds,["book", "year", "day"],by and_intros);obtain⟨d75,WG,k75⟩:=SJ.fn;have u75:(16,"tell_evening",I):=(13,mg_of X G SI,k75,WG.binds,["book", "year", "day"],by and_intros);obtain⟨d76,WH,k76⟩:=SM.fn;have u76:(16,"tell_place",b6):=(13,mg_of X G SK,k76,WH.binds,["book", "number", "year"],by and_intros);obtain⟨d77,WI,k77⟩:=SO.fn;have u77:(16,"tell_why",cB):=(13,mg_of X G SN,k77,WI.binds,["book", "number", "year"],by and_intros);obtain⟨d78,WJ,k78⟩:=SS.fn;have u78:(16,"answer",qt):=(13,mg_of X G SQ,k78,WJ.binds,["log", "text"],by and_intros);obtain⟨d79,WK,k79⟩:=SW.fn;have u79:UM K cu "__init__" R _ _:=(13,mG,⟨SU,SV,k79⟩,WK.binds,["self"],by and_intros);obtain⟨d80,WL,k80⟩:=S0.fn;have WM:UM K cu "say" iv _ _:=(13,mG,⟨SX,SY,k80⟩,WL.binds,["self", "text"],by and_intros);obtain⟨d81,WN,k81⟩:=S2.fn;have u81:(16,"_law_cell",jF):=(13,mg_of X G S1,k81,WN.binds,["_law_script", "_law_place"],by and_intros);obtain⟨d82,WO,k82⟩:=S4.fn;have u82:(16,"_law_seed",jG):=(13,mg_of X G S3,k82,WO.binds,["_law_cell_here"],by and_intros);obtain⟨d83,WQ,k83⟩:=S6.fn;have u83:(16,"_law_digits",gJ):=(13,mg_of X G S5,k83,WQ.binds,["_law_cell_here", "_law_sizes"],by and_intros);obtain⟨d84,TB,k84⟩:=S8.fn;have WR:(16,"_law_try",lj):=(13,mg_of X G S7,k84,TB.binds,["_law_hall", "_law_order"],by and_intros);obtain⟨d85,WS,k85⟩:=S_.fn;have u85:(16,"_law_refused",H):=(13,mg_of X G S9,k85,WS.binds,["_law_hall", "_law_what", "_law_one", "_law_other"],by and_intros);obtain⟨d86,WT,k86⟩:=Ta.fn;have u86:(16,"_law_log_refused",f):=(13,mg_of X G S',k86,WT.binds,["_law_hand", "_law_one", "_law_other"],by and_intros)
 obtain⟨d87,WU,k87⟩:=Tc.fn;have u87:(16,"_law_empty",iw):=(13,mg_of X G Tb,k87,WU.binds,["_law_hall", "_law_number", "_law_year", "_law_day"],by and_intros);obtain⟨d88,WV,k88⟩:=Te.fn;have u88:(16,"_law_desk_empty",o):=(13,mg_of X G Td,k88,WV.binds,["_law_desk", "_law_great"],by and_intros);have p5:=PySem.W.mg_none_of X G p5;have cW:=PySem.W.mg_none_of X G cW;have bD:=PySem.W.mg_none_of X G bD;have bU:=PySem.W.mg_none_of X G bU;have kC:=PySem.W.mg_none_of X G kC;have kE:=PySem.W.mg_none_of X G kE;have kW:=PySem.W.mg_none_of X G kW;have qa:=PySem.W.mg_none_of X G qa;have qi:=PySem.W.mg_none_of X G qi;have hV:=PySem.W.mg_none_of X G hV;have gy:=PySem.W.mg_none_of X G gy;have h3:=PySem.W.mg_none_of X G h3;have p:nt mg "GREATEST_NUMBER" 999999:=⟨_,mg_of X G dx⟩;have jm:nt mg "LAST_YEAR" 99:=⟨_,mg_of X G ix⟩;have J:nt mg "LONGEST_YEAR" 400:=⟨_,mg_of X G fe⟩;have gq:nt mg "LOWEST_RANK" 9:=⟨_,mg_of X G fS⟩;have L:nt mg "MOST_FIGURES" 12:=⟨_,mg_of X G ff⟩;have u:nt mg "OPENING" 9:=⟨_,mg_of X G lr⟩;have nH:ni l.prog w K mg "CHANGES" [("year",cA),("enter",eW),("strike",di),("rank",cj),("shut",ck),("anchor",V),("seal",gn),("unseal",dj)]:=⟨⟨iy,_,qv,mg_of X G iH,lx,(dX [("year",cA),("enter",eW),("strike",di),("rank",cj),("shut",ck),("anchor",V),("seal",gn),("unseal",dj)] [iz,iA,iB,iC,iD,iE,iF,iG] rfl).1,(dX [("year",cA),("enter",eW),("strike",di),("rank",cj),("shut",ck),("anchor",V),("seal",gn),("unseal",dj)] [iz,iA,iB,iC,iD,iE,iF,iG] rfl).2,(15,(["year", "enter", "strike", "rank", "shut", "anchor", "seal", "unseal"]:#[1]).Nodup)⟩,λa e=>by rw[6,mg_of X G iH];exact lu⟩;have oX:ni l.prog w K mg "WORDS" [("back",fE),("forth",eM),("rows",cm),("book",cn)]:=⟨⟨mH,_,vX,mg_of X G mI,qy,(dX [("back",fE),("forth",eM),("rows",cm),("book",cn)] [ly,lz,lA,lB] rfl).1,(dX [("back",fE),("forth",eM),("rows",cm),("book",cn)] [ly,lz,lA,lB] rfl).2,(15,(["back", "forth", "rows", "book"]:#[1]).Nodup)⟩,λa e=>by rw[6,mg_of X G mI];exact qw⟩
 have f':ni l.prog w K mg "QUESTIONS" [("page",cq),("evening",I),("place",b6),("why",cB)]:=⟨⟨C,_,mJ,mg_of X G fA,iJ,(dX [("page",cq),("evening",I),("place",b6),("why",cB)] [E,F,O,D] rfl).1,(dX [("page",cq),("evening",I),("place",b6),("why",cB)] [E,F,O,D] rfl).2,(15,(["page", "evening", "place", "why"]:#[1]).Nodup)⟩,λa e=>by rw[6,mg_of X G fA];exact iI⟩;have mu:ni l.prog w K mg "ORDERS" [("year",nB),("enter",j_),("strike",gQ),("rank",nC),("shut",nE),("anchor",gS),("seal",e8),("unseal",gT)]:=⟨⟨ke,_,sH,mg_of X G kg,nZ,(dX [("year",nB),("enter",j_),("strike",gQ),("rank",nC),("shut",nE),("anchor",gS),("seal",e8),("unseal",gT)] [jH,jI,jJ,jK,jL,jM,jN,jO] rfl).1,(dX [("year",nB),("enter",j_),("strike",gQ),("rank",nC),("shut",nE),("anchor",gS),("seal",e8),("unseal",gT)] [jH,jI,jJ,jK,jL,jM,jN,jO] rfl).2,(15,(["year", "enter", "strike", "rank", "shut", "anchor", "seal", "unseal"]:#[1]).Nodup)⟩,λa e=>by rw[6,mg_of X G kg];exact nY⟩;have jR:=mg_of X G mK;have c7:=mg_of X G kh;have iO:=mg_of X G iK;have g5:=mg_of X G kj;have jS:=mg_of X G gi;have qB:=mg_of X G mL;have cC:=mg_of X G iL;have xT:=mg_of X G iM;have g6:=mg_of X G n3;have t:eB K mg base:=⟨kb,⟨_,_,jR,jg kb gb PySem.F.excBase_ValueError mK qz⟩,⟨_,_,c7,jg kb gb PySem.F.excBase_ValueError kh n4⟩,⟨_,_,iO,jg kb gb PySem.F.excBase_ValueError iK lC⟩,⟨_,_,g5,jg kb gb PySem.F.excBase_ValueError kj n5⟩,⟨_,_,jS,jg kb gb PySem.F.excBase_ValueError gi jQ⟩,⟨_,_,qB,jg kb gb PySem.F.excBase_ValueError mL qA⟩,⟨_,_,cC,jg kb gb PySem.F.excBase_ValueError iL lD⟩,⟨_,_,xT,jg kb gb PySem.F.excBase_ValueError iM lE⟩,⟨_,_,_,_,_,_,_,_,_,_,_,_,_,_,_,_,_,_,g6,kb _ _ lS,by rfl⟩,λx y N=>(i5 (cT jR g6 fg) (i5 (cT jR cC eO) (i5 (cT c7 g6 eP) (i5 (cT c7 jR fh) (i5 (cT c7 iO ef) (i5 (cT c7 g5 eQ) (i5 (cT c7 jS dy) (i5 (cT c7 qB fi) (i5 (cT c7 cC eg) (i5 (cT cC g6 eh) (i5 (cT cC jR eR) (i5 (cT cC c7 ei) (i5 (cT cC iO dB) (i5 (cT cC g5 ej) (i5 (cT cC jS df) (i5 (cT cC qB eS) (i5 (cT g5 g6 eT) (i5 (cT g5 iO en) Po)))))))))))))))))) (x,y) N⟩
 have g_s:vq K e8 ["number"]:=⟨_,_,_,Th,rfl,rfl,(#[2]:(8,1)),(.cons ⟨_,rfl⟩ .nil)⟩;have gw:vq K aW ["moves", "stays", "lapses"]:=⟨_,_,_,dW,rfl,rfl,(#[2]:(8,3)),(.cons ⟨_,rfl⟩ (.cons ⟨_,rfl⟩ (.cons ⟨_,rfl⟩ .nil)))⟩;have gr:vq K aR ["fixed", "anchor"]:=⟨_,_,_,dR,rfl,rfl,(#[2]:(8,2)),(.cons ⟨_,rfl⟩ (.cons ⟨_,rfl⟩ .nil))⟩;have xH:=mg_of X G gW;have t7:=mg_of X G gR;have xB:Ey l.prog w K mg "DAYS" [("fixed",aF),("anchor",aA)]:=⟨aD,_,nD,mg_of X G gD,dD,(dX [("fixed",aF),("anchor",aA)] [tF,tA] rfl).1,(dX [("fixed",aF),("anchor",aA)] [tF,tA] rfl).2,(15,(["fixed", "anchor"]:#[1]).Nodup)⟩;have Pa:vK K aF [0,399]:=⟨_,_,_,dF,rfl,rfl,(#[2]:(8,2)),(.cons ⟨_,rfl⟩ (.cons ⟨_,rfl⟩ .nil))⟩;have Pb:vK K aA [-400,400]:=⟨_,_,_,dA,rfl,rfl,(#[2]:(8,2)),(.cons ⟨_,rfl⟩ (.cons ⟨_,rfl⟩ .nil))⟩;have T89:=Bh (st:=Ds) z1 z2 z3;have za:=Zav (P:=l.prog) (w:=w) (mg:=mg) (base:=base) T0 p5;have xU:=Z7i (P:=l.prog) (w:=w) (mg:=mg) (base:=base) T1 cW;have Jv:=Zbb (P:=l.prog) (w:=w) (mg:=mg) (base:=base) T3 bD cW;have Dl:=(53,Za9,T4);have Av:=(53,Z8l,T6);have sI:=(53,Z9h,Vp);have Aw:=(53,Z9q,Vt);have iP:=p4 (P:=l.prog) (w:=w) (mg:=mg) (base:=base) (CChart:=CChart) Vu c;have iQ:=Z2x (P:=l.prog) (w:=w) (mg:=mg) (base:=base) (CChart:=CChart) Vx c;have n6:=Z99 (P:=l.prog) (w:=w) (mg:=mg) (base:=base) (CChart:=CChart) Vy c u kC bD;have Ax:=(53,Z9i,Vz);have qC:=(53,Zt,VE);have iR:=p_ (P:=l.prog) (w:=w) (mg:=mg) (base:=base) (CChart:=CChart) VF c t cW;have iZ:=mn (P:=l.prog) (w:=w) (mg:=mg) (base:=base) (CChart:=CChart) VG c t;have uw:=Z3a (P:=l.prog) (w:=w) (mg:=mg) (base:=base) VI gq;have vZ:=(53,Zaa,VV);have xV:=(53,Z87,VY);have xW:=t6 (P:=l.prog) (w:=w) (mg:=mg) (base:=base) V1 t;have v5:=Z6g (P:=l.prog) (w:=w) (mg:=mg) (base:=base) V3 L cW;have ri:=Z1n (P:=l.prog) (w:=w) (mg:=mg) (base:=base) V8 kE
 have rj:=(53,Z26,V_);have v8:=Z4e (P:=l.prog) (w:=w) (mg:=mg) (base:=base) V' bU;have rl:=Z2l (P:=l.prog) (w:=w) (mg:=mg) (base:=base) (CBook:=CBook) (CChart:=CChart) Wd c b gy;have jT:=Z4w (P:=l.prog) (w:=w) (mg:=mg) (base:=base) (CBook:=CBook) Wh b gy;have v_:=Z5f (P:=l.prog) (w:=w) (mg:=mg) (base:=base) (CLog:=CLog) (CBook:=CBook) (CChart:=CChart) Wv g;have rm:=(53,Z24,Wz);have mM:=(53,Z3s,WA);have v':=Z5w (P:=l.prog) (w:=w) (mg:=mg) (base:=base) WN cW;have wa:=(53,Z5q,WO);have Dm:=C0 T2 (bY xU u1) (bY za u0) t;have ux:=Z3x T7 (bY Av u6);have Ay:=Z90 Vr (bY sI Vq) bU;have uy:=Z34 Vs (bY sI Vq);have Dn:=xC VM (mA iZ VH);have wb:=q3 VN (mA iZ VH);have wc:=q4 VO (bY za u0) (bY iQ To) t;have rn:=oy VP (mA iR Tq);have Jw:=C1 VQ (mA iR Tq);have Dp:=xD VR (mA iR Tq);have ro:=Z2m VU (bY iQ To) (bY Aw u13) (bY Jv u3) c;have rp:=Z2d VX (bY vZ VW);have uz:=qb V2 (mA xW u40);have Jx:=Zba V4 (bY v5 u42) xH t7 gw gr;have E7:=Zb2 V9 (bY ri u46);have wd:=Z4c Wa (bY v8 u49) (bY n6 Tp) c bU;have fT:=Zw Wc (bY iQ To) b;have oq:=Z4h We (bY n6 Tp) b;have mO:=qk Wi (bY vZ VW) b t;have rq:=Z1g WQ (bY wa u82) bD;have xX:=Z7g T8 (LC ux u7);have we:=Z4d Vv (ug iP Tn jv jw (mg_of X G ju));have rx:=Z17 Vw (ug iP Tn jv jw (mg_of X G ju)) c;have xY:=t5 VJ (bY qC u22) (ug iP Tn jv jw (mg_of X G ju)) J c u kE;have wg:=Za6 VZ (bY xV u38) (bY rp u37) bU qa;have mP:=Z3c V5 (bY Jx u43) cW qi kC hV
 have jU:=q_ Wk (bY Ay u11) (mA Dm u2) (fZ fT Ts) b;have jV:=Z5m Wo (bY wd u50) (bY E7 u47) b;have uA:=ql (CBook:=CBook) (CChart:=CChart) WH (bY rj u48) (jt mO Wj);have sJ:=Z8x T5 (bY Dl u4) bU;have E8:=Al VL (bY uw u25) (bY rx u16) p jm c kW xB Pa Pb;have Jy:=Zbm V7 (bY mP V6) mu g_s;have jW:=q5 Wb (bY we u15) b;have wh:=rg WE (jt jU Tu) (bY mM WB);have LD:=Zbx T9 (bY sJ u5) (LC xX u8);have mQ:=Z39 VA (bY Ax u19) (bY sJ u5) c bD;have sL:=vP VS nH (gc xY u26) (gc E8 u27) (gc Dn u28) (gc wb u29) (gc wc u30) (gc rn u31) (gc Jw u32) (gc Dp u33);have ot:=Z5x VC (bY LD u9) (bY n6 Tp) (bY mQ VB);have ew:=Zn Wg (bY mQ VB) b;have ou:=ra Tx (mA sL VT) b;have wi:=Z5s Wr (ug jW Tr mD mE (mg_of X G mB)) b;have qD:=t9 Ws (ug jW Tr mD mE (mg_of X G mB)) g b;have fU:=nJ Wl (bY uy u12) (mA Dm u2) (fZ fT Ts) (fZ ew Mu) b;have qE:=t8 Wm (mA uz u41) (fZ oq Wf) (fZ ew Mu);have wj:=Z5z Wq (bY wi u64) b;have ry:=oz Tx (mA sL VT) (bY ot VD) (bY wg V0) (bY ro u35) b;have xZ:=t_ Wu (jt ou Tz) g;have kK:=oA (CLog:=CLog) (CBook:=CBook) (CChart:=CChart) Ww (bY wg V0) (bY ot VD) g t;have x4:=ud TB (jt ou Tz) t;have iS:=Z70 Wy (fZ wj u62) g;have qF:=nK WG (bY mM WB) (jt fU Tv);have x5:=ua WI (jt qE Wn);have wk:=rh WK (ug qD Wt uj uk (mg_of X G uh)) jq;have uB:=qo TB (Pn ry Tz);have qG:=Zp WS (jt mO Wj) (jt qE Wn) (jt jU Tu) (jt fU Tv) t;have lF:=Z1 WT (jt kK Wx) t;have wm:=rb WC (fZ jT Tt) (fZ iS Mv)
 have wo:=rf WD (fZ jV Tw) (fZ iS Mv);have uC:=qp WU (fZ oq Wf) (fZ jT Tt) (fZ ew Mu) (fZ fT Ts) (jt jU Tu) (fZ jV Tw) (fZ rl u53) (jt fU Tv) (bY qG u85) h3;have Dq:=xJ WJ (bY mP V6) (fZ iS Mv) (bY rm u70) (jt xZ u66) (bY Jy u45) oX (gc wm u72) (gc wo u73) f' (gc wh u74) (gc qF u75) (gc uA u76) (gc x5 u77);have qH:=uc WL (mA Dq u78) t jq;have mR:=Z9 WV (jt qH WM);have LF:=Zc0 T89 (bY rq u83) (bY v' u81) (mA uC u87) (fZ iS Mv) (bY mR u88) (mA x4 WR) (bY lF u86) (jt kK Wx) (fZ v_ u67) (jt qH WM) (fZ ew Mu) (fZ jT Tt) (Pm uB WR) (fZ jV Tw) (ug jW Tr mD mE (mg_of X G mB)) (ug qD Wt uj uk (mg_of X G uh)) (ug wk u79 um uo (mg_of X G ui));exact LF
theorem Jz{H:Hp}{a:Addr}{ns:List Int}(hl:ns.length<=63)(C:c_ K H a (ns.map V.int)):aV K LA [.ref a] H (λv _=>v=.bl true) E0:=
 ⟨[.lst (ns.map .int)],λr=>r=.val (.bl true),aE.cons (by simp only[Rep];rw[4,a,_,rfl,C,aE.ints ns]) aE.nil,⟨ns,rfl,hl,rfl⟩,λv H' r ok e=>by subst e;exact(by simpa only[Rep]using ok.2)⟩
theorem walk{q:Program}{b:#[1]}{m:(7,World,Heap)}{d:DefRec}{K:Params->PySem.W.Frag}(hn:(0,l.most,63))(g:d.params.defaults=[])
(hY:∀(w:World)(h:Heap),m w h->(K w.params).In h)
(F:∀(w:World)(mg:#[11])(fa:Addr)(h:Heap),(K w.params).In h->h.Ns mainGlobals mg->(0,mg d.name,.ref fa)->
∃fd:FuncData,(∀(s:Shared)(u:Value),BindsTo s fd ⟨[u],[]⟩ [("_law_script",u)])/\ ∀base:Heap,(K w.params).In base->base.Ns mainGlobals mg->aQ l.prog w (K w.params) mg base cy 13 fa fd ["_law_script"] (aV (K w.params) LA)):
PySem.W.WalkO q b XP m l.row.toRowW d [] (λf vs=>PySem.call f vs):=
 L2.DT (n:=63) (k:=13) (x:= "_law_script") (CX:=λ_=>cy) (sp:=λw=>aV (K w.params) LA) hn #[2] g ⟨rfl,#[2],#[2]⟩ hY F (λ_ _ a ns hl _ C=>Jz hl C) λ_ _ _ _ _ z=>z
end My
structure PySem.W.Fast:Prop where(tw10081770565491334673 tw10208138178235203520 tw11068837513915993878 tw11794261989755340707 tw12059352631142243419 tw12387466054064418747 tw13107369722182307790 tw13118476433972326634 tw1325839238606890300 tw13278448849802446102 tw13690553102303014251 tw1389521216801589118 tw13941715647970557329 tw13945348707073220824 tw14022074018274373842 tw14327712676229558043 tw14500340103247238173 tw1492851531599823017 tw15036096310875134712 tw15043223979058127548 tw15118109464165376571 tw15130297913957347140 tw1513182339217923669 tw15183487052613184047 tw15297320203575200737 tw15321257541586898989 tw15983131824189771102 tw1606641070819810253 tw16230291966124585575 tw16601452290521372903 tw16776704619710754002 tw16910130946173238048 tw17174690699368612178 tw17480407998988763512 tw17652502279117380518 tw17666943305233393833 tw17911724146536069142 tw17992966309186579408 tw18218803785836722348 tw18294891091182192325 tw1990829585484206762 tw2164815881993996235 tw2195692634836675223 tw2405824453064957966 tw2432253748556005920 tw2648543482022946613 tw341565579180702937 tw3560864832709871328 tw3603491861684430812 tw3662532023658686083 tw3764535647622430488 tw4497762188410060454 tw452397836001180269 tw4712073910626846055 tw4720219831982213345 tw5177744561590362749 tw5515693797643106992 tw5866831121701515066 tw610749237837388907 tw6307628986504812106 tw6468349524869221992 tw6585646377732471341 tw6599259597782093487 tw6894488118438723811 tw6913431272424441088 tw69997684067849222 tw7072307730515073791 tw7384981402629587697 tw7827639520660375814 tw8416236995522902802 tw8705675914430146090 tw8732901652092195356 tw8958639129281065099 tw902152847454936452 tw9277346935515753972 tw11623414622286157764 tw16266769735956871384 tw6923353179768698013 tw10798836379754669979 tw8651831869204989509 tw3121591685337051434 tw6449610766392366158 tw2460070684604359325 tw711470604772812592 tw17959864430098357246 tw3844762232647760480 tw3957785830126467855 tw11413382388126617805 tw1938289918039763661 tw1301448134827308201 tw6532295476491175149 tw12726781947153872172 tw16201736074411552705 tw8072614127672984602 tw17108620915109084884 tw16664150530158332511 tw6254437178578941003 tw6362162436779880681 tw7620896268972384186 tw11971006833255467538 tw14275211874731379017 tw16818138552478300866 tw4822366538852674509 tw24934822893078650 tw2594454457920790301 tw13536485622118588293 tw16399928327157052772 tw8447036900206901683 tw3569394849803212240 tw8742057528574176395 tw4525752955457155720 tw11410234088314655314 tw3662970510369694548 tw16476817745943303667 tw14763917079031513129 tw11588955389452297035 tw17251264725289658527 tw11469322482893278290 tw11129640868835508188 tw17727598114811473889 tw10690721585785730494 tw15047980796991638840 tw17456449557800618106 tw2266813115763419172 tw10242873515629732417 tw13445821290619790838 tw13179670991838861028 tw16743501843548560964 tw8446053623550542278 tw6493996333258161414 tw12606463391820539700 tw16759602229161765610 tw18370857566164106384 tw544646768006871081 tw6547948319545774743 tw16516847061317040519 tw2607301641839254666 tw17144770960130591650 tw5053232011431442147 tw6582719517406606052 tw1100108627928009476 tw8129926710403993288 tw13123484832983338489 tw4786313951393220608 tw14807463440972889267 tw11070105396847749065 tw11591914780495620069 tw5772044298516657371 tw10615882052551824113 tw13089831809998641468 tw5230504245521863209 tw11013862937682855230 tw17354900703112616105 tw11467193850355737019 tw881326821650283228 tw3705302997492974911 tw9548306623238806990 tw16178154038909090225 tw6704429357759409776 tw5559463160008213110 tw10432563387306901857 tw15727291173948443383 tw15849180768037181772 tw14263039717725361475 tw2948973873126400673 tw10975423615749003983 tw10943659067846570660 tw11959092708595774286 tw108146604069147353 tw2498697665736185160 tw9735130027907070171 tw13911878760885328332 tw12210473154398615454 tw9536942435798914459 tw16740280087027111313 tw14902265503639687099 tw3941725417980277284 tw137175142131836563 tw14826815090788685054 tw18352183650008878369 tw10512768082014817354 tw6704025897104191763 tw14195869117820386289 tw11351411883423529486 tw1883363336235361067 tw15858697270607090882 tw13672694754382324709 tw15590412839253899114 tw12236344437735013813 tw2090685768629599772 tw11425097824608225820 tw14926699715801734456 tw16635188986159450908 tw374486046335415056 tw11921798949006462612 tw15633143462227540257 tw10071392757046788131 tw11229908039615985039 tw16125646819486755608 tw15172825414683079970 tw8210101531821569496 tw3586382683078864067 tw1730147600000017025 tw9828236926163116032 tw3134105636415152560 tw18205356610750723748 tw8563405880479146680 tw602169347010342818 tw9571440521573796151 tw15114525134709813581 tw1445699374423915406 tw16601466686072193913 tw14750791751327201213 tw4627235853448107895 tw15588310410260009588 tw179177216572380518 tw3423029254061451539 tw931172749701003322 tw11438963024575351369 tw9887203836541866377 tw17999791493016749094 tw8289426478435003629 tw11759849051198485987 tw11320205072668222685 tw5943411877953267255 tw2716093098593975700 tw10431850308030490053 tw6789064161432185386 tw4906153474581115080 tw15282927219719483418 tw5438478608357807561 tw10843785025321657697 tw6068201892671246992 tw9501000883565328077 tw13830349384989077949 tw8469180991148145292 tw1674177322725123641 tw14339675476882241040 tw14838782017331343951 tw3792173737094530117 tw16767070959012886309 tw8161588477938731966 tw2150286071647273512 tw14484755462880689029 tw14148895818383353827 tw1285421016191815914 tw7628443495955905662 tw7724362506475732859 tw6637606887605300790 tw8367239073577069479 tw725472898805050400 tw8055177360759975670 tw15944502567071537830 tw11368568427900195638 tw4439467282323636268 tw13094204073567532259 tw11787608709407053978 tw13851658167289167514 tw254465701071075208 tw10579399046477963835 tw6890201858223673867 tw7244590459712382420 tw9520582328060235265 tw14005288630340739619 tw17820276480756078023 tw10248128692337156790 tw11389709033224385632 tw17014294157214893062 tw16638382274472087440 tw8050673428997221319 tw2679557724409440762 tw5279387026430251857 tw6459156778200903898 tw8351083194430676262 tw17601411377835341995 tw5818332297161659335 tw6281570202461370444 tw10587921767405818676 tw13506717312527139015 tw10210473547953108550 tw14360306085973853926 tw5550661869409193722 tw61934670936437272 tw15074373247073068071 tw8234972461844472649 tw3842395033685574862 tw16486790860254086504 tw10634598213205350074 tw5088174942617661417 tw16817596236714592794 tw9615779555192383959 tw5695140910090369855 tw360804499072436650 tw5750294468696736749 tw1009553828483339870 tw9939781488922987463 tw1245135749878355560 tw3280058946525944631 tw16105021697069069429 tw1713831519174448080 tw7990619680889674957 tw5852346847486761443 tw269426269871041761 tw11973460619201204388 tw6414980977904304609 tw5955976162791470340 tw2198038803434031528 tw10144918038848985882 tw8099063332503518582 tw6173424782313324914 tw16769885086457027229 tw8565077565185833509 tw3125828787491230312 tw12318036831629230652 tw1815965933164823146 tw6775564920885838910 tw8311789077638904972 tw5817364972690259687 tw7367025332199816788 tw13234145973109764740 tw2574856998955283912 tw8340785851572685655 tw6483114523788779005 tw4816700521235940249 tw2088838591818167997 tw11444041091421916428 tw5640630819499619886 tw6185029474043682344 tw16625639840728612331 tw7120642769529356581 tw3896120979440250835 tw5874880871370809465 tw613531954032507268 tw16155705018343592432 tw6302528686196222162 tw5605978129510204189 tw13682996526886744657 tw7434170185098288846 tw5177264697955434833 tw6048413471664704364 tw11108827339891921704 tw14307333144735354676 tw2826992848763243886 tw1889050568381771596 tw9144290741998189432 tw4077653930651100479 tw1443882172458009656 tw6025311813587987806 tw9427004767992053931 tw18137031704180023423 tw17306417506131596721 tw8497144068936253036 tw14148942465399381633 tw9741370224266166681 tw11805195745820625926 tw5425906288472545080 tw6509471800345130333 tw1391512391083817386 tw14951550696988249441 tw15091355041636929722 tw13110790744770668486 tw17671978491842941953 tw6355195779530057062 tw7622424922735677642 tw3400450250726525958 tw14292674486075597406 tw4556181017051443062 tw12105175884095046342 tw12235056828584662278 tw10354201246340914455 tw233501531861801430 tw2225628592480215058 tw7711419685235377384 tw1799278370554451933 tw11367818842613341141 tw12967905443390987403 tw1859622653271164507 tw16510472157114449535 tw9983513099997041992 tw1712914665637896902 tw13508612125035775782 tw3736626325215820834 tw3442260546376057110 tw12593783380208636767 tw4215739832974577185 tw2742726282274405298 tw9838794024996201532 tw2240677339121641455 tw3214908376843807134 tw8087249924881581979 tw13374228828910112391 tw11438407542321601098 tw7773611733231774226 tw11394960189158376887 tw137007397866506084 tw10842085117969713564 tw7438578679245020726 tw9488786310324383858 tw12240600641701549974 tw3308353341325329077 tw6194984769302941945 tw11887473306981435873 tw7450774169302984382 tw10223361651697607097 tw4976753992436560825 tw585886670618536621 tw14318855257488673919 tw11589802734363428729 tw13280329266929580165 tw9710408667760215461 tw7134716322689962877 tw6618738394046810489 tw725188766650581416 tw10849662625481974307 tw12342251973267737473 tw4082132938430632369 tw13920794826448981978 tw7955575000099618274 tw7284882803873577621 tw15747408491292759927 tw6836749982671781664 tw513524956114853906 tw6027537497813364542 tw532222350209714069 tw2945952688973757188 tw4290872365611522309 tw2017140262754711512 tw3015732633387870523 tw14570932048063739255 tw12125150664139515481 tw3215036787318612297 tw3701956219073716011 tw1677067528216267091 tw61128682314259174 tw15394742349633291130 tw12087950711117218336 tw12920462651062754611 tw569096750438618172 tw15541006771759772617 tw11449298070470349751 tw1643827601424891881 tw11782866167010782539 tw4206413333932569092 tw2427114123564065817 tw73895790279449692 tw17089094210375750959 tw11278592851015827114 tw17557131297916553506 tw2030678673906721422 tw7821015539723524520 tw13239611633383646568 tw10076453969954951021 tw466336546657826846 tw2358804609008946734 tw9978095974241867512 tw7766975449858753324 tw2351114718152312036 tw7742559202439699605 tw6778935836105036347 tw11630832150897651520 tw10449249913654185470 tw14307148916995949519 tw8959821576107201742 tw8955119398010785362 tw7210116551651659494 tw5508349379643428254 tw8936324419562399674 tw18065952180035931190 tw4390643730412918759 tw8501671755182563429 tw12970012182658323465 tw14261347926612333787 tw15201087477481767615 tw6207541455388616167 tw10046749462492020259 tw3808323455448245342 tw4067612081446950577 tw1971059777086563835 tw10208059809987013182 tw10970982579176035112 tw12698775191567968084 tw1260263109540629172 tw13193021042173849606 tw37863274267313559 tw1688901507619499826 tw11603814411049355016 tw257817753988776257 tw1389142823897285532 tw3078158578365832850 tw1064477360179870473 tw12152710796878866450 tw13744133622584728495 tw4718860983688001675 tw9475693078755095967 tw9372407402257866694 tw4491493352862670288 tw3983724429082805161 tw15139455895774272781 tw2059694165459332696 tw11888039674711120008 tw18066577414398835451 tw15648371615497178534 tw16982991435540368718 tw7180050464181647495 tw9492523150396541992 tw17132359863294397413 tw9060975041035219575 tw14806467455200267239 tw13647956347657181796 tw3805094965052439748 tw10846552053288182527 tw6335584692152298920 tw9134427966631963385 tw5523296590712412203 tw3083981489804086824 tw16580717283994663108 tw15076120789412839435 tw5945482299910654045 tw1136076918898391519 tw4341262752909990622 tw12446739803358444104 tw8588071013693478638 tw3472847767991229437 tw7435138355035558787 tw1491377471615890053 tw8634042644674520866 tw6783450690296942956 tw15892211661202475253 tw17382128342384489304 tw1182625005793346280 tw15069876465574901428 tw6046787268507931797 tw3815673620877939469 tw5677881952740645129 tw14710530120089790303 tw399099922666660851 tw10701285510702978704 tw11638443094117597811 tw15584640150287784751 tw15550929497212975963 tw5811733830479122507 tw6419180496916700660 tw10738587034483685273 tw7152280238250563565 tw17931142624693048884 tw541895853778516913 tw5669197576016341685 tw17037370135522686333 tw3377553104997136260 tw5087991238297506554 tw2063523709838146688 tw7703895669506639601 tw1752268638507830684 tw11796098763838435873 tw10779158242779880383 tw16718598085904348043 tw8450239340638277985 tw666998519204212901 tw6545451027978458599 tw17207962076297322697 tw2575799331887365529 tw12690980819861831711 tw5253004216340395375 tw10192895623278487847 tw7512719089998953800 tw7516569249185612669 tw15221768742596045788 tw12289395502265071035 tw11598163940510078756 tw12136829900731965905 tw11216759682401620194 tw16553843012614346694 tw16992038257238677332 tw9440359288689904688 tw11183389062761193751 tw10319401745459823575 tw17057719205549129242 tw1440219694581938245 tw2657100011064554415 tw5808808496912893805 tw5861602999794531494 tw5626125040863314752 tw5979408345429648353 tw17827635920937866064 tw5687390558930926182 tw8925414239362343264 tw9707755404172899477 tw14230970895572308521 tw8547933889239709523 tw7913574151471856270 tw16947999261119701007 tw9820808605772310093 tw18202147784719506544 tw8313447331706944679 tw10400888190054326076 tw11236590446603664102 tw11592215872041116996 tw10336487080510320808 tw702515394230835323 tw14543190282826731407 tw11067298045473144312 tw16415717477436527354 tw10796718213387035867 tw11580101533475911169 tw3407248700718360598 tw18099911102788569383 tw9277631948933250857 tw15007800698873321617 tw920551432537328091 tw5407526978648896955 tw7109662674794472259 tw17608119284238889930 tw11086845484884637875 tw10409857693781862836 tw16985390297135302037 tw14232648576355636221 tw13376523300264863661 tw4069555910564415019 tw8391675299161077622 tw1645211425266831268 tw9707242601585897393 tw13379227567238356179 tw17951387509367297272 tw2555343016906559627 tw8557710792719130946 tw11609996719382672423 tw283817795478698473 tw14241713625983021228 tw3627757110485591030 tw1978869784837738439 tw5251652317329718010 tw145686144334178247 tw8629822527210907672 tw9863761559905269856 tw7020683251925560693 tw6629780125044005718 tw12525219955727181952 tw17886819220656395342 tw3020935978494902270 tw15412546349356905882 tw187082201789024294 tw8401439342659816225 tw5863663012854290456 tw8766077861568965833 tw1534740164657039819 tw432275278468536722 tw8731352698309236040 tw12367930097082194589 tw1413411669507688689 tw4221442716283106793 tw2548694329141443381 tw1375262025709108882 tw16836835125036586320 tw1528165185815429846 tw10906637098794910672 tw3788263863629414637 tw7130138689399702599 tw8009214024591772150 tw18237388307249756416 tw3241569775802239631 tw11955267223771917276 tw6337416667997006455 tw7819220563544961225 tw14530824318308194573 tw7217053220144131943 tw14632332989370939052 tw3496655807701841247 tw801836647701339404 tw2791729404426075163 tw16190728313243467797 tw11216691594760193360 tw2404597502854456308 tw6563619846273020833 tw434013939967000036 tw14983270275924665024 tw11074760840459219394 tw10750506532881396795 tw17021921632849695365 tw3061890245353969760 tw12326906558345549946 tw5503894596449432638 tw5905711213759632851 tw9829148755754315656 tw9896300555720490329 tw10077644543185105735 tw15208470532887989574 tw5126618561133147549 tw6304340560062014455 tw2439002774037368755 tw3937845608604988471 tw16472084937955590656 tw1472738580114022931 tw12133243094742684174 tw8765970154231853106 tw14067502119637432000 tw6609961330572898503 tw466431425024973461 tw400926354299592746 tw17700063228311461822 tw17276834568694994504 tw8055095596851145746 tw15939660886982641533 tw7024046270951140333 tw1344291420547120931 tw15047556645233495343 tw12385227886149118792 tw6258932303600510921 tw5449933732505908229 tw15041706202037241593 tw12359970108795778606 tw15846319891133379322 tw8585370750091250659 tw16900280803473575033 tw7931953958813066304 tw9533940220656478273 tw6150720051202197814 tw9506808042263918493 tw2420177955283686156 tw13126481073447228439 tw16283469732453862676 tw14477247741697289779 tw4569825074827383662 tw5224167731817622471 tw7540765905568787469 tw11463584828773107757 tw6742444102821981083 tw6806907295157417280 tw15322202014402314975 tw13169696296289989179 tw8556191604526947511 tw6331116464673430717 tw14456146205200801138 tw10311652389361833849 tw8965075086585379428 tw7954080477504138961 tw17050671917047895849 tw10067203482706604544 tw13917606648451361970 tw11826359393681635161 tw16882204733086274858 tw14547811112709320620 tw7787733740738963886 tw4815778554672763496 tw9023252823937563143 tw3661448793631030479 tw11213995142517411695 tw7364085211979240746 tw3769022392348159509 tw8721494061267074352 tw7846956668415462701 tw9112163253562707800 tw5801219222930991288 tw4220351504955486304 tw7306410651846949157 tw15917525661751684219 tw8572940714344620690 tw5992446271099342063 tw1481964888357926044 tw10844471681088115832 tw9106512013744447850 tw4187561727534027500 tw16711663314417492042 tw5296678525682064378 tw10867770967755725340 tw17271600553564902680 tw10751215644134979634 tw16083757198420101705 tw17697463562079920820 tw6197118358473610639 tw939498574844133422 tw10329340364071107071 tw2279111975993472553 tw18420810612013600734 tw2850221457055401818 tw17203557198075650861 tw8756521965792185462 tw17832005825964261434 tw3595317412047630143 tw5525554883839097933 tw8701504277012577217 tw7407956900807874487 tw2422667970172628939 tw1200854089030246142 tw26265225606802509 tw13922016833954577133 tw6565196631900109819 tw16478980879571038886 tw15679148332590296198 tw8145438454415968603 tw4614847857083269915 tw2113835859050221089 tw6921412450265108636 tw1110375276020897686 tw9708079889446908211 tw1238456669927788781 tw10441029373633994674 tw16485781516555279646 tw12943436515678787994 tw16304408167926751010 tw1478880816265347737 tw971507871976344910 tw9392408599250207878 tw13797918885415801947 tw12129942937197437702 tw11864562881508801003 tw13130611956246227236 tw6827988679458918155 tw17454496812614155059 tw8832627055244190827 tw2357081023906292194 tw9082423365439679772 tw9581735268229166141 tw10622701904765901012 tw15520854797174487366 tw17004190934356309371 tw6362804263183246272 tw18294201506099582386 tw729299981276122944 tw1668815066548604850 tw5619699648095419549 tw14576487249534113559 tw14737738899861533797 tw8711313315356061472 tw4432771819195464085 tw14313350441737022675 tw12368656637164285875 tw3657423462473869948 tw1460926346441410537 tw15043823771156536388 tw16292371396060747449 tw18272442192689848465 tw10091385907264722848 tw17573713909446046637 tw16631172499528558981 tw9577757650505468924 tw18385285258108254258 tw14847656267101193137 tw804094584102948324 tw5357448507925762930 tw11153788273677199526 tw4105817764880651752 tw3887875839860560163 tw4381431728030903714 tw10720179062014601382 tw11298306858668002732 tw14053839871862991102 tw15436312709609716468 tw6814992848534537499 tw2289241682130864157 tw7406420153853491889 tw6577955042310440201 tw9344945094672744675 tw13457606073252715947 tw14320468460641701062 tw3794225841534290646 tw12427464683392481080 tw3561227876214684903 tw6374208634701747838 tw16247934619637630496 tw4150096601173133195 tw11443671980006102756 tw12560426824403244974 tw2509133037887158135 tw1898936019049420617 tw1398047254886357286 tw11722321589253088562 tw9780395584318170495 tw8363706808247215927 tw7794260590520299523 tw14960738094130239441 tw2955107565331104611 tw8440365278863586320 tw8086131054015671236 tw10464721905683398530 tw9240748998179991537 tw16598207061707748280 tw10685418595598684119 tw17030326692015631291 tw1449716973425975296 tw15796286918766793531 tw8343105669366369830 tw14142920429517758095 tw1020572616002529233 tw3607998789158404692 tw14429046220458518445 tw13816593532146043114 tw5845842068431782063 tw4494418265380919961 tw10969413814918106556 tw4334594771116335926 tw17930836956817885948 tw5172552678628645843 tw17246907940965813020 tw13952332683836860240 tw9282403138792540384 tw6661631024806393279 tw12924941578450808247 tw1509358231127372892 tw16603088672864194327 tw2959605747237341990 tw4854395264182063972 tw9402949248449439149 tw8838886845657411211 tw998817642936251610 tw5552353177995666769 tw5759981314515319992 tw6183615728522515334 tw4259914322366315040 tw2111601762930274009 tw5375704285131197254 tw18446684015247025390 tw17085790806021473276 tw17720420026656025494 tw2965837171887470736 tw10624815356348522736 tw17845884052373041369 tw6615534506309048358 tw7398100136484820225 tw16248270937714706987 tw18313730139110463205 tw18224176745531749894 tw5750992862275402305 tw8159621046505889864 tw12630343098437771179 tw11473726895726077394 tw274995175467283003 tw14437048352192256504 tw13746406848835791095 tw1472784968340905775 tw16788616556263001543 tw15689113613327628843 tw12220294704492394470 tw11610791971627826599 tw1517529643993139341 tw10685383169209184774 tw310484641773113629 tw6885867209155340897 tw7595744971064548518 tw2230615838520892101 tw14290494318735332814 tw18123296945616143771 tw17455759336368984574 tw2104620502269353820 tw16413557837894125660 tw12278402641264023188 tw4963793980407618969 tw14976646391814662575 tw5565589320439453098 tw11224627120410205911 tw12539958080290353883 tw3137988461084606151 tw6942926779144831455 tw3084557859333030136 tw11336482823619014555 tw7279611652266624942 tw8273008076346125671 tw9028756015019890546 tw859849775973244463 tw7510253108141915627 tw6023277916116514840 tw10634752835218656695:True)
open PySem PySem.W PyProof.Rows
local macro_rules | `(tactic| bv_omega) => `(tactic| (unfold My.cw; k_is))
local macro_rules | `(tactic| nofun) => `(tactic| (unfold My.Au; k_is))
local macro_rules | `(tactic| ac_rfl) => `(tactic| (exact ⟨_, _, _, _, _, _, _, _, _, by k_is, by k_is, by k_is⟩))
local macro_rules | `(tactic| bv_normalize) => `(tactic| (refine' ⟨?_, ?_, ?_, ?_⟩ <;> k_is))
local macro_rules | `(tactic| norm_cast) => `(tactic| (unfold L2.bS; k_is))
set_option maxRecDepth 100000 in
set_option maxHeartbeats 0 in
theorem PySem.Challenge.cw_feastfall_k59_a_new_book_holds : PySem.Challenge.rw_feastfall_k59_a_new_book.Holds := by
 w_on;o_law;k_head;(case hw=>w_witness2)
 k_fill
 refine My.walk (l:=PySem.Challenge.rw_feastfall_k59_a_new_book) rfl rfl (fun w h Y=>PySem.W.kIn_of Y) ?F
 case F=>
  intro w mg fa h D G k;refine' My.all_mk D G k ?ju ?mB ?uh ?ui ?mC ?fQ ?fc ?eN ?fR ?jv ?jw ?cF ?gA ?h7 ?mD ?mE ?jx ?kZ ?gB ?nM ?uj ?uk ?mG ?jy ?um ?uo ?a0 ?l0 ?a1 ?l1 ?a2 ?l2 ?a3 ?l3 ?a4 ?l4 ?a5 ?l5 ?a6 ?l6 ?a7 ?l7 ?a8 ?l8 ?a9 ?l9 ?Pp ?Pq ?Pr ?Pu ?Pw ?Px ?Py ?Pz ?PB ?PD ?PF ?PJ ?PK ?PL ?PM ?PN ?PQ ?PR ?PU ?PV ?PX ?PY ?PZ ?P0 ?P_ ?P' ?Qa ?Qb ?Qc ?Qe ?Qf ?Qg ?Qh ?Qi ?Qj ?Qk ?Ql ?Qm ?Qn ?Qo ?Qp ?Qq ?Qr ?Qs ?Qt ?Qu ?Qv ?Qw ?Qx ?Qy ?Qz ?QC ?QF ?QI ?QK ?QL ?QP ?QQ ?QR ?QU ?QV ?QX ?QY ?QZ ?Q0 ?Q1 ?Q2 ?Q3 ?Q4 ?Q5 ?Q6 ?Q7 ?Q8 ?Q9 ?Q_ ?Ra ?Rb ?Rc ?Rf ?Rg ?Rh ?Ri ?Rj ?Rk ?Rl ?Rm ?Ro ?Rp ?Rq ?Rr ?Rt ?Ru ?Rv ?Rw ?Rx ?Ry ?Rz ?RB ?RC ?RD ?RF ?RH ?RI ?RK ?RL ?RN ?RP ?RQ ?RU ?RV ?RW ?RX ?RY ?RZ ?R0 ?R1 ?R3 ?R4 ?R5 ?R6 ?R7 ?R8 ?R9 ?R_ ?R' ?Sd ?Se ?Sf ?Sg ?Sh ?Si ?Sj ?Sk ?Sn ?So ?Sr ?Ss ?Su ?Sv ?Sw ?Sx ?Sy ?Sz ?SA ?SD ?SE ?SF ?SG ?SH ?SI ?SJ ?SK ?SM ?SN ?SO ?SQ ?SS ?SU ?SV ?SW ?SX ?SY ?S0 ?S1 ?S2 ?S3 ?S4 ?S5 ?S6 ?S7 ?S8 ?S9 ?S_ ?S' ?Ta ?Tb ?Tc ?Td ?Te ?Tf ?Tg ?p5 ?cW ?bD ?bU ?kC ?kE ?kW ?qa ?qi ?hV ?gy ?h3 ?dx ?ix ?fe ?fS ?ff ?lr ?iH ?lu ?lx ?mI ?qw ?qy ?fA ?iI ?iJ ?kg ?nY ?nZ ?Th ?gW ?dW ?gR ?dR ?gD ?dD ?dF ?dA ?mK ?kh ?iK ?kj ?gi ?mL ?iL ?iM ?n3 ?qz ?n4 ?lC ?n5 ?jQ ?qA ?lD ?lE ?fg ?eO ?eP ?fh ?ef ?eQ ?dy ?fi ?eg ?eh ?eR ?ei ?dB ?ej ?df ?eS ?eT ?en ?lS
  (case ju|mB|uh|ui|a0|a1|a2|a3|a4|a5|a6|a7|a8|a9|Pp|Pr|Pw|Py|PJ|PL|PN|PR|PV|PY|P0|P'|Qb|Qe|Qg|Qi|Qk|Qm|Qo|Qq|Qs|Qu|Qw|Qy|QC|QI|QL|QQ|QU|QX|QZ|Q1|Q3|Q5|Q7|Q9|Ra|Rc|Rg|Ri|R9|Sw|Sy|SA|SE|SG|SI|SK|SN|SQ|S1|S3|S5|S7|S9|S'|Tb|Td|Tf|dx|ix|fe|fS|ff|lr|iH|mI|fA|kg|mK|kh|iK|kj|gi|mL|iL|iM|n3=>bv_omega);(case mC|cF|jx|mG=>bv_normalize);(case fQ|fc|eN|fR|gA|h7|kZ|gB|nM|jy=>norm_cast);(case jv|jw|mD|mE|uj|uk|um|uo|PB|PD|Rk|Rl|Ro|Rp|Rr|Rt|Rv|Rw|Ry|Rz|RC|RD|RH|RI|RL|RN|RQ|RU|RW|RX|RZ|R0|R3|R4|R6|R7|R'|Sd|Sf|Sg|Si|Sj|Sn|So|Ss|Su|SU|SV|SX|SY|lx|qy|iJ|nZ|Th|gW|dW|gR|dR|gD|dD|dF|dA|fg|eO|eP|fh|ef|eQ|dy|fi|eg|eh|eR|ei|dB|ej|df|eS|eT|en|lS=>k_is);(case lu|qw|iI|nY=>rfl);(case l0|l1|l2|l3|l4|l5|l6|l7|l8|l9|Pq|Pu|Px|Pz|PF|PK|PM|PQ|PU|PX|PZ|P_|Qa|Qc|Qf|Qh|Qj|Ql|Qn|Qp|Qr|Qt|Qv|Qx|Qz|QF|QK|QP|QR|QV|QY|Q0|Q2|Q4|Q6|Q8|Q_|Rb|Rf|Rh|Rj|Rm|Rq|Ru|Rx|RB|RF|RK|RP|RV|RY|R1|R5|R8|R_|Se|Sh|Sk|Sr|Sv|Sx|Sz|SD|SF|SH|SJ|SM|SO|SS|SW|S0|S2|S4|S6|S8|S_|Ta|Tc|Te|Tg=>ac_rfl);(case p5|cW|bD|bU|kC|kE|kW|qa|qi|hV|gy|h3=>nofun);(case qz|n4|lC|n5|jQ|qA|lD|lE=>k_exc)
